import PyProof.Rows.All
import Wide.All
import OpenK.AllK
import Wide.FinOn
import PySem.Challenge.RW_pageloom_k17_whole_winding
import Lean
import PyProof.EqAt
import PyProof.EqKinds
import PyProof.TupleCall
import PyProof.P3Statements
import KE.KIntText
import PyProof.ExcBaseAll.ValueError
import KE.KTryMore
import PyProof.ExcAttrAll.ValueError
import KE.LcSums
import PyProof.Rows.InDataRows
import PyProof.ZipIter
import PyProof.Rows.SumAny
import PyProof.Rows.FactsT2
import PyProof.SeqI3
import PyProof.CompUse
import PyProof.Rows.SeqMore2
import PyProof.Cells
import KE.KUnpackStar
import PyProof.StrCalls2
import PyProof.MeetsStr2
import PyProof.ListMulRoad
import PyProof.FactsAll.tuple
import PyProof.EnumFor
import PyProof.EnumMake
import PyProof.WalksEnum
import PyProof.Rows.EnumRows
import PyProof.Draws
import KE.RegKTryMore
import KE.RegKIsAll
set_option genSizeOfSpec false
set_option maxHeartbeats 4000000
set_option Elab.async false
set_option linter.all false
set_option maxRecDepth 100000
section
namespace L2
open PySem PySem.Spec PyProof.Rows
abbrev Key := Sum Int Str
def AWT : Key → Value → Bool
 | .inl k, v => Value.isInt k v
 | .inr x, v => Value.isStrOf x v
def AbW (w : World) : Key → Int
 | .inl k => hashInt k
 | .inr x => hashStr w x
theorem N0 : ∀ {k : Key} {v : Value}, AWT k v = true → (∃ i t, k = Sum.inl i ∧ v = Value.int i t) ∨ (∃ x t, k = Sum.inr x ∧ v = Value.str x t)
 | .inl i, v, h => by
  obtain ⟨t, e⟩ := Value.isInt_shape (k := i) (v := v) h
  exact .inl ⟨i, t, rfl, e⟩
 | .inr x, v, h => by
  obtain ⟨t, e⟩ := Value.isStrOf_shape (x := x) (v := v) h
  exact .inr ⟨x, t, rfl, e⟩
theorem AWW (a b : Int) : decide ((Sum.inl a : Key) = Sum.inl b) = (a == b) := by
 by_cases e : a = b
 ·subst e; simp
 ·have h : ¬ (Sum.inl a : Key) = Sum.inl b := fun q => e (Sum.inl.inj q)
  rw [decide_eq_false h]
  exact (beq_eq_false_iff_ne.mpr e).symm
theorem AXH (a b : Str) : decide ((Sum.inr a : Key) = Sum.inr b) = decide (a = b) := by
 by_cases e : a = b
 ·subst e; simp
 ·have h : ¬ (Sum.inr a : Key) = Sum.inr b := fun q => e (Sum.inr.inj q)
  rw [decide_eq_false h, decide_eq_false e]
theorem AY7 (a : Int) (b : Str) : decide ((Sum.inl a : Key) = Sum.inr b) = false := decide_eq_false (fun q => nomatch q)
theorem AY6 (a : Str) (b : Int) : decide ((Sum.inr a : Key) = Sum.inl b) = false := decide_eq_false (fun q => nomatch q)
def AL4 (prog : Program) (w : World) : PySem.KeyKind prog w Key where
 is := AWT
 hash := AbW w
 inj := fun v a b ha hb => by
  rcases N0 ha with ⟨i, t, rfl, rfl⟩ | ⟨x, t, rfl, rfl⟩
  ·rcases N0 hb with ⟨j, u, rfl, e⟩ | ⟨y, u, rfl, e⟩
   ·injection e with e1 _; rw [e1]
   ·exact nomatch e
  ·rcases N0 hb with ⟨j, u, rfl, e⟩ | ⟨y, u, rfl, e⟩
   ·exact nomatch e
   ·injection e with e1 _; rw [e1]
 byValue := fun k v h => by
  rcases N0 h with ⟨i, t, rfl, rfl⟩ | ⟨x, t, rfl, rfl⟩ <;> rfl
 pyHash := fun hv h => by
  rcases N0 hv with ⟨i, t, rfl, rfl⟩ | ⟨x, t, rfl, rfl⟩
  ·exact wpAny_pyHash_int h
  ·exact wpAny_pyHash_str h
 eqBool := fun hu hv h => by
  rcases N0 hu with ⟨i, t, rfl, rfl⟩ | ⟨x, t, rfl, rfl⟩
  ·rcases N0 hv with ⟨j, u, rfl, rfl⟩ | ⟨y, u, rfl, rfl⟩
   ·rw [AWW] at h; exact wpAny_eqBool_int h
   ·rw [AY7] at h; exact SeqAt.EqAt.int_str i t y u _ _ _ _ h
  ·rcases N0 hv with ⟨j, u, rfl, rfl⟩ | ⟨y, u, rfl, rfl⟩
   ·rw [AY6] at h; exact SeqAt.EqAt.str_int x t j u _ _ _ _ h
   ·rw [AXH] at h; exact wpAny_eqBool_str h
 «strs» := fun k x t v h => by
  rcases N0 h with ⟨i, u, rfl, e⟩ | ⟨y, u, rfl, e⟩
  ·exact nomatch e
  ·injection e with e1 _
   subst e1
   cases v <;> rfl
inductive V where
 | non | bl (b : Bool) | int (i : Int) | str (x : Str) | byt (b : Array UInt8) | flt (b : UInt64) | ref (a : Addr) | ty (n : String)
 deriving DecidableEq
def RelV : V → Value → Prop
 | .non, u => u = Value.none
 | .bl b, u => u = Value.bool b
 | .int i, u => ∃ t, u = Value.int i t
 | .str x, u => ∃ t, u = Value.str x t
 | .byt b, u => ∃ t, u = Value.bytes b t
 | .flt b, u => ∃ t, u = Value.float b t
 | .ref a, u => u = Value.ref a
 | .ty n, u => u = Value.type n
abbrev Vals : List V → List Value → Prop := Paired RelV
theorem Vals.length {xs : List V} {us : List Value} (r : Vals xs us) : xs.length = us.length := Paired.length r
theorem Vals.get : ∀ {xs : List V} {us : List Value} {i : Nat} {x : V}, Vals xs us → xs[i]? = some x → ∃ u, us[i]? = some u ∧ RelV x u
 | _, _, _, _, .nil, e => by simp at e
 | _, _, 0, _, .cons r _, e => by simp at e; subst e; exact ⟨_, rfl, r⟩
 | _, _, i + 1, x, .cons _ t, e => by
  obtain ⟨u, h1, h2⟩ := Vals.get (i := i) (x := x) t (by simpa using e)
  exact ⟨u, by simpa using h1, h2⟩
theorem Vals.append : ∀ {xs ys : List V} {us ws : List Value}, Vals xs us → Vals ys ws → Vals (xs ++ ys) (us ++ ws)
 | _, _, _, _, .nil, s => s
 | _, _, _, _, .cons r t, s => .cons r (Vals.append t s)
theorem Vals.take : ∀ {xs : List V} {us : List Value} (n : Nat), Vals xs us → Vals (xs.take n) (us.take n)
 | _, _, 0, _ => .nil
 | _, _, _ + 1, .nil => .nil
 | _, _, n + 1, .cons r t => .cons r (Vals.take n t)
theorem Vals.drop : ∀ {xs : List V} {us : List Value} (n : Nat), Vals xs us → Vals (xs.drop n) (us.drop n)
 | _, _, 0, r => r
 | _, _, _ + 1, .nil => .nil
 | _, _, n + 1, .cons _ t => Vals.drop n t
def AbL : Option V → Option Value → Prop
 | some v, some u => RelV v u
 | none, none => True
 | _, _ => False
def KV {κ : Type} : List (κ × V) → List (κ × Value) → Prop := Paired fun (p : κ × V) (q : κ × Value) => p.1 = q.1 ∧ RelV p.2 q.2
def kV : Key → V
 | .inl i => .int i
 | .inr x => .str x
inductive HO where
  | lst (xs : List V)
  | tup (xs : List V)
  | dK (kvs : List (Key × V)) | dT (kvs : List (List Key × V))
  | set (S : Int → Bool) (n : Nat)
  | ins (C dx : Addr) (fs : List (Str × V))
  | own (x : Addr)
  | xd (fs : List (Str × V))
  | met (f x : Addr)
  | rng (lo hi : Int)
  | frz (o : Obj) (u : HO)
  | tbl (ps : Array Value)
  | ext (φ : Heap → Prop)
abbrev Hp := Addr → Option HO
def upd (H : Hp) (a : Addr) (o : HO) : Hp := fun b => if b = a then some o else H b
theorem D9 {H : Hp} {a : Addr} {o : HO} : upd H a o a = some o := by unfold upd; rw [if_pos rfl]
theorem C0 {H : Hp} {a b : Addr} {o : HO} (h : b ≠ a) : upd H a o b = H b := by unfold upd; rw [if_neg h]
theorem AUY {H : Hp} {a : Addr} {o u : HO} : upd (upd H a o) a u = upd H a u := by
 funext b; unfold upd; split <;> rfl
theorem G9 {H : Hp} {a b : Addr} {o : HO} (h : H a = some o) (h' : H b = none) : a ≠ b := by
 intro e; subst e; rw [h] at h'; cases h'
section
variable (P : Program) (w : World)
def ObjOk (H : Hp) (h : Heap) (a : Addr) : HO → Prop
 | .lst xs => xs.length ≤ sizeLine ∧ ∃ (its : List Value) (n : Nat), Vals xs its ∧ h.get? a = some { cls := .type "list", data := .seq its.toArray n }
 | .tup xs => xs.length ≤ sizeLine ∧ ∃ its : List Value, Vals xs its ∧ IsTup h a its.toArray
 | .dK kvs => kvs.length ≤ sizeLine ∧ (a == sysModules) = false ∧ ∃ vs, KV kvs vs ∧ h.DictOf (AL4 P w) a vs
 | .dT kvs => kvs.length ≤ sizeLine ∧ (a == sysModules) = false ∧ ∃ xs : List (List Key × Addr × Value),
   Paired (fun (p : List Key × V) (q : List Key × Addr × Value) => p.1 = q.1 ∧ H q.2.1 = some (.tup (p.1.map kV)) ∧ RelV p.2 q.2.2) kvs xs ∧
   ∃ o es ep, h.get? a = some o ∧ o.ExactDict ∧ o.data = .dict es ep ∧ es.toList = xs.map (entryOfKey (tupleKind (AL4 P w))) ∧ (xs.map (·.1)).Nodup
 | .set S n => h.SetOf (intKind P w) a S n
 | .ins C dx fs => H dx = some (.own a) ∧ fs.length ≤ 1000 ∧ dx ≠ a ∧ h.get? a = some (PySem.W.instObj C dx) ∧
   ∃ mA, h.Ns1 dx mA ∧ (∀ f, AbL (fs.lookup f) (mA f)) ∧ PySem.Within mA (fs.map (·.1))
 | .own _ => ∃ o, h.get? a = some o
 | .xd fs => ∃ mA, h.Ns1 a mA ∧ ∀ f, AbL (fs.lookup f) (mA f)
 | .rng lo hi => ∃ t u v, h.get? a = some { cls := .type "range", data := .fields #[.int lo t, .int hi u, .int 1 v] }
 | .frz o u => h.get? a = some o ∧ ObjOk H h a u
 | .tbl ps => h.get? a = some { cls := .none, data := .fields ps }
 | .met f x => h.get? a = some (PySem.W.methodObj (.ref f) (.ref x))
 | .ext φ => φ h ∧ (∃ o, h.get? a = some o) ∧ ∀ h1 h2 : Heap, φ h1 → (∀ o, h1.get? a = some o → h2.get? a = some o) → φ h2
def HOk (H : Hp) (h : Heap) : Prop := ∀ a o, H a = some o → ObjOk P w H h a o
end
section
variable {P : Program} {w : World} {H H' : Hp} {h h' : Heap} {a : Addr} {o : HO}
theorem ObjOk.lt (x : ObjOk P w H h a o) : a < h.objs.size := by
 cases o with
 | lst xs => obtain ⟨_, _, _, _, e⟩ := x; exact Heap.lt_size e
 | tup xs => obtain ⟨_, _, _, p⟩ := x; exact p.lt
 | dK kvs => obtain ⟨_, _, _, _, o, _, _, e, _⟩ := x; exact Heap.lt_size e
 | dT kvs => obtain ⟨_, _, _, _, o, _, _, e, _⟩ := x; exact Heap.lt_size e
 | set S n => obtain ⟨o, _, _, _, e, _⟩ := x; exact Heap.lt_size e
 | ins C dx fs => obtain ⟨_, _, _, e, _⟩ := x; exact Heap.lt_size e
 | own y => obtain ⟨_, e⟩ := x; exact Heap.lt_size e
 | xd fs => obtain ⟨_, ⟨_, _, _, e, _⟩, _⟩ := x; exact Heap.lt_size e
 | rng lo hi => obtain ⟨_, _, _, e⟩ := x; exact Heap.lt_size e
 | frz ob u => obtain ⟨e, _⟩ := x; exact Heap.lt_size e
 | tbl ps => exact Heap.lt_size (show h.get? a = some _ from x)
 | met f y => exact Heap.lt_size (show h.get? a = some _ from x)
 | ext φ => obtain ⟨_, ⟨_, e⟩, _⟩ := x; exact Heap.lt_size e
theorem Paired.mapP {α β : Type} {F G : α → β → Prop} : ∀ {l₁ : List α} {l₂ : List β}, Paired F l₁ l₂ → (∀ a b, F a b → G a b) → Paired G l₁ l₂
 | _, _, .nil, _ => .nil
 | _, _, .cons r t, f => .cons (f _ _ r) (Paired.mapP t f)
theorem ObjOk.stay (x : ObjOk P w H h a o) (k : ∀ b u, (b = a ∨ H b = some (.own a)) → h.get? b = some u → h'.get? b = some u)
  (ho : ∀ b, H b = some (.own a) → H' b = some (.own a)) (ht : ∀ b xs, H b = some (.tup xs) → H' b = some (.tup xs)) : ObjOk P w H' h' a o := by
 induction o with
 | lst xs => obtain ⟨z, its, n, r, e⟩ := x; exact ⟨z, its, n, r, k _ _ (.inl rfl) e⟩
 | tup xs => obtain ⟨z, its, r, ob, e, c⟩ := x; exact ⟨z, its, r, ob, k _ _ (.inl rfl) e, c⟩
 | dK kvs => obtain ⟨z, y, vs, r, ob, es, ep, e, c⟩ := x; exact ⟨z, y, vs, r, ob, es, ep, k _ _ (.inl rfl) e, c⟩
 | dT kvs =>
  obtain ⟨z, y, xs, r, ob, es, ep, e, c⟩ := x
  exact ⟨z, y, xs, Paired.mapP r fun p q z => ⟨z.1, ht _ _ z.2.1, z.2.2⟩, ob, es, ep, k _ _ (.inl rfl) e, c⟩
 | set S n => obtain ⟨ob, es, ep, t, e, c⟩ := x; exact ⟨ob, es, ep, t, k _ _ (.inl rfl) e, c⟩
 | ins C dx fs =>
  obtain ⟨d, z, ne, e, mA, ⟨od, es, ep, e2, c⟩, r⟩ := x
  exact ⟨ho _ d, z, ne, k _ _ (.inl rfl) e, mA, ⟨od, es, ep, k _ _ (.inr d) e2, c⟩, r⟩
 | own y => obtain ⟨ob, e⟩ := x; exact ⟨ob, k _ _ (.inl rfl) e⟩
 | xd fs => obtain ⟨mA, ⟨od, es, ep, e, c⟩, r⟩ := x; exact ⟨mA, ⟨od, es, ep, k _ _ (.inl rfl) e, c⟩, r⟩
 | rng lo hi => obtain ⟨t, u, v, e⟩ := x; exact ⟨t, u, v, k _ _ (.inl rfl) e⟩
 | frz ob u ih => obtain ⟨e, q⟩ := x; exact ⟨k _ _ (.inl rfl) e, ih q⟩
 | tbl ps =>
  have e : h.get? a = some { cls := .none, data := .fields ps } := x
  show h'.get? a = some { cls := .none, data := .fields ps }
  exact k a _ (.inl rfl) e
 | met f y =>
  have e : h.get? a = some (PySem.W.methodObj (.ref f) (.ref y)) := x
  show h'.get? a = some (PySem.W.methodObj (.ref f) (.ref y))
  exact k a _ (.inl rfl) e
 | ext φ => obtain ⟨p, ⟨o, e⟩, st⟩ := x; exact ⟨st _ _ p fun o q => k _ _ (.inl rfl) q, ⟨o, k _ _ (.inl rfl) e⟩, st⟩
theorem HOk.lt (x : HOk P w H h) (e : H a = some o) : a < h.objs.size := (x a o e).lt
theorem HOk.fresh (x : HOk P w H h) (e : h.objs.size ≤ a) : H a = none := by
 cases q : H a with
 | none => rfl
 | some u => exact absurd (Nat.lt_of_lt_of_le (x.lt q) e) (Nat.lt_irrefl _)
theorem HOk.kept (x : HOk P w H h) (k : ∀ b u, h.get? b = some u → h'.get? b = some u) : HOk P w H h' := fun a o e =>
 (x a o e).stay (fun b u _ q => k b u q) (fun _ q => q) fun _ _ q => q
theorem HOk.laid (x : HOk P w H h) (k : ∀ b u, h.get? b = some u → h'.get? b = some u) (hp : h.objs.size ≤ a) (new : ObjOk P w (upd H a o) h' a o) : HOk P w (upd H a o) h' := fun b u e => by
 have hn := x.fresh hp
 by_cases hb : b = a
 ·subst hb; rw [D9] at e; cases e; exact new
 ·rw [C0 hb] at e
  exact (x b u e).stay (fun c v _ q => k c v q) (fun c q => by rw [C0 (G9 q hn)]; exact q) fun c xs q => by rw [C0 (G9 q hn)]; exact q
end
def Rd (H : Hp) (a : Addr) (u : HO) : Prop := H a = some u ∨ ∃ o, H a = some (.frz o u)
theorem Rd.ok {P : Program} {w : World} {H : Hp} {h : Heap} {a : Addr} {u : HO} (r : Rd H a u) (x : HOk P w H h) : ObjOk P w H h a u := by
 rcases r with r | ⟨o, r⟩
 ·exact x a u r
 ·obtain ⟨_, q⟩ := x a _ r
  exact q
def Mut : Option HO → Prop
 | some (.lst _) => True
 | some (.dK _) => True
 | some (.dT _) => True
 | some (.set _ _) => True
 | some (.ins _ _ _) => True
 | some (.ext _) => True
 | _ => False
section
variable {P : Program} {w : World} {H : Hp} {h h' : Heap} {x e : Addr} {o' : HO}
theorem HOk.write (ok : HOk P w H h) (mu : Mut (H x)) (he : e = x ∨ H e = some (.own x)) (k : ∀ b u, b ≠ e → h.get? b = some u → h'.get? b = some u) (heo : ∃ u, h'.get? e = some u)
  (new : ObjOk P w (upd H x o') h' x o') : HOk P w (upd H x o') h' := fun b u q => by
 have nown : ∀ c y, H c = some (.own y) → c ≠ x := fun c y r z => by subst z; rw [r] at mu; exact mu
 have ntup : ∀ c xs, H c = some (.tup xs) → c ≠ x := fun c xs r z => by subst z; rw [r] at mu; exact mu
 by_cases hb : b = x
 ·subst hb; rw [D9] at q; cases q; exact new
 ·rw [C0 hb] at q
  by_cases hbe : b = e
  ·have q' : H b = some (.own x) := by
    rcases he with z | z
    ·exact absurd (hbe.trans z) hb
    ·rw [hbe]; exact z
   rw [q] at q'; cases q'
   obtain ⟨v, hv⟩ := heo
   exact ⟨v, by rw [hbe]; exact hv⟩
  ·refine (ok b u q).stay (fun c v hc r => k c v ?_ r) (fun c r => by rw [C0 (nown c b r)]; exact r) fun c xs r => by rw [C0 (ntup c xs r)]; exact r
   rcases hc with rfl | hc
   ·exact hbe
   ·rintro rfl
    rcases he with z | z
    ·exact nown c b hc z
    ·rw [hc] at z; cases z; exact hb rfl
end
structure Un (fs ex : List Addr) (H H' : Hp) (h h' : Heap) : Prop where
 keep : ∀ b o, h.get? b = some o → H b = none → b ∉ fs → b ∉ ex → h'.get? b = some o
 slot : ∀ b o, h.get? b = some o → H b = none → b ∈ fs → b ∉ ex → ∃ sl, h'.get? b = some { o with slots := sl }
 free : ∀ b o, h.get? b = some o → H b = none → b ∉ ex → H' b = none
 there : ∀ b o, h.get? b = some o → b ∉ ex → ∃ o', h'.get? b = some o'
 tups : ∀ b xs, H b = some (.tup xs) → H' b = some (.tup xs)
 frzs : ∀ b o u, H b = some (.frz o u) → H' b = some (.frz o u)
 tbls : ∀ b ps, H b = some (.tbl ps) → ∃ more, H' b = some (.tbl (ps ++ more))
section
variable {fs fs' ex ex' : List Addr} {H H1 H2 : Hp} {h h1 h2 h' : Heap} {a x e : Addr} {o : HO}
theorem Un.any (u : Un fs ex H H1 h h1) {b : Addr} {ob : Obj} (q : h.get? b = some ob) (n : H b = none) (hx : b ∉ ex) : ∃ sl, h1.get? b = some { ob with slots := sl } := by
 by_cases hb : b ∈ fs
 ·exact u.slot b ob q n hb hx
 ·exact ⟨ob.slots, u.keep b ob q n hb hx⟩
theorem Un.kept (k : ∀ b u, h.get? b = some u → h'.get? b = some u) : Un fs ex H H h h' :=
 ⟨fun b ob q _ _ _ => k b ob q, fun b ob q _ _ _ => ⟨ob.slots, k b ob q⟩, fun _ _ _ n _ => n, fun b ob q _ => ⟨ob, k b ob q⟩, fun _ _ q => q, fun _ _ _ q => q, fun _ ps q => ⟨#[], by rw [q]; simp⟩⟩
theorem Un.refl : Un fs ex H H h h := Un.kept fun _ _ q => q
theorem Un.laid (k : ∀ b u, h.get? b = some u → h'.get? b = some u) (hp : h.objs.size ≤ a) (hn : H a = none) : Un fs ex H (upd H a o) h h' where
 keep := fun b u q _ _ _ => k b u q
 slot := fun b u q _ _ _ => ⟨u.slots, k b u q⟩
 free := fun b u q n _ => by rw [C0 (Nat.ne_of_lt (Nat.lt_of_lt_of_le (Heap.lt_size q) hp))]; exact n
 there := fun b u q _ => ⟨u, k b u q⟩
 tups := fun b xs q => by rw [C0 (G9 q hn)]; exact q
 frzs := fun b u xs q => by rw [C0 (G9 q hn)]; exact q
 tbls := fun b ps q => ⟨#[], by rw [C0 (G9 q hn), q]; simp⟩
theorem Un.write (mu : Mut (H x)) (he : e = x ∨ H e = some (.own x)) (k : ∀ b u, b ≠ e → h.get? b = some u → h'.get? b = some u) (heo : ∃ u, h'.get? e = some u) : Un fs ex H (upd H x o) h h' := by
 have hx : ∀ b, H b = none → b ≠ x := fun b n z => by subst z; rw [n] at mu; exact mu
 have hb : ∀ b, H b = none → b ≠ e := fun b n z => by
  subst z
  rcases he with r | r
  ·exact hx b n r
  ·rw [n] at r; cases r
 have hm : ∀ b u, H b = some u → ¬ Mut (some u) → b ≠ x := fun b u q nm z => by subst z; rw [q] at mu; exact nm mu
 refine ⟨fun b u q n _ _ => k b u (hb b n) q, fun b u q n _ _ => ⟨u.slots, k b u (hb b n) q⟩, fun b u q n _ => by rw [C0 (hx b n)]; exact n, fun b u q _ => ?_,
  fun b xs q => by rw [C0 (hm b _ q fun z => z)]; exact q, fun b u xs q => by rw [C0 (hm b _ q fun z => z)]; exact q, fun b ps q => ⟨#[], by rw [C0 (hm b _ q fun z => z), q]; simp⟩⟩
 by_cases hbe : b = e
 ·subst hbe; exact heo
 ·exact ⟨u, k b u hbe q⟩
end
def trk (h : Heap) (H : Hp) : List Addr := (List.range h.objs.size).filter fun a => (H a).isSome
def AQL (h : Heap) (H : Hp) : Heap := PySem.W.hideAll h (trk h H)
theorem AQ0 (h : Heap) (H : Hp) : (AQL h H).objs.size = h.objs.size := PySem.W.hideAll_size _ _
theorem ARB {h : Heap} {H : Hp} {b : Addr} {o : Obj} (e : h.get? b = some o) (n : H b = none) : (AQL h H).get? b = some o :=
 PySem.W.hideAll_get _ e fun hm => by
  have q : (H b).isSome = true := (List.mem_filter.mp hm).2
  rw [n] at q; simp at q
theorem AU1 {h : Heap} {H : Hp} {b : Addr} {o : Obj} (e : (AQL h H).get? b = some o) : h.get? b = some o ∧ H b = none := by
 have e' : h.get? b = some o := PySem.W.of_hideAll (trk h H) e
 refine ⟨e', ?_⟩
 cases q : H b with
 | none => rfl
 | some x =>
  have hm : b ∈ trk h H := List.mem_filter.mpr ⟨List.mem_range.mpr (Heap.lt_size e'), by simp [q]⟩
  have z : (AQL h H).get? b = none := PySem.W.hideAll_none (trk h H) hm
  rw [z] at e; cases e
def AVA (g h : Heap) (L : Addr) : List (Addr × Obj) := (List.range h.objs.size).filterMap fun a => if a = L ∨ (g.get? a).isSome = true then none else (h.get? a).map fun o => (a, o)
def R4 (g h : Heap) (L d : Addr) : List (Addr × Obj) := (AVA g h L).filter fun p => decide (p.1 ≠ d)
structure Mod (K : PySem.W.Frag) (mg : Str → Option Value) (base : Heap) : Prop where
 kin : K.In base
 glob : base.Ns mainGlobals mg
 blt : ∃ mb, base.Ns builtinsNs mb ∧ ∀ x : Str, x ≠ "__name__" → mb x = bootBuiltins x
 nolimit : base.NoLimit
structure Cx where
 prog : Program
 w : World
 K : PySem.W.Frag
 mg : Str → Option Value
 base : Heap
 A : Around
 N : List Str
 s₀ : Shared
 H₀ : Hp
 env : Env
 outer : List Env
 stack : List Env
 ex : List Addr
 fn : Str → Bool
 calm : Bool
 pn : List (Addr × Obj)
 xe : Value → Shared → Prop
def frs (l : List Env) : List Addr := l.filterMap (·.frame)
abbrev Cx.fs (X : Cx) : List Addr := frs X.outer
def Vis (sc : Scope) (x : Str) : Prop := sc.names.lookup x = some .local ∨ sc.names.lookup x = some .cell ∨ sc.names.lookup x = some .free
def Loc (sc : Scope) (x : Str) : Prop := sc.names.lookup x = some .local ∨ sc.names.lookup x = some .cell
def AbT (env : Env) (h : Heap) (m : Str → Option Value) (x : Str) (u : Value) : Prop :=
 (env.kindOf x = some .local ∧ m x = some u) ∨ ((env.kindOf x = some .cell ∨ env.kindOf x = some .free) ∧ ∃ c, env.cells.lookup x = some c ∧ h.IsCell c (some u))
structure Cx.Ok (X : Cx) : Prop where
 mod : Mod X.K X.mg X.base
 kind : X.env.scope.kind = .function
 glob : X.env.globals = mainGlobals
 blt : X.env.builtins = builtinsNs
 above : X.s₀.heap.objs.size ≤ X.env.locals
 inj : ∀ x y c, X.env.cells.lookup x = some c → X.env.cells.lookup y = some c → x = y
 has : ∀ x, (X.env.kindOf x = some .cell ∨ X.env.kindOf x = some .free) → ∃ c, X.env.cells.lookup x = some c
 cab : ∀ x c, X.fn x = true → X.env.cells.lookup x = some c → X.s₀.heap.objs.size ≤ c
 hd : X.calm = true → X.A.handled = none
 frames : X.A.frames = some X.stack
 stk : X.stack = X.outer ∨ (X.stack = X.env :: X.outer ∧ X.env.frame = some X.env.locals)
 exf : ∀ b ∈ X.ex, b ≠ X.env.locals ∧ ∀ x c, X.env.cells.lookup x = some c → c ≠ b
 bs : ∀ b o, X.base.get? b = some o → X.s₀.heap.get? b = some o ∧ X.H₀ b = none
 bsz : X.base.objs.size ≤ X.s₀.heap.objs.size
 noex : ∀ b o, X.base.get? b = some o → b ∉ X.ex
 exfs : ∀ b ∈ X.ex, b ∉ X.fs
 funs : X.s₀.heap.FunFrames X.base X.outer
 frf : ∀ b ∈ X.fs, X.H₀ b = none
structure Inv (X : Cx) (pins : List (Addr × Obj)) (σ : List (Option V)) (H : Hp) (s : Shared) : Prop where
 ok : X.Ok
 os : s.os = X.s₀.os
 bare : AllBare s.gens
 base : Un X.fs X.ex X.H₀ H X.s₀.heap s.heap
 loc : ∃ m, s.heap.Ns X.env.locals m ∧ ∀ (i : Nat) (x : Str) (v : V), X.N[i]? = some x → σ[i]? = some (some v) → Vis X.env.scope x → ∃ u, RelV v u ∧ AbT X.env s.heap m x u
 cell : ∀ x c, X.env.cells.lookup x = some c → ∃ v, s.heap.IsCell c v
 free : H X.env.locals = none
 freeC : ∀ x c, X.env.cells.lookup x = some c → H c = none
 pin : ∀ p ∈ X.pn ++ pins, s.heap.get? p.1 = some p.2 ∧ H p.1 = none ∧ p.1 ≠ X.env.locals ∧ p.1 ∉ X.fs ∧ ∀ v, p.2.data ≠ .cell v
 hok : HOk X.prog X.w H s.heap
 len : σ.length = X.N.length
section
variable {X : Cx} {pins : List (Addr × Obj)} {σ : List (Option V)} {H H' : Hp} {s : Shared} {h' : Heap}
theorem Cx.Ok.nofr (ok : X.Ok) {b : Addr} {o : Obj} (e : X.base.get? b = some o) : b ∉ X.fs := fun hb => by
 have := (ok.funs.mem hb).1
 rw [e] at this; cases this
theorem Inv.bs (I : Inv X pins σ H s) : ∀ b o, X.base.get? b = some o → s.heap.get? b = some o ∧ H b = none := fun b o e =>
 ⟨I.base.keep b o (I.ok.bs b o e).1 (I.ok.bs b o e).2 (I.ok.nofr e) (I.ok.noex b o e), I.base.free b o (I.ok.bs b o e).1 (I.ok.bs b o e).2 (I.ok.noex b o e)⟩
theorem Inv.bk (I : Inv X pins σ H s) : ∀ b o, X.base.get? b = some o → s.heap.get? b = some o := fun b o e => (I.bs b o e).1
theorem Inv.mod (I : Inv X pins σ H s) : Mod X.K X.mg X.base := I.ok.mod
theorem Inv.kIn (I : Inv X pins σ H s) : X.K.In s.heap := I.ok.mod.kin.keeps I.bk
theorem Inv.lt (I : Inv X pins σ H s) : X.env.locals < s.heap.objs.size := let ⟨_, hn, _⟩ := I.loc; hn.lt
theorem Inv.sz (I : Inv X pins σ H s) : X.s₀.heap.objs.size ≤ s.heap.objs.size := Nat.le_trans I.ok.above (Nat.le_of_lt I.lt)
theorem Inv.nofs (I : Inv X pins σ H s) {a : Addr} (h : s.heap.objs.size ≤ a) : a ∉ X.fs := fun hb => by
 obtain ⟨_, o, ho, _⟩ := I.ok.funs.mem hb
 exact absurd (Nat.lt_of_lt_of_le (Heap.lt_size ho) (Nat.le_trans I.sz h)) (Nat.lt_irrefl _)
theorem Inv.cne (I : Inv X pins σ H s) : ∀ x c, X.env.cells.lookup x = some c → c ≠ X.env.locals := fun x c e z => by
 obtain ⟨v, o, ho, hd⟩ := I.cell x c e
 obtain ⟨m, ⟨o', es, ep, ho', hd', _⟩, _⟩ := I.loc
 rw [z, ho'] at ho; cases ho; rw [hd'] at hd; cases hd
theorem Inv.funs (I : Inv X pins σ H s) : s.heap.FunFrames X.base X.outer := by
 have all : ∀ (l : List Env), (∀ b ∈ frs l, b ∈ X.fs) → X.s₀.heap.FunFrames X.base l → s.heap.FunFrames X.base l := by
  intro l
  induction l with
  | nil => intro _ _; trivial
  | cons env r ih =>
   intro hs hl
   obtain ⟨hk, ⟨L, o, hf, hn, ho, hd⟩, hr⟩ := hl
   have hL : L ∈ X.fs := hs L (by unfold frs; rw [List.filterMap_cons, hf]; exact List.mem_cons_self)
   obtain ⟨sl, e⟩ := I.base.slot L o ho (I.ok.frf L hL) hL fun z => I.ok.exfs L z hL
   exact ⟨hk, ⟨L, _, hf, hn, e, hd⟩, ih (fun b hb => hs b (by unfold frs; rw [List.filterMap_cons, hf]; exact List.mem_cons_of_mem _ hb)) hr⟩
 exact all X.outer (fun _ hb => hb) I.ok.funs
theorem Inv.stack (I : Inv X pins σ H s) : s.heap.FunFrames X.base X.stack := by
 rcases I.ok.stk with e | ⟨e, hf⟩
 ·rw [e]; exact I.funs
 ·rw [e]
  obtain ⟨m, hn, _⟩ := I.loc
  refine .cons (by rw [I.ok.kind]; decide) hf hn ?_ I.funs
  exact Heap.get?_none_of_le (Nat.le_trans I.ok.bsz I.ok.above)
theorem Inv.stkSub (I : Inv X pins σ H s) : ∀ b ∈ frs X.stack, b ∈ X.env.locals :: X.fs := fun b hb => by
 rcases I.ok.stk with e | ⟨e, hf⟩
 ·rw [e] at hb; exact List.mem_cons_of_mem _ hb
 ·rw [e] at hb
  unfold frs at hb
  rw [List.filterMap_cons, hf] at hb
  exact hb
theorem Inv.stkFree (I : Inv X pins σ H s) : ∀ b ∈ frs X.stack, H b = none := fun b hb => by
 rcases List.mem_cons.mp (I.stkSub b hb) with e | hb
 ·rw [e]; exact I.free
 ·obtain ⟨_, o, ho, _⟩ := I.ok.funs.mem hb
  exact I.base.free b o ho (I.ok.frf b hb) fun z => I.ok.exfs b z hb
theorem Inv.step {g' : Array GenState} {t' : Nat} {d' : Drawn} {ch : List Addr} (I : Inv X pins σ H s)
  (hch : ∀ b ∈ ch, (b ∈ X.ex ∨ X.s₀.heap.objs.size ≤ b) ∧ b ≠ X.env.locals ∧ (∀ x c, X.env.cells.lookup x = some c → c ≠ b) ∧ ∀ p ∈ X.pn ++ pins, p.1 ≠ b)
  (keep : ∀ b o, b ≠ X.env.locals → b ∉ X.fs → b ∉ ch → s.heap.get? b = some o → H b = none → h'.get? b = some o)
  (slot : ∀ b o, b ≠ X.env.locals → b ∈ X.fs → b ∉ ch → s.heap.get? b = some o → H b = none → ∃ sl, h'.get? b = some { o with slots := sl }) (free : ∀ b o, b ∉ ch → s.heap.get? b = some o → H b = none → H' b = none)
  (there : ∀ b o, b ∉ ch → s.heap.get? b = some o → ∃ o', h'.get? b = some o')
  (tups : ∀ b xs, H b = some (.tup xs) → H' b = some (.tup xs)) (frzs : ∀ b o u, H b = some (.frz o u) → H' b = some (.frz o u)) (tbls : ∀ b ps, H b = some (.tbl ps) → ∃ more, H' b = some (.tbl (ps ++ more)))
  (ns : ∀ m, s.heap.Ns X.env.locals m → h'.Ns X.env.locals m) (hok : HOk X.prog X.w H' h') (hg : AllBare g') :
  Inv X pins σ H' { s with heap := h', gens := g', drawn := d', toks := t' } := by
 have neL : ∀ b o, X.s₀.heap.get? b = some o → b ≠ X.env.locals := fun b o e => Nat.ne_of_lt (Nat.lt_of_lt_of_le (Heap.lt_size e) I.ok.above)
 have neC : ∀ b o, X.s₀.heap.get? b = some o → b ∉ X.ex → b ∉ ch := fun b o e hx hb => by
  rcases (hch b hb).1 with z | z
  ·exact hx z
  ·exact absurd (Nat.lt_of_lt_of_le (Heap.lt_size e) z) (Nat.lt_irrefl _)
 have cellK : ∀ x c, X.env.cells.lookup x = some c → ∀ v, s.heap.IsCell c v → h'.IsCell c v := fun x c e v ⟨o, ho, hd⟩ => by
  have nch : c ∉ ch := fun z => (hch c z).2.2.1 x c e rfl
  by_cases hc : c ∈ X.fs
  ·obtain ⟨sl, q⟩ := slot c o (I.cne x c e) hc nch ho (I.freeC x c e)
   exact ⟨_, q, hd⟩
  ·exact ⟨o, keep c o (I.cne x c e) hc nch ho (I.freeC x c e), hd⟩
 refine ⟨I.ok, I.os, hg, ⟨fun b o e n hb hx => ?_, fun b o e n hb hx => ?_, fun b o e n hx => ?_, fun b o e hx => ?_, fun b xs e => tups b xs (I.base.tups b xs e), fun b o xs e => frzs b o xs (I.base.frzs b o xs e), fun b ps e => ?_⟩, ?_, fun x c e => ?_, ?_, fun x c e => ?_, fun p hp => ?_, hok, I.len⟩
 ·exact keep b o (neL b o e) hb (neC b o e hx) (I.base.keep b o e n hb hx) (I.base.free b o e n hx)
 ·obtain ⟨sl, e1⟩ := I.base.slot b o e n hb hx
  obtain ⟨sl', e2⟩ := slot b _ (neL b o e) hb (neC b o e hx) e1 (I.base.free b o e n hx)
  exact ⟨sl', e2⟩
 ·obtain ⟨o', e1⟩ := I.base.there b o e hx
  exact free b o' (neC b o e hx) e1 (I.base.free b o e n hx)
 ·obtain ⟨o', e1⟩ := I.base.there b o e hx
  exact there b o' (neC b o e hx) e1
 ·obtain ⟨m1, e1⟩ := I.base.tbls b ps e
  obtain ⟨m2, e2⟩ := tbls b _ e1
  exact ⟨m1 ++ m2, by rw [e2, Array.append_assoc]⟩
 ·obtain ⟨m, hn, hl⟩ := I.loc
  refine ⟨m, ns m hn, fun i x v e1 e2 e3 => ?_⟩
  obtain ⟨u, r, l⟩ := hl i x v e1 e2 e3
  refine ⟨u, r, ?_⟩
  rcases l with l | ⟨k, c, e, z⟩
  ·exact .inl l
  ·exact .inr ⟨k, c, e, cellK x c e _ z⟩
 ·obtain ⟨v, z⟩ := I.cell x c e
  exact ⟨v, cellK x c e v z⟩
 ·obtain ⟨m, ⟨o, _, _, ho, _⟩, _⟩ := I.loc
  exact free _ o (fun z => (hch _ z).2.1 rfl) ho I.free
 ·obtain ⟨v, o, ho, hd⟩ := I.cell x c e
  exact free c o (fun z => (hch c z).2.2.1 x c e rfl) ho (I.freeC x c e)
 ·obtain ⟨e, n, ne, nf, d⟩ := I.pin p hp
  have nch : p.1 ∉ ch := fun z => (hch p.1 z).2.2.2 p hp rfl
  exact ⟨keep p.1 p.2 ne nf nch e n, free p.1 p.2 nch e n, ne, nf, d⟩
theorem Inv.un {t' : Nat} (I : Inv X pins σ H s) (u : Un X.fs [] H H' s.heap h') (hok : HOk X.prog X.w H' h') : Inv X pins σ H' { s with heap := h', toks := t' } := by
 obtain ⟨m, ⟨o, es, ep, ho, r⟩, _⟩ := id I.loc
 obtain ⟨sl, hL⟩ := u.any ho I.free (by simp)
 exact I.step (g' := s.gens) (d' := s.drawn) (ch := []) (fun _ z => nomatch z) (fun b o _ hb _ e n => u.keep b o e n hb (by simp)) (fun b o _ hb _ e n => u.slot b o e n hb (by simp)) (fun b o _ e n => u.free b o e n (by simp)) (fun b o _ e => u.there b o e (by simp)) u.tups u.frzs u.tbls (fun m' hm => by
  obtain ⟨o', es', ep', ho', r'⟩ := hm
  rw [ho] at ho'; cases ho'
  exact ⟨_, es', ep', hL, r'⟩) hok I.bare
theorem Inv.call {g' : Array GenState} {t' : Nat} {d' : Drawn} {ch : List Addr} (I : Inv X pins σ H s) (u : Un (frs X.stack) ch H H' s.heap h') (hok : HOk X.prog X.w H' h') (hg : AllBare g')
  (hch : ∀ b ∈ ch, (b ∈ X.ex ∨ X.s₀.heap.objs.size ≤ b) ∧ b ≠ X.env.locals ∧ (∀ x c, X.env.cells.lookup x = some c → c ≠ b) ∧ ∀ p ∈ X.pn ++ pins, p.1 ≠ b) :
  Inv X pins σ H' { s with heap := h', gens := g', drawn := d', toks := t' } := by
 obtain ⟨m, ⟨o, es, ep, ho, r⟩, _⟩ := id I.loc
 obtain ⟨sl, hL⟩ := u.any ho I.free fun z => (hch _ z).2.1 rfl
 exact I.step (ch := ch) hch (fun b o hL hb hc e n => u.keep b o e n (fun z => (List.mem_cons.mp (I.stkSub b z)).elim hL hb) hc) (fun b o _ _ hc e n => u.any e n hc) (fun b o hc e n => u.free b o e n hc) (fun b o hc e => u.there b o e hc) u.tups u.frzs u.tbls (fun m' hm => by
  obtain ⟨o', es', ep', ho', r'⟩ := hm
  rw [ho] at ho'; cases ho'
  exact ⟨_, es', ep', hL, r'⟩) hok hg
theorem Inv.turned {t' : Nat} {it : Addr} (I : Inv X pins σ H s) (k : ∀ b o, b ≠ it → s.heap.get? b = some o → h'.get? b = some o) (hn : H it = none) (hL : it ≠ X.env.locals)
  (h1 : it ∈ X.ex ∨ X.s₀.heap.objs.size ≤ it) (h2 : ∀ x c, X.env.cells.lookup x = some c → c ≠ it) (h3 : ∀ p ∈ X.pn ++ pins, p.1 ≠ it) : Inv X pins σ H { s with heap := h', toks := t' } := by
 have nit : ∀ b u, H b = some u → b ≠ it := fun b u e z => by rw [z, hn] at e; cases e
 refine I.step (g' := s.gens) (d' := s.drawn) (ch := [it]) (fun b hb => ?_) (fun b o _ _ hc e _ => k b o (fun z => hc (by simp [z])) e) (fun b o _ _ hc e _ => ⟨o.slots, k b o (fun z => hc (by simp [z])) e⟩) (fun _ _ _ _ n => n)
  (fun b o hc e => ⟨o, k b o (fun z => hc (by simp [z])) e⟩) (fun _ _ e => e) (fun _ _ _ e => e) (fun b ps e => ⟨#[], by rw [e]; simp⟩) (fun m hm => ?_) (fun b u e => ?_) I.bare
 ·have e : b = it := by simpa using hb
  subst e
  exact ⟨h1, hL, h2, h3⟩
 ·obtain ⟨o, es, ep, ho, r⟩ := hm
  exact ⟨o, es, ep, k _ o (Ne.symm hL) ho, r⟩
 ·refine (I.hok b u e).stay (fun c v hc q => k c v ?_ q) (fun _ q => q) fun _ _ q => q
  rcases hc with z | z
  ·rw [z]; exact nit b u e
  ·exact nit c _ z
theorem Inv.tok (I : Inv X pins σ H s) (t : Nat) : Inv X pins σ H { s with toks := t } := I.un (h' := s.heap) (t' := t) Un.refl I.hok
theorem Inv.kept {t' : Nat} (I : Inv X pins σ H s) (k : ∀ b u, s.heap.get? b = some u → h'.get? b = some u) : Inv X pins σ H { s with heap := h', toks := t' } := I.un (Un.kept k) (I.hok.kept k)
theorem Inv.laid {a : Addr} {o : HO} {t' : Nat} (I : Inv X pins σ H s) (k : ∀ b u, s.heap.get? b = some u → h'.get? b = some u) (hp : s.heap.objs.size ≤ a) (new : ObjOk X.prog X.w (upd H a o) h' a o) :
  Inv X pins σ (upd H a o) { s with heap := h', toks := t' } := I.un (Un.laid k hp (I.hok.fresh hp)) (I.hok.laid k hp new)
theorem Inv.write {x e : Addr} {o : HO} {t' : Nat} (I : Inv X pins σ H s) (mu : Mut (H x)) (he : e = x ∨ H e = some (.own x)) (k : ∀ b u, b ≠ e → s.heap.get? b = some u → h'.get? b = some u) (heo : ∃ u, h'.get? e = some u)
  (new : ObjOk X.prog X.w (upd H x o) h' x o) : Inv X pins σ (upd H x o) { s with heap := h', toks := t' } := I.un (Un.write mu he k heo) (I.hok.write mu he k heo new)
theorem Inv.pins_of {pins' : List (Addr × Obj)} (I : Inv X pins σ H s) (h : ∀ p ∈ pins', s.heap.get? p.1 = some p.2 ∧ H p.1 = none ∧ p.1 ≠ X.env.locals ∧ p.1 ∉ X.fs ∧ ∀ v, p.2.data ≠ .cell v) : Inv X pins' σ H s :=
 ⟨I.ok, I.os, I.bare, I.base, I.loc, I.cell, I.free, I.freeC, fun p hp => (List.mem_append.mp hp).elim (fun z => I.pin p (List.mem_append_left _ z)) (h p), I.hok, I.len⟩
theorem AHR {N : List Str} (hN : N.Nodup) {i j : Nat} {x : Str} (a : N[i]? = some x) (b : N[j]? = some x) : i = j := by
 obtain ⟨h1, e1⟩ := List.getElem?_eq_some_iff.mp a
 obtain ⟨h2, e2⟩ := List.getElem?_eq_some_iff.mp b
 exact (List.getElem_inj hN).mp (e1.trans e2.symm)
theorem AOV {M : Model} {A : Around} {E : Value → Shared → Prop} {i : Nat} {x : Str} {v : V} {u : Value} {Q : Unit → Shared → Prop} (I : Inv X pins σ H s) (hN : X.N.Nodup) (hi : X.N[i]? = some x) (hx : Loc X.env.scope x) (r : RelV v u)
  (h : ∀ s', Inv X pins (σ.set i (some v)) H s' → (∃ a, Heap.SameBut a s.heap s'.heap ∧ (a = X.env.locals ∨ X.env.cells.lookup x = some a)) → Q () s') (hf : X.fn x = true ∨ X.env.scope.names.lookup x = some .local := by first | exact .inl rfl | exact .inr rfl | assumption) : wpAny M A (storeName X.env x u) Q E s := by
 obtain ⟨m, hn, hl⟩ := id I.loc
 have hcls : (X.env.scope.kind == .class || (X.env.scope.kind == .module && X.env.locals != X.env.globals)) = false := by rw [I.ok.kind]; rfl
 have hiσ : i < σ.length := by rw [I.len]; exact (List.getElem?_eq_some_iff.mp hi).1
 have cne := I.cne
 have tracked : ∀ {a : Addr} {h' : Heap}, (∃ o, s.heap.get? a = some o ∧ H a = none) → Heap.SameBut a s.heap h' → HOk X.prog X.w H h' := fun {a h'} ha hs b ob e => by
  obtain ⟨_, _, hfree⟩ := ha
  refine (I.hok b ob e).stay (fun c w' hc q => (hs.2 c ?_).trans q) (fun _ q => q) fun _ _ q => q
  rintro rfl
  rcases hc with rfl | hc
  ·rw [hfree] at e; cases e
  ·rw [hfree] at hc; cases hc
 rcases hx with hk | hk
 ·refine wpAny_storeName_local hk hn (fun h' hn' hs => ?_) hcls
  obtain ⟨oL, _, _, hoL, _⟩ := id hn
  refine h _ ⟨I.ok, I.os, I.bare, ⟨fun b o e n hb hx => ?_, fun b o e n hb hx => ?_, I.base.free, fun b o e hx => ?_, I.base.tups, I.base.frzs, I.base.tbls⟩, ⟨_, hn', fun j y v' e1 e2 e3 => ?_⟩, fun y c e => ?_, I.free, I.freeC, fun p hp => ?_, tracked ⟨oL, hoL, I.free⟩ hs, by simpa using I.len⟩ ⟨_, hs, .inl rfl⟩
  ·exact (hs.2 b (Nat.ne_of_lt (Nat.lt_of_lt_of_le (Heap.lt_size e) I.ok.above))).trans (I.base.keep b o e n hb hx)
  ·obtain ⟨sl, e1⟩ := I.base.slot b o e n hb hx
   exact ⟨sl, (hs.2 b (Nat.ne_of_lt (Nat.lt_of_lt_of_le (Heap.lt_size e) I.ok.above))).trans e1⟩
  ·obtain ⟨o', e1⟩ := I.base.there b o e hx
   exact ⟨o', (hs.2 b (Nat.ne_of_lt (Nat.lt_of_lt_of_le (Heap.lt_size e) I.ok.above))).trans e1⟩
  ·by_cases hj : j = i
   ·subst hj
    rw [hi] at e1; cases e1
    rw [List.getElem?_set_self hiσ] at e2
    cases e2
    exact ⟨u, r, .inl ⟨hk, by simp⟩⟩
   ·rw [List.getElem?_set_ne (Ne.symm hj)] at e2
    obtain ⟨u', r', q⟩ := hl j y v' e1 e2 e3
    refine ⟨u', r', ?_⟩
    rcases q with ⟨k, e⟩ | ⟨k, c, e, z⟩
    ·refine .inl ⟨k, ?_⟩
     have : y ≠ x := fun e => hj (AHR hN e1 (e ▸ hi))
     simp [this, e]
    ·exact .inr ⟨k, c, e, z.sameBut hs (cne y c e)⟩
  ·obtain ⟨w', z⟩ := I.cell y c e
   exact ⟨w', z.sameBut hs (cne y c e)⟩
  ·obtain ⟨e, n, ne, nf, d⟩ := I.pin p hp
   exact ⟨(hs.2 p.1 ne).trans e, n, ne, nf, d⟩
 ·have hfn : X.fn x = true := by
   rcases hf with z | z
   ·exact z
   ·rw [z] at hk; cases hk
  obtain ⟨c, hc⟩ := I.ok.has x (.inl hk)
  obtain ⟨w', z⟩ := I.cell x c hc
  refine wpAny_storeName_cell I.ok.kind hk hc z (fun h' hc' hs => ?_)
  obtain ⟨oc, hoc, hocd⟩ := id z
  refine h { s with heap := h' } ⟨I.ok, I.os, I.bare, ⟨fun b o e n hb hx => ?_, fun b o e n hb hx => ?_, I.base.free, fun b o e hx => ?_, I.base.tups, I.base.frzs, I.base.tbls⟩, ⟨m, hn.sameBut hs (Ne.symm (cne x c hc)), fun j y v' e1 e2 e3 => ?_⟩, fun y c' e => ?_, I.free, I.freeC, fun p hp => ?_, tracked ⟨oc, hoc, I.freeC x c hc⟩ hs, by simpa using I.len⟩ ⟨c, hs, .inr hc⟩
  ·exact (hs.2 b (Nat.ne_of_lt (Nat.lt_of_lt_of_le (Heap.lt_size e) (I.ok.cab x c hfn hc)))).trans (I.base.keep b o e n hb hx)
  ·obtain ⟨sl, e1⟩ := I.base.slot b o e n hb hx
   exact ⟨sl, (hs.2 b (Nat.ne_of_lt (Nat.lt_of_lt_of_le (Heap.lt_size e) (I.ok.cab x c hfn hc)))).trans e1⟩
  ·obtain ⟨o', e1⟩ := I.base.there b o e hx
   exact ⟨o', (hs.2 b (Nat.ne_of_lt (Nat.lt_of_lt_of_le (Heap.lt_size e) (I.ok.cab x c hfn hc)))).trans e1⟩
  ·by_cases hj : j = i
   ·subst hj
    rw [hi] at e1; cases e1
    rw [List.getElem?_set_self hiσ] at e2
    cases e2
    exact ⟨u, r, .inr ⟨.inl hk, c, hc, hc'⟩⟩
   ·rw [List.getElem?_set_ne (Ne.symm hj)] at e2
    obtain ⟨u', r', q⟩ := hl j y v' e1 e2 e3
    refine ⟨u', r', ?_⟩
    rcases q with q | ⟨k, c', e, z'⟩
    ·exact .inl q
    ·refine .inr ⟨k, c', e, z'.sameBut hs ?_⟩
     rintro rfl
     exact hj (AHR hN e1 (I.ok.inj _ _ _ e hc ▸ hi))
  ·by_cases hcc : c' = c
   ·subst hcc; exact ⟨_, hc'⟩
   ·obtain ⟨w2, z2⟩ := I.cell y c' e
    exact ⟨w2, z2.sameBut hs hcc⟩
  ·obtain ⟨e, n, ne, nf, d⟩ := I.pin p hp
   refine ⟨(hs.2 p.1 ?_).trans e, n, ne, nf, d⟩
   intro q
   rw [q, hoc] at e
   have q' : oc = p.2 := Option.some.inj e
   exact d w' (by rw [← q']; exact hocd)
theorem AEB {M : Model} {A : Around} {E : Value → Shared → Prop} {i : Nat} {x : Str} {v : V} {u : Value} {Q : Unit → Shared → Prop} (I : Inv X pins σ H s) (hN : X.N.Nodup) (hi : X.N[i]? = some x) (hx : Loc X.env.scope x) (r : RelV v u)
  (h : ∀ s', Inv X pins (σ.set i (some v)) H s' → Q () s') (hf : X.fn x = true ∨ X.env.scope.names.lookup x = some .local := by first | exact .inl rfl | exact .inr rfl | assumption) : wpAny M A (storeName X.env x u) Q E s :=
 AOV I hN hi hx r (fun s' I' _ => h s' I') hf
theorem Inv.call' {s' : Shared} {ch : List Addr} (I : Inv X pins σ H s) (ho : s'.os = s.os) (u : Un (frs X.stack) ch H H' s.heap s'.heap) (hok : HOk X.prog X.w H' s'.heap) (hg : AllBare s'.gens)
  (hch : ∀ b ∈ ch, (b ∈ X.ex ∨ X.s₀.heap.objs.size ≤ b) ∧ b ≠ X.env.locals ∧ (∀ x c, X.env.cells.lookup x = some c → c ≠ b) ∧ ∀ p ∈ X.pn ++ pins, p.1 ≠ b) : Inv X pins σ H' s' := by
 obtain ⟨h', g', d', t', o'⟩ := s'
 have e : o' = s.os := ho
 subst e
 exact I.call (g' := g') (t' := t') (d' := d') u hok hg hch
end
abbrev XK := Value → Option Addr → Hp → Prop
abbrev St := List (Option V)
abbrev VK := V → Hp → Prop
abbrev TE := St → Hp → VK → Prop
abbrev TT := St → Hp → (Bool → Hp → Prop) → Prop
abbrev TA := St → Hp → (List V → Hp → Prop) → Prop
structure Ends where
 nx : St → Hp → Prop
 rt : VK
 bk : St → Hp → Prop := fun _ _ => False
 ct : St → Hp → Prop := fun _ _ => False
abbrev TS := Ends → St → Hp → Prop
def EP (X : Cx) (pins : List (Addr × Obj)) (σ : St) (Q : VK) (u : Value) (s' : Shared) : Prop := ∃ v H', Inv X pins σ H' s' ∧ RelV v u ∧ Q v H'
def TP (X : Cx) (pins : List (Addr × Obj)) (σ : St) (Q : Bool → Hp → Prop) (b : Bool) (s' : Shared) : Prop := ∃ H', Inv X pins σ H' s' ∧ Q b H'
def AP (X : Cx) (pins : List (Addr × Obj)) (σ : St) (Q : List V → Hp → Prop) (us : List Value) (s' : Shared) : Prop := ∃ vs H', Inv X pins σ H' s' ∧ Vals vs us ∧ Q vs H'
def SP (X : Cx) (pins : List (Addr × Obj)) (D : Ends) (f : Flow) (s' : Shared) : Prop :=
 match f with
 | .next => ∃ σ' H', Inv X pins σ' H' s' ∧ D.nx σ' H'
 | .brk => ∃ σ' H', Inv X pins σ' H' s' ∧ D.bk σ' H'
 | .cont => ∃ σ' H', Inv X pins σ' H' s' ∧ D.ct σ' H'
 | .ret u => ∃ v σ' H', Inv X pins σ' H' s' ∧ RelV v u ∧ D.rt v H'
def PE (X : Cx) (e : Expr) (t : TE) : Prop :=
 ∀ (pins : List (Addr × Obj)) (s : Shared) (σ : St) (H : Hp) (Q : VK), Inv X pins σ H s → t σ H Q → wpAny (model X.prog X.w) X.A (eval e X.env) (EP X pins σ Q) X.xe s
def PT (X : Cx) (e : Expr) (t : TT) : Prop :=
 ∀ (pins : List (Addr × Obj)) (s : Shared) (σ : St) (H : Hp) (Q : Bool → Hp → Prop), Inv X pins σ H s → t σ H Q → wpAny (model X.prog X.w) X.A (isTrue e X.env (eval e X.env)) (TP X pins σ Q) X.xe s
def PW (X : Cx) (e : Expr) (t : TT) : Prop :=
 ∀ (whole : Sem Value) (pins : List (Addr × Obj)) (s : Shared) (σ : St) (H : Hp) (Q : Bool → Hp → Prop), Inv X pins σ H s → t σ H Q → wpAny (model X.prog X.w) X.A (isTrue e X.env whole) (TP X pins σ Q) X.xe s
theorem PW.pt {X : Cx} {e : Expr} {t : TT} (h : PW X e t) : PT X e t := h _
def PA (X : Cx) (es : List Expr) (t : TA) : Prop :=
 ∀ (pos : Pos) (pins : List (Addr × Obj)) (s : Shared) (σ : St) (H : Hp) (Q : List V → Hp → Prop), Inv X pins σ H s → t σ H Q → wpAny (model X.prog X.w) X.A (spliced (backTo pos (starEach es X.env))) (AP X pins σ Q) X.xe s
def PS (X : Cx) (st : Stmt) (t : TS) : Prop :=
 ∀ (pins : List (Addr × Obj)) (s : Shared) (σ : St) (H : Hp) (D : Ends), Inv X pins σ H s → t D σ H → wpAny (model X.prog X.w) X.A (exec st X.env) (SP X pins D) X.xe s
def PSs (X : Cx) (st : List Stmt) (t : TS) : Prop :=
 ∀ (pins : List (Addr × Obj)) (s : Shared) (σ : St) (H : Hp) (D : Ends), Inv X pins σ H s → t D σ H → wpAny (model X.prog X.w) X.A (execs st X.env) (SP X pins D) X.xe s
theorem thn {α : Type} {t : Sem α} {Q Q' : α → Shared → Prop} {M : Model} {A : Around} {E : Value → Shared → Prop} {s : Shared} (h : wpAny M A t Q E s) (hQ : ∀ a s, Q a s → Q' a s) : wpAny M A t Q' E s := wpAny_mono h hQ fun _ _ x => x
section
variable {X : Cx}
theorem bin {a b : Expr} {ta tb : TE} (ha : PE X a ta) (hb : PE X b tb) {pins : List (Addr × Obj)} {s : Shared} {σ : St} {H : Hp} {R : V → V → Hp → Prop} (I : Inv X pins σ H s) (h : ta σ H fun x H1 => tb σ H1 fun y H2 => R x y H2)
  {α : Type} {Q : α → Shared → Prop} {f : Value → Value → Sem α}
  (hf : ∀ v u s2 x y H2, Inv X pins σ H2 s2 → RelV x v → RelV y u → R x y H2 → wpAny (model X.prog X.w) X.A (f v u) Q X.xe s2) :
  wpAny (model X.prog X.w) X.A (eval a X.env) (fun v s₁ => wpAny (model X.prog X.w) X.A (eval b X.env) (fun u s₂ => wpAny (model X.prog X.w) X.A (f v u) Q X.xe s₂) X.xe s₁) X.xe s := by
 refine thn (ha pins s σ H _ I h) fun v s1 ⟨x, H1, I1, r1, q1⟩ => ?_
 refine thn (hb pins s1 σ H1 _ I1 q1) fun u s2 ⟨y, H2, I2, r2, q2⟩ => ?_
 exact hf v u s2 x y H2 I2 r1 r2 q2
def Ac8 (i : Nat) : TE := fun σ H Q => ∃ v, σ[i]? = some (some v) ∧ Q v H
def tC (v : V) : TE := fun _ H Q => Q v H
theorem ASU {i : Nat} {x : Str} {pos : Pos} (hN : X.N[i]? = some x) (hv : Vis X.env.scope x) (hd : (x == ("__debug__" : Str)) = false := by decide) (hcd : (x == ("__classdict__" : Str)) = false := by decide) : PE X (.Name x pos) (Ac8 i) := by
 intro pins s σ H Q I h
 obtain ⟨v, e, h⟩ := h
 obtain ⟨m, hn, hl⟩ := I.loc
 obtain ⟨u, r, l⟩ := hl i x v hN e hv
 have fin : EP X pins σ Q u s := ⟨v, H, I, r, h⟩
 rcases l with ⟨hk, hm⟩ | ⟨hk, c, hc, hcell⟩
 ·exact wpAny_Name (wpAny_loadName_local I.ok.kind hk hn hm fin) hd
 ·rcases hk with hk | hk
  ·exact wpAny_Name (wpAny_loadName_cell I.ok.kind hk hc hcell fin) hd
  ·exact wpAny_Name (wpAny_loadName_free I.ok.kind hk hc hcell fin hcd) hd
theorem AWN {i j pos} : PE X (.Constant (.int i) j pos) (tC (.int i)) := fun _ _ _ H _ I h => wpAny_Constant_int ⟨.int i, H, I.tok _, ⟨_, rfl⟩, h⟩
theorem AZY {b j pos} : PE X (.Constant (.bool b) j pos) (tC (.bl b)) := fun _ _ _ H _ I h => Constant_bool ⟨.bl b, H, I, rfl, h⟩
theorem AXA {j pos} : PE X (.Constant .none j pos) (tC .non) := fun _ _ _ H _ I h => Constant_none ⟨.non, H, I, rfl, h⟩
theorem AXQ {x j pos} : PE X (.Constant (.str x) j pos) (tC (.str x)) := fun _ _ _ H _ I h => Calls.Constant_str ⟨.str x, H, I.tok _, ⟨_, rfl⟩, h⟩
def Gl (X : Cx) (x : Str) : Prop := X.env.kindOf x = some .globalImplicit
theorem AKI {E : Value → Shared → Prop} {pins : List (Addr × Obj)} {s : Shared} {σ : St} {H : Hp} {x : Str} {u : Value} {pos : Pos} {Q : Value → Shared → Prop} (I : Inv X pins σ H s) (hg : Gl X x) (hm : X.mg x = some u) (h : Q u s)
  (hd : (x == ("__debug__" : Str)) = false := by decide) : wpAny (model X.prog X.w) X.A (eval (.Name x pos) X.env) Q E s :=
 Calls.Name_function_global I.ok.kind hg (Calls.loadGlobal_global (by rw [I.ok.glob]; exact I.mod.glob.keeps I.bk) hm h) hd
theorem AGR {E : Value → Shared → Prop} {pins : List (Addr × Obj)} {s : Shared} {σ : St} {H : Hp} {x : Str} {u : Value} {pos : Pos} {Q : Value → Shared → Prop} (I : Inv X pins σ H s) (hg : Gl X x) (hm : X.mg x = none) (hv : bootBuiltins x = some u) (h : Q u s)
  (hn : x ≠ "__name__" := by decide) (hd : (x == ("__debug__" : Str)) = false := by decide) : wpAny (model X.prog X.w) X.A (eval (.Name x pos) X.env) Q E s := by
 obtain ⟨mb, h1, h2⟩ := I.mod.blt
 exact Calls.Name_function_global I.ok.kind hg (Calls.loadGlobal_builtin (by rw [I.ok.glob]; exact I.mod.glob.keeps I.bk) hm (by rw [I.ok.blt]; exact h1.keeps I.bk) ((h2 x hn).trans hv) h) hd
theorem AVF {x : Str} {v : V} {u : Value} {pos : Pos} (hg : Gl X x) (hm : X.mg x = some u) (r : RelV v u) (hd : (x == ("__debug__" : Str)) = false := by decide) : PE X (.Name x pos) (tC v) :=
 fun _ _ _ H _ I h => AKI I hg hm ⟨v, H, I, r, h⟩ hd
theorem AUS {x : Str} {v : V} {u : Value} {pos : Pos} (hg : Gl X x) (hm : X.mg x = none) (hv : bootBuiltins x = some u) (r : RelV v u) (hn : x ≠ "__name__" := by decide) (hd : (x == ("__debug__" : Str)) = false := by decide) : PE X (.Name x pos) (tC v) :=
 fun _ _ _ H _ I h => AGR I hg hm hv ⟨v, H, I, r, h⟩ hn hd
variable {a b : Expr} {ta tb : TE} {pos : Pos}
variable {tA tB' : TT} {R4 : List Expr}
def Ac6 (t u : TT) : TT := fun σ H Q => t σ H fun c H1 => if c = true then u σ H1 Q else Q false H1
def tOr (t u : TT) : TT := fun σ H Q => t σ H fun c H1 => if c = true then Q true H1 else u σ H1 Q
def AbX (t : TT) : TT := fun σ H Q => t σ H fun c H1 => Q (!c) H1
theorem AUE (ha : PT X a tA) : PW X (.BoolOp .And [a] pos) tA := by
 intro wh pins s σ H Q I h
 refine isTrue_and (thn (ha pins s σ H Q I h) fun c s1 e => ?_)
 cases c with
 | true => exact isTrue_and_nil e
 | false => exact e
theorem AXW (ha : PT X a tA) : PW X (.BoolOp .Or [a] pos) tA := by
 intro wh pins s σ H Q I h
 refine isTrue_or (thn (ha pins s σ H Q I h) fun c s1 e => ?_)
 cases c with
 | false => exact isTrue_or_nil e
 | true => exact e
theorem AX1 (ha : PT X a tA) (hb : PW X (.BoolOp .And (b :: R4) pos) tB') : PW X (.BoolOp .And (a :: b :: R4) pos) (Ac6 tA tB') := by
 intro wh pins s σ H Q I h
 refine isTrue_and (thn (ha pins s σ H _ I h) fun c s1 ⟨H1, I1, q1⟩ => ?_)
 cases c with
 | true => exact hb wh pins s1 σ H1 Q I1 q1
 | false => exact ⟨H1, I1, q1⟩
theorem AaF (ha : PT X a tA) (hb : PW X (.BoolOp .Or (b :: R4) pos) tB') : PW X (.BoolOp .Or (a :: b :: R4) pos) (tOr tA tB') := by
 intro wh pins s σ H Q I h
 refine isTrue_or (thn (ha pins s σ H _ I h) fun c s1 ⟨H1, I1, q1⟩ => ?_)
 cases c with
 | true => exact ⟨H1, I1, q1⟩
 | false => exact hb wh pins s1 σ H1 Q I1 q1
theorem AXI (ha : PT X a tA) : PT X (.UnaryOp .Not a pos) (AbX tA) := by
 intro pins s σ H Q I h
 exact isTrue_not (ha pins s σ H (fun c H1 => Q (!c) H1) I h)
def AaP (ta tb : TE) : TE := fun σ H Q => ta σ H fun x H1 => ∃ c, x = .bl c ∧ if c = true then tb σ H1 Q else Q (.bl false) H1
def AcN (ta tb : TE) : TE := fun σ H Q => ta σ H fun x H1 => ∃ c, x = .bl c ∧ if c = true then Q (.bl true) H1 else tb σ H1 Q
def AZE (ta : TE) : TE := fun σ H Q => ta σ H fun x H1 => ∃ c, x = .bl c ∧ Q (.bl (!c)) H1
theorem AXB {op} {t : TE} (h : PE X a t) : PE X (.BoolOp op [a] pos) t := fun pins s σ H Q I hw => BoolOp_one (h pins s σ H Q I hw)
theorem AWS (ha : PE X a ta) (hb : PE X (.BoolOp .And (b :: R4) pos) tb) : PE X (.BoolOp .And (a :: b :: R4) pos) (AaP ta tb) := by
 intro pins s σ H Q I h
 refine BoolOp_and (thn (ha pins s σ H _ I h) fun v s1 ⟨x, H1, I1, r1, q1⟩ => ?_)
 obtain ⟨c, rfl, q1⟩ := q1
 cases r1
 refine wpAny_truthy_bool ?_
 cases c with
 | true => exact hb pins s1 σ H1 Q I1 q1
 | false => exact ⟨.bl false, H1, I1, rfl, q1⟩
theorem AaM (ha : PE X a ta) (hb : PE X (.BoolOp .Or (b :: R4) pos) tb) : PE X (.BoolOp .Or (a :: b :: R4) pos) (AcN ta tb) := by
 intro pins s σ H Q I h
 refine BoolOp_or (thn (ha pins s σ H _ I h) fun v s1 ⟨x, H1, I1, r1, q1⟩ => ?_)
 obtain ⟨c, rfl, q1⟩ := q1
 cases r1
 refine wpAny_truthy_bool ?_
 cases c with
 | false => exact hb pins s1 σ H1 Q I1 q1
 | true => exact ⟨.bl true, H1, I1, rfl, q1⟩
theorem AYM (ha : PE X a ta) : PE X (.UnaryOp .Not a pos) (AZE ta) := by
 intro pins s σ H Q I h
 refine UnaryOp_ (thn (ha pins s σ H _ I h) fun v s1 ⟨x, H1, I1, r1, q1⟩ => ?_)
 obtain ⟨c, rfl, q1⟩ := q1
 cases r1
 exact not_of (wpAny_truthy_bool ⟨.bl (!c), H1, I1, rfl, q1⟩)
def tIf (t : TT) (ta tb : TE) : TE := fun σ H Q => t σ H fun c H1 => if c = true then ta σ H1 Q else tb σ H1 Q
theorem AQQ {c : Expr} (hc : PT X c tA) (ha : PE X a ta) (hb : PE X b tb) : PE X (.IfExp c a b pos) (tIf tA ta tb) := by
 intro pins s σ H Q I h
 refine wpAny_IfExp (thn (hc pins s σ H _ I h) fun d s1 ⟨H1, I1, q1⟩ => ?_)
 cases d with
 | true => exact ha pins s1 σ H1 Q I1 q1
 | false => exact hb pins s1 σ H1 Q I1 q1
end
def SqL (K : PySem.W.Frag) (H : Hp) (a : Addr) (xs : List V) : Prop :=
 Rd H a (.lst xs) ∨
  ∃ (o : Obj) (its : Array Value) (n : Nat), K.lookup a = some o ∧ o.cls = .type "list" ∧ o.dict = none ∧ o.data = .seq its n ∧ its.size ≤ sizeLine ∧ Vals xs its.toList
def SqT (K : PySem.W.Frag) (H : Hp) (a : Addr) (xs : List V) : Prop :=
 Rd H a (.tup xs) ∨
  ∃ (o : Obj) (its : Array Value) (n : Nat), K.lookup a = some o ∧ o.cls = .type "tuple" ∧ o.data = .seq its n ∧ its.size ≤ sizeLine ∧ Vals xs its.toList
def AcS : Value → Option V
 | .none => some .non
 | .bool b => some (.bl b)
 | .int i _ => some (.int i)
 | .str x _ => some (.str x)
 | .bytes b _ => some (.byt b)
 | .float b _ => some (.flt b)
 | .ref a => some (.ref a)
 | .type n => some (.ty n)
 | _ => none
theorem RelV.abs {x : V} {u : Value} (r : RelV x u) : AcS u = some x := by
 cases x with
 | non => cases r; rfl
 | bl _ => cases r; rfl
 | int _ => obtain ⟨t, rfl⟩ := r; rfl
 | str _ => obtain ⟨t, rfl⟩ := r; rfl
 | byt _ => obtain ⟨t, rfl⟩ := r; rfl
 | flt _ => obtain ⟨t, rfl⟩ := r; rfl
 | ref _ => cases r; rfl
 | ty _ => cases r; rfl
theorem RelV.inj {x y : V} {u : Value} (r : RelV x u) (q : RelV y u) : x = y := Option.some.inj (r.abs.symm.trans q.abs)
theorem Vals.inj : ∀ {xs ys : List V} {us : List Value}, Vals xs us → Vals ys us → xs = ys
 | _, _, _, .nil, .nil => rfl
 | _, _, _, .cons r t, .cons r' t' => by rw [r.inj r', Vals.inj t t']
section
variable {X : Cx} {pins : List (Addr × Obj)} {σ : St} {H : Hp} {s : Shared} {a : Addr} {xs ys : List V}
theorem SqL.of {K : PySem.W.Frag} (h : H a = some (.lst xs)) : SqL K H a xs := .inl (.inl h)
theorem SqT.of {K : PySem.W.Frag} (h : H a = some (.tup xs)) : SqT K H a xs := .inl (.inl h)
theorem Inv.list (I : Inv X pins σ H s) (h : SqL X.K H a xs) : ∃ its : List Value, Vals xs its ∧ PlainL s.heap a its.toArray ∧ xs.length ≤ sizeLine := by
 rcases h with h | ⟨o, its, n, hk, hc, hd, hs, hz, r⟩
 ·obtain ⟨z, its, n, r, e⟩ := h.ok I.hok
  exact ⟨its, r, ⟨_, n, e, rfl, rfl, rfl⟩, z⟩
 ·refine ⟨its.toList, r, ⟨o, n, I.kIn a o hk, hc, hd, by simpa using hs⟩, ?_⟩
  have e := r.length
  simp only [Array.length_toList] at e
  omega
theorem Inv.tuple (I : Inv X pins σ H s) (h : SqT X.K H a xs) : ∃ its : List Value, Vals xs its ∧ IsTup s.heap a its.toArray ∧ xs.length ≤ sizeLine := by
 rcases h with h | ⟨o, its, n, hk, hc, hs, hz, r⟩
 ·obtain ⟨z, its, r, p⟩ := h.ok I.hok
  exact ⟨its, r, p, z⟩
 ·refine ⟨its.toList, r, ⟨o, I.kIn a o hk, hc, n, by simpa using hs⟩, ?_⟩
  have e := r.length
  simp only [Array.length_toList] at e
  omega
theorem Inv.list_inj (I : Inv X pins σ H s) (h : SqL X.K H a xs) (h' : SqL X.K H a ys) : xs = ys := by
 obtain ⟨its, r, ⟨o, n, e, _, _, d⟩, _⟩ := I.list h
 obtain ⟨its', r', ⟨o', n', e', _, _, d'⟩, _⟩ := I.list h'
 rw [e] at e'; cases e'
 rw [d] at d'
 injection d' with d1 _
 have : its = its' := by simpa using congrArg Array.toList d1
 subst this
 exact r.inj r'
theorem Inv.tuple_inj (I : Inv X pins σ H s) (h : SqT X.K H a xs) (h' : SqT X.K H a ys) : xs = ys := by
 obtain ⟨its, r, ⟨o, e, _, n, d⟩, _⟩ := I.tuple h
 obtain ⟨its', r', ⟨o', e', _, n', d'⟩, _⟩ := I.tuple h'
 rw [e] at e'; cases e'
 rw [d] at d'
 injection d' with d1 _
 have : its = its' := by simpa using congrArg Array.toList d1
 subst this
 exact r.inj r'
end
section
variable {X : Cx} {st : Stmt} {R4 : List Stmt} {t u : TS} {e : Expr} {te : TE} {pos : Pos}
def AZS : TS := fun D σ H => D.nx σ H
def AbS (t u : TS) : TS := fun D σ H => t { D with nx := u D } σ H
theorem ATX : PSs X [] AZS := fun _ _ σ H _ I h => wpAny_execs_nil ⟨σ, H, I, h⟩
theorem AE9 (h1 : PS X st t) (h2 : PSs X R4 u) : PSs X (st :: R4) (AbS t u) := by
 intro pins s σ H D I h
 refine wpAny_execs_cons (thn (h1 pins s σ H { D with nx := u D } I h) fun f s1 q => ?_)
 cases f with
 | next =>
  obtain ⟨σ', H', I', q⟩ := q
  exact h2 pins s1 σ' H' D I' q
 | ret v => exact q
 | brk => exact q
 | cont => exact q
theorem AQ9 (h1 : PS X st t) : PSs X [st] t := by
 intro pins s σ H D I h
 refine wpAny_execs_cons (thn (h1 pins s σ H D I h) fun f s1 q => ?_)
 cases f with
 | next => exact wpAny_execs_nil q
 | ret v => exact q
 | brk => exact q
 | cont => exact q
def AZF : TS := fun D σ H => D.ct σ H
theorem AKU : PS X (.Continue pos) AZF := fun _ _ σ H _ I h => wpAny_Continue ⟨σ, H, I, h⟩
theorem Inv.quiet {pins : List (Addr × Obj)} {σ : St} {H : Hp} {s : Shared} (I : Inv X pins σ H s) : interactive X.env = false := by simp [interactive, I.ok.kind]
def AaN (te : TE) : TS := fun D σ H => te σ H fun _ H1 => D.nx σ H1
theorem AOU (he : PE X e te) (hs : swapsWith e none pos.line X.env = pure false := by rfl) : PS X (.Expr e pos) (AaN te) := by
 intro pins s σ H D I h
 exact wpAny_Expr_any (thn (he pins s σ H _ I h) fun v s1 ⟨x, H1, I1, r1, q1⟩ => ⟨σ, H1, I1, q1⟩) I.quiet hs
def AcV (te : TE) : TS := fun D σ H => te σ H D.rt
theorem AY4 (he : PE X e te) : PS X (.Return (some e) pos) (AcV te) := by
 intro pins s σ H D I h
 exact wpAny_Return_some (thn (he pins s σ H _ I h) fun v s1 ⟨x, H1, I1, r1, q1⟩ => ⟨x, σ, H1, I1, r1, q1⟩)
def Ac0 (c : TT) (t u : TS) : TS := fun D σ H => c σ H fun b H1 => if b = true then t D σ H1 else u D σ H1
theorem AZA {c : Expr} {a b : List Stmt} {tc : TT} (hc : PT X c tc) (ha : PSs X a t) (hb : PSs X b u) : PS X (.If c a b pos) (Ac0 tc t u) := by
 intro pins s σ H D I h
 refine wpAny_If (thn (hc pins s σ H _ I h) fun d s1 ⟨H1, I1, q1⟩ => ?_)
 cases d with
 | true => exact ha pins s1 σ H1 D I1 q1
 | false => exact hb pins s1 σ H1 D I1 q1
end
abbrev TG := V → St → Hp → (St → Hp → Prop) → Prop
abbrev TGs := List V → St → Hp → (St → Hp → Prop) → Prop
def PG (X : Cx) (target : Expr) (t : TG) : Prop :=
 ∀ (pins : List (Addr × Obj)) (s : Shared) (σ : St) (H : Hp) (v : V) (u : Value) (Q : St → Hp → Prop), Inv X pins σ H s → RelV v u → t v σ H Q →
  wpAny (model X.prog X.w) X.A (assign target X.env u) (fun _ s' => ∃ σ' H', Inv X pins σ' H' s' ∧ Q σ' H') X.xe s
def PGs (X : Cx) (ts : List Expr) (t : TGs) : Prop :=
 ∀ (pins : List (Addr × Obj)) (s : Shared) (σ : St) (H : Hp) (vs : List V) (us : List Value) (Q : St → Hp → Prop), Inv X pins σ H s → Vals vs us → t vs σ H Q →
  wpAny (model X.prog X.w) X.A (assignInOrder ((assignEach ts X.env).map (·.2)) us) (fun _ s' => ∃ σ' H', Inv X pins σ' H' s' ∧ Q σ' H') X.xe s
section
variable {X : Cx} {pos : Pos}
def gName (i : Nat) : TG := fun v σ H Q => Q (σ.set i (some v)) H
theorem AKZ {i : Nat} {x : Str} (hN : X.N.Nodup) (hi : X.N[i]? = some x) (hx : Loc X.env.scope x) (hf : X.fn x = true ∨ X.env.scope.names.lookup x = some .local := by first | exact .inl rfl | exact .inr rfl | assumption) : PG X (.Name x pos) (gName i) := by
 intro pins s σ H v u Q I r h
 exact wpAny_assign_Name (AEB I hN hi hx r (fun s' I' => ⟨_, H, I', h⟩) hf)
def AcD : TGs := fun vs σ H Q => vs = [] ∧ Q σ H
def Aa7 (t : TG) (u : TGs) : TGs := fun vs σ H Q => ∃ v r, vs = v :: r ∧ t v σ H fun σ' H' => u r σ' H' Q
theorem AU8 : PGs X [] AcD := by
 intro pins s σ H vs us Q I r h
 obtain ⟨e, h⟩ := h
 subst e
 cases r
 exact assignInOrder_nil ⟨σ, H, I, h⟩
theorem ARR {e : Expr} {es : List Expr} {t : TG} {u : TGs} (h1 : PG X e t) (h2 : PGs X es u)
  (hs : (assignEach (e :: es) X.env).map (·.2) = assign e X.env :: (assignEach es X.env).map (·.2) := by rfl) : PGs X (e :: es) (Aa7 t u) := by
 intro pins s σ H vs us Q I r h
 obtain ⟨v, vr, e1, h⟩ := h
 subst e1
 cases r with
 | cons r rr =>
  rw [hs]
  refine assignInOrder_cons (thn (h1 pins s σ H _ _ _ I r h) fun _ s1 ⟨σ1, H1, I1, q1⟩ => ?_)
  exact h2 pins s1 σ1 H1 _ _ Q I1 rr q1
def gTup (K : PySem.W.Frag) (n : Nat) (t : TGs) : TG := fun v σ H Q => ∃ a xs, v = .ref a ∧ SqT K H a xs ∧ xs.length = n ∧ t xs σ H Q
theorem AYD {es : List Expr} {k : Nat} {t : TGs} {n : Nat} (hc : X.calm = true) (h : PGs X es t)
  (hn : (assignEach es X.env).length = n := by rfl) (hst : (assignEach es X.env).findIdx? (·.1) = none := by rfl) : PG X (.Tuple es k pos) (gTup X.K n t) := by
 intro pins s σ H v u Q I r hw
 obtain ⟨a, xs, e1, hq, hl, hw⟩ := hw
 subst e1
 cases r
 obtain ⟨its, rv, ht, hz⟩ := I.tuple hq
 refine assign_Tuple_tuple (I.ok.hd hc) ht (by simp [hn, ← hl, rv.length]) hst fun h' hx => ?_
 have I1 : Inv X pins σ H { s with heap := h' } := I.kept (t' := s.toks) fun b o e => hx b o (Nat.ne_of_lt (Heap.lt_size e)) e
 exact h pins _ σ H xs _ Q I1 (by simpa using rv) hw
def Ab9 (te : TE) (g : TG) : TS := fun D σ H => te σ H fun x H1 => g x σ H1 D.nx
theorem AXP {tg e : Expr} {te : TE} {g : TG} (he : PE X e te) (hg : PG X tg g) (hs : swapsWithSole [tg] e pos.line X.env = pure false := by rfl) (hw : swappedStores [tg] e X.env = pure none := by rfl)
  (h1 : (assignEach [tg] X.env).map (·.2) = [assign tg X.env] := by rfl) : PS X (.Assign [tg] e pos) (Ab9 te g) := by
 intro pins s σ H D I h
 refine wpAny_Assign_stores (thn (he pins s σ H _ I h) fun v s1 ⟨x, H1, I1, r1, q1⟩ => ?_) hs hw
 rw [h1]
 exact thn (hg pins s1 σ H1 x v _ I1 r1 q1) fun _ s2 q => q
theorem ASR {i : Nat} {x : Str} {e : Expr} {te : TE} {pos' : Pos} (hN : X.N.Nodup) (hi : X.N[i]? = some x) (hx : Loc X.env.scope x) (he : PE X e te) (hs : swapsWith e (some (.Name x pos')) pos.line X.env = pure false := by rfl) (hf : X.fn x = true ∨ X.env.scope.names.lookup x = some .local := by first | exact .inl rfl | exact .inr rfl | assumption) :
  PS X (.Assign [.Name x pos'] e pos) (Ab9 te (gName i)) := by
 intro pins s σ H D I h
 refine wpAny_Assign_Name (thn (he pins s σ H _ I h) fun v s1 ⟨y, H1, I1, r1, q1⟩ => ?_) hs
 exact AEB I1 hN hi hx r1 (fun s2 I2 => ⟨_, H1, I2, q1⟩) hf
def Ac1 (i j : Nat) (ta : TA) : TS := fun D σ H => ta σ H fun vs H1 => ∃ v w, vs = [v, w] ∧ D.nx ((σ.set i (some v)).set j (some w)) H1
theorem AYU {i j : Nat} {x y : Str} {a b : Expr} {ta : TA} {px py pt : Pos} {kt k2 pt2} (hc : X.calm = true) (hN : X.N.Nodup) (hi : X.N[i]? = some x) (hj : X.N[j]? = some y) (hij : i ≠ j)
  (hx : X.env.scope.names.lookup x = some .local) (hy : X.env.scope.names.lookup y = some .local) (ha : PA X [a, b] ta)
  (hw : swappedStores [.Tuple [.Name x px, .Name y py] kt pt] (.Tuple [a, b] k2 pt2) X.env = pure (some [x, y]))
  (hs : swapsWithSole [.Tuple [.Name x px, .Name y py] kt pt] (.Tuple [a, b] k2 pt2) pos.line X.env = pure false := by rfl) :
  PS X (.Assign [.Tuple [.Name x px, .Name y py] kt pt] (.Tuple [a, b] k2 pt2) pos) (Ac1 i j ta) := by
 intro pins s σ H D I h
 rw [exec_Assign_arm]
 refine wpAny_bind (wpAny_standAt ?_)
 rw [hs]
 refine wpAny_bind (wpAny_pure ?_)
 rw [if_neg (by decide)]
 refine wpAny_bind (Tuple_ (thn (ha _ pins s σ H _ I h) fun us s1 ⟨vs, H1, I1, r1, q1⟩ => ?_))
 obtain ⟨v, w, e1, q1⟩ := q1
 subst e1
 obtain ⟨u1, u2, rfl, rv, rw'⟩ : ∃ u1 u2, us = [u1, u2] ∧ RelV v u1 ∧ RelV w u2 := by
  cases r1 with
  | cons p q =>
   cases q with
   | cons p' q' =>
    cases q'
    exact ⟨_, _, rfl, p, p'⟩
 refine wpAny_newObj_type ?_ (by show 2 ≤ sizeLine; decide)
 have I2 : Inv X pins σ H1 { s1 with heap := s1.heap.push { cls := .type "tuple", data := .seq [u1, u2].toArray } } := I1.kept (t' := s1.toks) fun b o e => Heap.get?_push_of_some _ e
 rw [hw]
 refine wpAny_bind (wpAny_pure ?_)
 show wpAny (model X.prog X.w) X.A (do rule "assign.swapped-stores"; let items ← unpackItems (.ref s1.heap.objs.size) 2 none; assignInOrder [fun v => bindName X.env y v, fun v => bindName X.env x v] items.reverse; pure Flow.next) _ _ _
 refine wpAny_bind (wpAny_rule (wpAny_bind (unpackItems_tuple (items := #[u1, u2]) (I.ok.hd hc) (IsTup.new s1.heap _) fun h' hx' => ?_)))
 have I3 := I2.kept (h' := h') (t' := s1.toks) fun b o e => hx' b o (Nat.ne_of_lt (Heap.lt_size e)) e
 show wpAny _ _ (assignInOrder [fun v => bindName X.env y v, fun v => bindName X.env x v] [u2, u1] >>= fun _ => pure Flow.next) _ _ _
 refine wpAny_bind (assignInOrder_cons (wpAny_bindName (AEB I3 hN hj (.inl hy) rw' (fun s2 I4 => ?_) (.inr hy))))
 refine assignInOrder_cons (wpAny_bindName (AEB I4 hN hi (.inl hx) rv (fun s3 I5 => assignInOrder_nil (wpAny_pure ?_)) (.inr hx)))
 rw [List.set_comm _ _ (Ne.symm hij)] at I5
 exact ⟨_, H1, I5, q1⟩
end
section
variable {X : Cx} {pos : Pos}
def AX9 (c : TT) (tb : TS) : TS := fun D σ H => ∃ W : Nat → St → Hp → Prop, (∃ m, W m σ H) ∧ ∀ m σ H, W m σ H →
 c σ H fun b H1 => if b = true then ∃ N : St → Hp → Prop, (∀ σ' H', N σ' H' → ∃ m', m' < m ∧ W m' σ' H') ∧ tb { D with nx := N, ct := N, bk := D.nx } σ H1 else D.nx σ H1
theorem AR2 {c : Expr} {body : List Stmt} {tc : TT} {tb : TS} (hp : PassesOwn (model X.prog X.w) X.A X.env X.xe) (hc : PT X c tc) (hb : PSs X body tb) : PS X (.While c body [] pos) (AX9 tc tb) := by
 intro pins s σ H D I h
 obtain ⟨W, ⟨m0, w0⟩, turn⟩ := h
 refine wpAny_While (codeAny_whileLoop (fun n s' => ∃ σ' H', Inv X pins σ' H' s' ∧ W n σ' H') ?_ m0 ⟨σ, H, I, w0⟩)
 rintro n s1 ⟨σ1, H1, I1, w1⟩
 refine wpAny_passesOwn hp (thn (hc pins s1 σ1 H1 _ I1 (turn n σ1 H1 w1)) fun b s2 ⟨H2, I2, q2⟩ => ?_)
 cases b with
 | true =>
  obtain ⟨N, hN, q2⟩ := q2
  rw [if_pos rfl]
  refine wpAny_passesOwn hp (thn (hb pins s2 σ1 H2 _ I2 q2) fun f s3 q3 => ?_)
  cases f with
  | next =>
   obtain ⟨σ3, H3, I3, n3⟩ := q3
   obtain ⟨m', hm, w3⟩ := hN σ3 H3 n3
   exact ⟨m', hm, σ3, H3, I3, w3⟩
  | cont =>
   obtain ⟨σ3, H3, I3, n3⟩ := q3
   obtain ⟨m', hm, w3⟩ := hN σ3 H3 n3
   exact ⟨m', hm, σ3, H3, I3, w3⟩
  | brk => exact q3
  | ret v => exact q3
 | false =>
  rw [if_neg Bool.false_ne_true]
  exact wpAny_execs_nil ⟨σ1, H2, I2, q2⟩
end
structure It where
 go : Nat → Hp → Prop
 yld : Nat → Hp → V → Hp → Prop
 stop : Nat → Hp → Prop
def AK0 (X : Cx) (pins : List (Addr × Obj)) (H : Hp) (b : Addr) : Prop :=
 H b = none ∧ b ≠ X.env.locals ∧ b ∉ X.fs ∧ (b ∈ X.ex ∨ X.s₀.heap.objs.size ≤ b) ∧ (∀ x c, X.env.cells.lookup x = some c → c ≠ b) ∧ ∀ p ∈ X.pn ++ pins, p.1 ≠ b
theorem Inv.fpOk {X : Cx} {pins : List (Addr × Obj)} {σ : St} {H H' : Hp} {s : Shared} {b : Addr} (I : Inv X pins σ H s) (hb : s.heap.objs.size ≤ b) (hn : H' b = none) : AK0 X pins H' b := by
 refine ⟨hn, Nat.ne_of_gt (Nat.lt_of_lt_of_le I.lt hb), I.nofs hb, .inr (Nat.le_trans I.sz hb), fun x c e z => ?_, fun p hp z => ?_⟩
 ·obtain ⟨v, q⟩ := I.cell x c e
  exact absurd (Nat.lt_of_lt_of_le q.lt (by rw [z]; exact hb)) (Nat.lt_irrefl _)
 ·exact absurd (Nat.lt_of_lt_of_le (Heap.lt_size (I.pin p hp).1) (by rw [z]; exact hb)) (Nat.lt_irrefl _)
structure Turn (P : Program) (w : World) (K : PySem.W.Frag) (tg : Expr) (J : It) (fp : List Addr) (it : Addr) (tn : Nat → Heap → Prop) : Prop where
 mem : it ∈ fp
 obj : ∀ i h, tn i h → ∀ b ∈ fp, ∃ o, h.get? b = some o ∧ ∀ v, o.data ≠ .cell v
 keep : ∀ i h h', tn i h → (∀ b ∈ fp, ∀ o, h.get? b = some o → h'.get? b = some o) → tn i h'
 item : ∀ (X : Cx), X.prog = P → X.w = w → X.K = K → X.calm = true → ∀ (i : Nat) (pins : List (Addr × Obj)) (s : Shared) (σ : St) (H : Hp) (E : Value → Shared → Prop), Inv X pins σ H s → (∀ b ∈ fp, AK0 X pins H b) → tn i s.heap → J.go i H →
  wpAny (model P w) X.A (pyNext (.ref it)) (fun r s1 => ∃ u, r = some u ∧
   wpAny (model P w) X.A (letOwnedTupleGo tg (.ref it) u) (fun _ s2 => ∃ x H', Inv X pins σ H' s2 ∧ RelV x u ∧ J.yld i H x H' ∧ tn (i + 1) s2.heap ∧ ∀ b ∈ fp, H' b = none) E s1) E s
 done : ∀ (X : Cx), X.prog = P → X.w = w → X.K = K → X.calm = true → ∀ (i : Nat) (pins : List (Addr × Obj)) (s : Shared) (σ : St) (H : Hp) (E : Value → Shared → Prop), Inv X pins σ H s → (∀ b ∈ fp, AK0 X pins H b) → tn i s.heap → J.stop i H →
  wpAny (model P w) X.A (pyNext (.ref it)) (fun r s1 => r = none ∧ Inv X pins σ H s1) E s
 self : ∀ (A : Around) (i : Nat) (s : Shared) (Q : Value → Shared → Prop) (E : Value → Shared → Prop), tn i s.heap → Q (.ref it) s → wpAny (model P w) A (pyIter (.ref it)) Q E s
abbrev TI := St → Hp → (It → Hp → Prop) → Prop
def PIE (X : Cx) (pins : List (Addr × Obj)) (σ : St) (tg : Expr) (R : It → Hp → Prop) (itv : Value) (s2 : Shared) : Prop :=
 ∃ (it : Addr) (fp : List Addr) (tn : Nat → Heap → Prop) (J : It) (H' : Hp), itv = .ref it ∧ Inv X pins σ H' s2 ∧ Turn X.prog X.w X.K tg J fp it tn ∧ tn 0 s2.heap ∧ (∀ b ∈ fp, AK0 X pins H' b) ∧ R J H'
def PI (X : Cx) (tg iter : Expr) (wi : TI) : Prop :=
 ∀ (pins : List (Addr × Obj)) (s : Shared) (σ : St) (H : Hp) (R : It → Hp → Prop), Inv X pins σ H s → wi σ H R →
  wpAny (model X.prog X.w) X.A (eval iter X.env) (fun v s1 => wpAny (model X.prog X.w) X.A (pyIter v) (PIE X pins σ tg R) X.xe s1) X.xe s
theorem AVB {M : Model} {A : Around} {E : Value → Shared → Prop} {s : Shared} {tg : Expr} {it : Addr} {u : Value} {o : Obj} {n : String} {vs : Array Value} {Q : Unit → Shared → Prop} (ho : s.heap.get? it = some o) (hc : o.cls = .type n) (hd : o.data = .fields vs)
  (hn : ["enumerate", "zip", "dict_itemiterator", "dict_reverseitemiterator", "odict_iterator", "itertools.zip_longest", "itertools.pairwise"].contains n = false) (hQ : Q () s) : wpAny M A (letOwnedTupleGo tg (.ref it) u) Q E s := by
 unfold letOwnedTupleGo
 cases tg <;> first
  | exact wpAny_pure hQ
  | (cases u <;> first
    | exact wpAny_pure hQ
    | (refine wpAny_bind (wpAny_load ho ?_)
       rw [hc, hd]
       show wpAny M A (if (["enumerate", "zip", "dict_itemiterator", "dict_reverseitemiterator", "odict_iterator", "itertools.zip_longest", "itertools.pairwise"].contains n && vs[0]? == some (rawInt _)) = true then _ else _) Q E s
       rw [if_neg (by intro h; rw [hn, Bool.false_and] at h; cases h)]
       exact wpAny_pure hQ))
def Itl (K : PySem.W.Frag) (a : Addr) : It :=
 ⟨fun i H => ∃ xs x, SqL K H a xs ∧ xs[i]? = some x, fun i H x H' => H' = H ∧ ∀ xs, SqL K H a xs → xs[i]? = some x, fun i H => ∃ xs, SqL K H a xs ∧ xs.length ≤ i⟩
def Itt (K : PySem.W.Frag) (a : Addr) : It :=
 ⟨fun i H => ∃ xs x, SqT K H a xs ∧ xs[i]? = some x, fun i H x H' => H' = H ∧ ∀ xs, SqT K H a xs → xs[i]? = some x, fun i H => ∃ xs, SqT K H a xs ∧ xs.length ≤ i⟩
def Itr (lo : Int) (n : Nat) : It := ⟨fun i _ => i < n, fun i H x H' => H' = H ∧ x = .int (lo + i), fun i _ => n ≤ i⟩
theorem AQE {P : Program} {w : World} {K : PySem.W.Frag} {tg : Expr} (a it : Addr) : Turn P w K tg (Itl K a) [it] it (fun i h => h.IsListIter it a i) where
 mem := by simp
 obj := fun i h st b hb => by
  have e : b = it := by simpa using hb
  subst e
  obtain ⟨o, e, c, d⟩ := st
  exact ⟨o, e, fun v z => by rw [d] at z; cases z⟩
 keep := fun i h h' st k => st.at fun o e => k it (by simp) o e
 item := by
  intro X hP hw hK hc i pins s σ H E I hf st hg
  subst hP hw hK
  obtain ⟨xs, x, hq, hx⟩ := hg
  obtain ⟨its, rv, p, hz⟩ := I.list hq
  obtain ⟨u, hu, ru⟩ := rv.get hx
  obtain ⟨f0, f1, f2, f3, f4, f5⟩ := hf it (by simp)
  refine wpAny_pyNext_list_item st p.isList (x := u) (by simpa using hu) fun h' st' sb => ?_
  have I1 : Inv X pins σ H { s with heap := h' } := I.turned (t' := s.toks) (fun b o hb e => (sb.2 b hb).trans e) f0 f1 f3 f4 f5
  obtain ⟨o, e, c, d⟩ := id st'
  exact ⟨u, rfl, AVB (s := { s with heap := h' }) e c d (by decide) ⟨x, H, I1, ru, ⟨rfl, fun ys hy => by rw [I.list_inj hy hq]; exact hx⟩, st', fun b hb => (hf b hb).1⟩⟩
 done := by
  intro X hP hw hK hc i pins s σ H E I hf st hg
  subst hP hw hK
  obtain ⟨xs, hq, hx⟩ := hg
  obtain ⟨its, rv, p, hz⟩ := I.list hq
  obtain ⟨f0, f1, f2, f3, f4, f5⟩ := hf it (by simp)
  have hl := rv.length
  exact wpAny_pyNext_list_end (I.ok.hd hc) st p.isList (by simp; omega) fun h' eb => ⟨rfl, I.turned (t' := s.toks) (fun b o hb e => eb b o hb e) f0 f1 f3 f4 f5⟩
 self := fun _ _ _ _ _ st h => wpAny_pyIter_listiter st h
theorem ANC {P : Program} {w : World} {K : PySem.W.Frag} {tg : Expr} (a it : Addr) : Turn P w K tg (Itt K a) [it] it (fun i h => h.IsTupleIter it a i) where
 mem := by simp
 obj := fun i h st b hb => by
  have e : b = it := by simpa using hb
  subst e
  obtain ⟨o, e, c, d⟩ := st
  exact ⟨o, e, fun v z => by rw [d] at z; cases z⟩
 keep := fun i h h' st k => st.at fun o e => k it (by simp) o e
 item := by
  intro X hP hw hK hc i pins s σ H E I hf st hg
  subst hP hw hK
  obtain ⟨xs, x, hq, hx⟩ := hg
  obtain ⟨its, rv, p, hz⟩ := I.tuple hq
  obtain ⟨u, hu, ru⟩ := rv.get hx
  obtain ⟨f0, f1, f2, f3, f4, f5⟩ := hf it (by simp)
  refine wpAny_pyNext_tuple_item st (show s.heap.IsTuple a its.toArray from p) (x := u) (by simpa using hu) fun h' st' sb => ?_
  have I1 : Inv X pins σ H { s with heap := h' } := I.turned (t' := s.toks) (fun b o hb e => (sb.2 b hb).trans e) f0 f1 f3 f4 f5
  obtain ⟨o, e, c, d⟩ := id st'
  exact ⟨u, rfl, AVB (s := { s with heap := h' }) e c d (by decide) ⟨x, H, I1, ru, ⟨rfl, fun ys hy => by rw [I.tuple_inj hy hq]; exact hx⟩, st', fun b hb => (hf b hb).1⟩⟩
 done := by
  intro X hP hw hK hc i pins s σ H E I hf st hg
  subst hP hw hK
  obtain ⟨xs, hq, hx⟩ := hg
  obtain ⟨its, rv, p, hz⟩ := I.tuple hq
  obtain ⟨f0, f1, f2, f3, f4, f5⟩ := hf it (by simp)
  have hl := rv.length
  exact wpAny_pyNext_tuple_end (I.ok.hd hc) st (show s.heap.IsTuple a its.toArray from p) (by simp; omega) fun h' eb => ⟨rfl, I.turned (t' := s.toks) (fun b o hb e => eb b o hb e) f0 f1 f3 f4 f5⟩
 self := fun _ _ _ _ _ st h => wpAny_pyIter_tupleiter st h
theorem AMF {P : Program} {w : World} {K : PySem.W.Frag} {tg : Expr} (it : Addr) (lo : Int) (n : Nat) : Turn P w K tg (Itr lo n) [it] it (fun i h => IsRangeIter h it (lo + (i : Nat) * 1) ((n : Int) - (i : Nat)) 1) where
 mem := by simp
 obj := fun i h st b hb => by
  have e : b = it := by simpa using hb
  subst e
  exact ⟨_, st, fun v z => by
   have z' : Data.fields _ = Data.cell v := z
   cases z'⟩
 keep := fun i h h' st k => k it (by simp) _ st
 item := by
  intro X hP hw hK hc i pins s σ H E I hf st hg
  subst hP hw hK
  obtain ⟨f0, f1, f2, f3, f4, f5⟩ := hf it (by simp)
  have W := Walks.range (prog := X.prog) (w := X.w) (I.ok.hd hc) it lo 1 n
  refine W.item i s _ _ hg st fun v h' tk hv st' kk => ?_
  obtain ⟨t, rfl⟩ := hv
  have I1 : Inv X pins σ H { s with heap := h', toks := tk } := I.turned (fun b o hb e => kk b o (by simpa using hb) e) f0 f1 f3 f4 f5
  refine ⟨_, rfl, AVB (s := { s with heap := h', toks := tk }) (n := "range_iterator") st' rfl rfl (by decide) ⟨.int (lo + i), H, I1, ⟨t, ?_⟩, ⟨rfl, rfl⟩, st', fun b hb => (hf b hb).1⟩⟩
  rw [Int.mul_one]
 done := by
  intro X hP hw hK hc i pins s σ H E I hf st hg
  subst hP hw hK
  obtain ⟨f0, f1, f2, f3, f4, f5⟩ := hf it (by simp)
  exact wpAny_pyNext_range_end (I.ok.hd hc) st (by have : n ≤ i := hg; omega) fun h' eb => ⟨rfl, I.turned (t' := s.toks) (fun b o hb e => eb b o hb e) f0 f1 f3 f4 f5⟩
 self := fun _ _ _ _ _ st h => wpAny_pyIter_rangeiter st h
section
variable {X : Cx} {tg : Expr}
def AaD (K : PySem.W.Frag) (tl : TE) : TI := fun σ H R => tl σ H fun x H1 => ∃ a, x = .ref a ∧ (∃ xs, SqL K H1 a xs) ∧ R (Itl K a) H1
def Ac4 (K : PySem.W.Frag) (tl : TE) : TI := fun σ H R => tl σ H fun x H1 => ∃ a, x = .ref a ∧ (∃ xs, SqT K H1 a xs) ∧ R (Itt K a) H1
theorem APK {l : Expr} {tl : TE} (hl : PE X l tl) : PI X tg l (AaD X.K tl) := by
 intro pins s σ H R I h
 refine thn (hl pins s σ H _ I h) fun v s1 ⟨x, H1, I1, r1, q1⟩ => ?_
 obtain ⟨a, e, ⟨xs, hq⟩, q⟩ := q1
 subst e
 cases r1
 obtain ⟨its, rv, p, hz⟩ := I1.list hq
 refine wpAny_pyIter_list p.isList ?_
 refine ⟨s1.heap.objs.size, [s1.heap.objs.size], _, _, H1, rfl, I1.kept (t' := s1.toks) fun b o e => Heap.get?_push_of_some _ e, AQE a _, ⟨_, Heap.get?_push_size _ rfl, rfl, rfl⟩, fun b hb => ?_, q⟩
 have e : b = s1.heap.objs.size := by simpa using hb
 subst e
 exact I1.fpOk (Nat.le_refl _) (I1.hok.fresh (Nat.le_refl _))
theorem ATG {l : Expr} {tl : TE} (hl : PE X l tl) : PI X tg l (Ac4 X.K tl) := by
 intro pins s σ H R I h
 refine thn (hl pins s σ H _ I h) fun v s1 ⟨x, H1, I1, r1, q1⟩ => ?_
 obtain ⟨a, e, ⟨xs, hq⟩, q⟩ := q1
 subst e
 cases r1
 obtain ⟨its, rv, p, hz⟩ := I1.tuple hq
 refine wpAny_pyIter_tuple (show s1.heap.IsTuple a its.toArray from p) ?_
 refine ⟨s1.heap.objs.size, [s1.heap.objs.size], _, _, H1, rfl, I1.kept (t' := s1.toks) fun b o e => Heap.get?_push_of_some _ e, ANC a _, ⟨_, Heap.get?_push_size _ rfl, rfl, rfl⟩, fun b hb => ?_, q⟩
 have e : b = s1.heap.objs.size := by simpa using hb
 subst e
 exact I1.fpOk (Nat.le_refl _) (I1.hok.fresh (Nat.le_refl _))
theorem AR6 {pins : List (Addr × Obj)} {σ : St} {H : Hp} {s : Shared} {R : It → Hp → Prop} {E : Value → Shared → Prop} {lo hi : Int} {t u v : Tok} {tk : Nat} (I : Inv X pins σ H s) (h1 : -(2 ^ 62) ≤ lo) (h2 : lo < 2 ^ 62) (h3 : -(2 ^ 62) ≤ hi) (h4 : hi < 2 ^ 62)
  (q : R (Itr lo (hi - lo).toNat) H) : wpAny (model X.prog X.w) X.A (pyIter (.ref s.heap.objs.size)) (PIE X pins σ tg R) E { s with heap := s.heap.push { cls := .type "range", data := .fields #[.int lo t, .int hi u, .int 1 v] }, toks := tk } := by
 refine wpAny_pyIter_range (IsRange.new ..) (small_one h1 h2 h3 h4) ?_
 have I1 : Inv X pins σ H { s with heap := s.heap.push { cls := .type "range", data := .fields #[.int lo t, .int hi u, .int 1 v] }, toks := tk } := I.kept fun b o e => Heap.get?_push_of_some _ e
 refine ⟨(s.heap.push { cls := .type "range", data := .fields #[.int lo t, .int hi u, .int 1 v] }).objs.size, [(s.heap.push { cls := .type "range", data := .fields #[.int lo t, .int hi u, .int 1 v] }).objs.size], _, _, H, rfl,
  I1.kept (t' := tk) fun b o e => Heap.get?_push_of_some _ e, AMF _ lo (hi - lo).toNat, ?_, fun b hb => ?_, q⟩
 ·have e1 : lo + ((0 : Nat) : Int) * 1 = lo := by simp
  have e2 : (((hi - lo).toNat : Nat) : Int) - ((0 : Nat) : Int) = Builtin.Range.rangeSize lo hi 1 := by rw [rangeSize_one]; split <;> omega
  show IsRangeIter _ _ (lo + ((0 : Nat) : Int) * 1) ((((hi - lo).toNat : Nat) : Int) - ((0 : Nat) : Int)) 1
  rw [e1, e2]
  exact Heap.get?_push_size _ rfl
 ·have e : b = (s.heap.push { cls := .type "range", data := .fields #[.int lo t, .int hi u, .int 1 v] }).objs.size := by simpa using hb
  subst e
  exact I1.fpOk (Nat.le_refl _) (I1.hok.fresh (Nat.le_refl _))
def AZN (ta : TA) : TI := fun σ H R => ta σ H fun vs H1 => ∃ j : Int, vs = [.int j] ∧ -(2 ^ 62) ≤ j ∧ j < 2 ^ 62 ∧ R (Itr 0 j.toNat) H1
theorem AQH {a : Expr} {ta : TA} {p pos : Pos} (hg : Gl X "range") (hm : X.mg "range" = none) (ha : PA X [a] ta) (hs : starEach [a] X.env = [(false, eval a X.env)] := by rfl) : PI X tg (.Call (.Name "range" p) [a] [] pos) (AZN ta) := by
 intro pins s σ H R I h
 refine Call_ (AGR I hg hm boot_range (PyProof.Rows.callWith_type1 (thn (ha pos pins s σ H _ I h) fun us s1 ⟨vs, H1, I1, r1, q1⟩ => ?_) hs rfl))
 obtain ⟨j, e, q1, q2, q⟩ := q1
 subst e
 cases r1 with
 | cons r rr =>
  cases rr
  obtain ⟨t, rfl⟩ := r
  exact call_range_1 (AR6 I1 (by omega) (by omega) q1 q2 (by simpa using q))
def AcF (wi : TI) (g : TG) (tb : TS) : TS := fun D σ H => wi σ H fun J H1 => ∃ W : Nat → Nat → St → Hp → Prop, (∃ m, W 0 m σ H1) ∧ ∀ i m σ H, W i m σ H →
 (J.stop i H ∧ D.nx σ H) ∨ (J.go i H ∧ ∃ N : St → Hp → Prop, (∀ σ' H', N σ' H' → ∃ m', m' < m ∧ W (i + 1) m' σ' H') ∧ ∀ x H', J.yld i H x H' → g x σ H' fun σ2 H2 => tb { D with nx := N, ct := N, bk := D.nx } σ2 H2)
def U3 (fp : List Addr) (h : Heap) : List (Addr × Obj) := fp.filterMap fun b => (h.get? b).map fun o => (b, o)
theorem C9 {fp : List Addr} {h : Heap} {b : Addr} {o : Obj} (hb : b ∈ fp) (e : h.get? b = some o) : (b, o) ∈ U3 fp h := List.mem_filterMap.mpr ⟨b, hb, by rw [e]; rfl⟩
theorem d6 {fp : List Addr} {h : Heap} {p : Addr × Obj} (hp : p ∈ U3 fp h) : p.1 ∈ fp ∧ h.get? p.1 = some p.2 := by
 obtain ⟨b, hb, e⟩ := List.mem_filterMap.mp hp
 cases q : h.get? b with
 | none => rw [q] at e; cases e
 | some o =>
  rw [q] at e
  have e' : (b, o) = p := Option.some.inj e
  subst e'
  exact ⟨hb, q⟩
theorem Inv.pinned {pins : List (Addr × Obj)} {σ : St} {H : Hp} {s : Shared} {fp : List Addr} (I : Inv X pins σ H s) (hf : ∀ b ∈ fp, AK0 X pins H b) (ho : ∀ b ∈ fp, ∃ o, s.heap.get? b = some o ∧ ∀ v, o.data ≠ .cell v) : Inv X (pins ++ U3 fp s.heap) σ H s :=
 I.pins_of fun p hp => (List.mem_append.mp hp).elim (fun z => I.pin p (List.mem_append_right _ z)) fun z => by
  obtain ⟨hb, e⟩ := d6 z
  obtain ⟨f0, f1, f2, _⟩ := hf p.1 hb
  obtain ⟨o, e', d⟩ := ho p.1 hb
  rw [e] at e'; cases e'
  exact ⟨e, f0, f1, f2, d⟩
theorem Inv.unpinned {pins pl : List (Addr × Obj)} {σ : St} {H : Hp} {s : Shared} (I : Inv X (pins ++ pl) σ H s) : Inv X pins σ H s := I.pins_of fun p hp => I.pin p (List.mem_append_right _ (List.mem_append_left _ hp))
theorem AOK {iter : Expr} {body : List Stmt} {wi : TI} {g : TG} {tb : TS} {pos : Pos} (hp : PassesOwn (model X.prog X.w) X.A X.env X.xe) (hc : X.calm = true) (hi : PI X tg iter wi) (hg : PG X tg g) (hb : PSs X body tb)
  (hs : ∀ x, foldedSetIterable iter X.env x = pure x := by intro _; rfl) : PS X (.For tg iter body [] pos) (AcF wi g tb) := by
 intro pins s σ H D I h
 refine wpAny_For (thn (hi pins s σ H _ I h) fun v s1 h1 => thn h1 fun itv s2 h2 => ?_) hs
 obtain ⟨it, fp, tn, J, H2, e, I2, T, st2, f2, W, ⟨m0, w0⟩, turn⟩ := h2
 subst e
 have stat : ∀ {H' : Hp}, (∀ b ∈ fp, H' b = none) → ∀ b ∈ fp, AK0 X pins H' b := fun hn b hb => ⟨hn b hb, (f2 b hb).2⟩
 refine codeAny_forLoop_any (fun n s' => ∃ i σ' H', Inv X pins σ' H' s' ∧ tn i s'.heap ∧ (∀ b ∈ fp, H' b = none) ∧ W i n σ' H') ?_ m0 ⟨0, σ, H2, I2, st2, fun b hb => (f2 b hb).1, w0⟩
 rintro n s3 ⟨i, σ3, H3, I3, st3, fr3, w3⟩
 rcases turn i n σ3 H3 w3 with ⟨stop, qn⟩ | ⟨go, N, hN, step⟩
 ·refine wpAny_passesOwn hp (thn (T.done X rfl rfl rfl hc i pins s3 σ3 H3 X.xe I3 (stat fr3) st3 stop) fun r s4 ⟨hr, I4⟩ => ?_)
  subst hr
  exact wpAny_execs_nil ⟨σ3, H3, I4, qn⟩
 ·refine wpAny_passesOwn hp (thn (T.item X rfl rfl rfl hc i pins s3 σ3 H3 X.xe I3 (stat fr3) st3 go) fun r s4 ⟨u, hr, h4⟩ => ?_)
  subst hr
  refine wpAny_passesOwn hp (thn h4 fun _ s5 ⟨x, H5, I5, r5, y5, st5, fr5⟩ => ?_)
  have I5' := I5.pinned (stat fr5) (T.obj _ _ st5)
  refine wpAny_passesOwn hp (thn (hg _ s5 σ3 H5 x u _ I5' r5 (step x H5 y5)) fun _ s6 ⟨σ6, H6, I6, q6⟩ => ?_)
  refine wpAny_passesOwn hp (thn (hb _ s6 σ6 H6 _ I6 q6) fun f s7 q7 => ?_)
  have again : ∀ {σ7 : St} {H7 : Hp}, Inv X (pins ++ U3 fp s5.heap) σ7 H7 s7 → N σ7 H7 → ∃ m, m < n ∧ ∃ i σ' H', Inv X pins σ' H' s7 ∧ tn i s7.heap ∧ (∀ b ∈ fp, H' b = none) ∧ W i m σ' H' := fun {σ7 H7} I7 n7 => by
   obtain ⟨m', hm, w7⟩ := hN σ7 H7 n7
   refine ⟨m', hm, i + 1, σ7, H7, I7.unpinned, T.keep _ _ _ st5 fun b hb o e => (I7.pin (b, o) (List.mem_append_right _ (List.mem_append_right _ (C9 hb e)))).1, fun b hb => ?_, w7⟩
   obtain ⟨o, e, d⟩ := T.obj _ _ st5 b hb
   exact (I7.pin (b, o) (List.mem_append_right _ (List.mem_append_right _ (C9 hb e)))).2.1
  cases f with
  | next => obtain ⟨σ7, H7, I7, n7⟩ := q7; exact again I7 n7
  | cont => obtain ⟨σ7, H7, I7, n7⟩ := q7; exact again I7 n7
  | brk => obtain ⟨σ7, H7, I7, q7⟩ := q7; exact ⟨σ7, H7, I7.unpinned, q7⟩
  | ret v => obtain ⟨x7, σ7, H7, I7, r7, q7⟩ := q7; exact ⟨x7, σ7, H7, I7.unpinned, r7, q7⟩
end
abbrev R2 := V → V → Hp → VK → Prop
def OpR (X : Cx) (f : Value → Value → Sem Value) (r : R2) : Prop :=
 ∀ (pins : List (Addr × Obj)) (s : Shared) (σ : St) (H : Hp) (x y : V) (v u : Value) (Q : VK), Inv X pins σ H s → RelV x v → RelV y u → r x y H Q →
  wpAny (model X.prog X.w) X.A (f v u) (EP X pins σ Q) X.xe s
def UnR (X : Cx) (f : Value → Sem Value) (r : V → Hp → VK → Prop) : Prop :=
 ∀ (pins : List (Addr × Obj)) (s : Shared) (σ : St) (H : Hp) (x : V) (v : Value) (Q : VK), Inv X pins σ H s → RelV x v → r x H Q →
  wpAny (model X.prog X.w) X.A (f v) (EP X pins σ Q) X.xe s
def AFX (X : Cx) (f : Value) (r : List V → Hp → VK → Prop) : Prop :=
 ∀ (pins : List (Addr × Obj)) (s : Shared) (σ : St) (H : Hp) (xs : List V) (us : List Value) (Q : VK), Inv X pins σ H s → Vals xs us → r xs H Q →
  wpAny (model X.prog X.w) X.A (call f us) (EP X pins σ Q) X.xe s
def AbV (X : Cx) (r : V → Hp → (Bool → Hp → Prop) → Prop) : Prop :=
 ∀ (pins : List (Addr × Obj)) (s : Shared) (σ : St) (H : Hp) (x : V) (v : Value) (Q : Bool → Hp → Prop), Inv X pins σ H s → RelV x v → r x H Q →
  wpAny (model X.prog X.w) X.A (truthy v) (TP X pins σ Q) X.xe s
def tOp (r : R2) (ta tb : TE) : TE := fun σ H Q => ta σ H fun x H1 => tb σ H1 fun y H2 => r x y H2 Q
def tUn (r : V → Hp → VK → Prop) (ta : TE) : TE := fun σ H Q => ta σ H fun x H1 => r x H1 Q
def rI (C : Int → Int → Prop) (g : Int → Int → V) : R2 := fun x y H Q => ∃ i j, x = .int i ∧ y = .int j ∧ C i j ∧ Q (g i j) H
def rI0 (g : Int → Int → V) : R2 := fun x y H Q => ∃ i j, x = .int i ∧ y = .int j ∧ Q (g i j) H
def rU (g : Int → V) : V → Hp → VK → Prop := fun x H Q => ∃ i, x = .int i ∧ Q (g i) H
section
variable {X : Cx} {a b c : Expr} {ta tb tc : TE} {pos : Pos}
theorem AZV (ha : PE X a ta) (hb : PE X b tb) {pins : List (Addr × Obj)} {s : Shared} {σ : St} {H : Hp} {R : V → V → Hp → Prop} (I : Inv X pins σ H s)
  (h : ta σ H fun x H1 => tb σ H1 fun y H2 => R x y H2) {Q : Value → Shared → Prop} {f : Value → Value → Sem Value}
  (hf : ∀ v u s2 x y H2, Inv X pins σ H2 s2 → RelV x v → RelV y u → R x y H2 → wpAny (model X.prog X.w) X.A (f v u) Q X.xe s2) :
  wpAny (model X.prog X.w) X.A (eval a X.env) (fun v s₁ => wpAny (model X.prog X.w) X.A (eval b X.env) (fun u s₂ => wpAny (model X.prog X.w) X.A (f v u) Q X.xe s₂) X.xe s₁) X.xe s := by
 refine thn (ha pins s σ H _ I h) fun v s1 ⟨x, H1, I1, r1, q1⟩ => ?_
 refine thn (hb pins s1 σ H1 _ I1 q1) fun u s2 ⟨y, H2, I2, r2, q2⟩ => ?_
 exact hf v u s2 x y H2 I2 r1 r2 q2
theorem AaK {op : Operator} {r : R2} (ho : OpR X (binaryOp op) r) (ha : PE X a ta) (hb : PE X b tb) : PE X (.BinOp a op b pos) (tOp r ta tb) := by
 intro pins s σ H Q I h
 exact wpAny_BinOp (AZV ha hb I h fun v u s2 x y H2 I2 rx ry q => ho pins s2 σ H2 x y v u Q I2 rx ry q)
theorem AaJ {op : UnaryOp} {r : V → Hp → VK → Prop} (ho : UnR X (unaryOp op) r) (ha : PE X a ta) : PE X (.UnaryOp op a pos) (tUn r ta) := by
 intro pins s σ H Q I h
 exact UnaryOp_ (thn (ha pins s σ H _ I h) fun v s1 ⟨x, H1, I1, r1, q1⟩ => ho pins s1 σ H1 x v Q I1 r1 q1)
theorem opI {f : Value → Value → Sem Value} {C : Int → Int → Prop} {g : Int → Int → Int}
  (rule : ∀ (i j : Int) (t u : Tok) (s : Shared) (Q : Value → Shared → Prop) (E : Value → Shared → Prop), C i j → Q (.int (g i j) s.toks) { s with toks := s.toks + 1 } → wpAny (model X.prog X.w) X.A (f (.int i t) (.int j u)) Q E s) :
  OpR X f (rI C fun i j => .int (g i j)) := by
 intro pins s σ H x y v u Q I rx ry h
 obtain ⟨i, j, rfl, rfl, hc, q⟩ := h
 obtain ⟨t, rfl⟩ := rx
 obtain ⟨t', rfl⟩ := ry
 exact rule i j t t' s _ _ hc ⟨.int (g i j), H, I.tok _, ⟨_, rfl⟩, q⟩
theorem Ab2 {f : Value → Value → Sem Value} {g : Int → Int → Int}
  (rule : ∀ (i j : Int) (t u : Tok) (s : Shared) (Q : Value → Shared → Prop) (E : Value → Shared → Prop), Q (.int (g i j) s.toks) { s with toks := s.toks + 1 } → wpAny (model X.prog X.w) X.A (f (.int i t) (.int j u)) Q E s) :
  OpR X f (rI0 fun i j => .int (g i j)) := by
 intro pins s σ H x y v u Q I rx ry h
 obtain ⟨i, j, rfl, rfl, q⟩ := h
 obtain ⟨t, rfl⟩ := rx
 obtain ⟨t', rfl⟩ := ry
 exact rule i j t t' s _ _ ⟨.int (g i j), H, I.tok _, ⟨_, rfl⟩, q⟩
theorem AZ9 {f : Value → Value → Sem Value} {g : Int → Int → Bool}
  (rule : ∀ (i j : Int) (t u : Tok) (s : Shared) (Q : Value → Shared → Prop) (E : Value → Shared → Prop), Q (.bool (g i j)) s → wpAny (model X.prog X.w) X.A (f (.int i t) (.int j u)) Q E s) :
  OpR X f (rI0 fun i j => .bl (g i j)) := by
 intro pins s σ H x y v u Q I rx ry h
 obtain ⟨i, j, rfl, rfl, q⟩ := h
 obtain ⟨t, rfl⟩ := rx
 obtain ⟨t', rfl⟩ := ry
 exact rule i j t t' s _ _ ⟨.bl (g i j), H, I, rfl, q⟩
def AbP (i j : Int) : Prop := 0 ≤ j ∧ j ≤ 1000000 ∧ i.natAbs < 2 ^ 64
def CMul (i j : Int) : Prop := (-(2 ^ 64) < i ∧ i < 2 ^ 64) ∨ (-(2 ^ 64) < j ∧ j < 2 ^ 64)
theorem CMul.ok {i j : Int} (h : CMul i j) : IntMulOk i j := by
 rcases h with ⟨h1, h2⟩ | ⟨h1, h2⟩
 ·exact .of_left (intBits_le_64 h1 h2)
 ·exact .of_right (intBits_le_64 h1 h2)
theorem op_add : OpR X (binaryOp .Add) (rI0 fun i j => .int (i + j)) := Ab2 fun _ _ _ _ _ _ _ q => add_int q
theorem v1 : OpR X (binaryOp .Sub) (rI0 fun i j => .int (i - j)) := Ab2 fun _ _ _ _ _ _ _ q => sub_int q
theorem X9 : OpR X (binaryOp .Mod) (rI (fun _ j => j ≠ 0) fun i j => .int (i.fmod j)) := opI fun _ _ _ _ _ _ _ hc q => mod_int' hc q
theorem ACR : OpR X (binaryOp .Pow) (rI AbP fun i j => .int (i ^ j.toNat)) := opI fun _ _ _ _ _ _ _ hc q => pow_int_small hc.1 hc.2.1 hc.2.2 q
theorem unI {f : Value → Sem Value} {g : Int → Int}
  (rule : ∀ (i : Int) (t : Tok) (s : Shared) (Q : Value → Shared → Prop) (E : Value → Shared → Prop), Q (.int (g i) s.toks) { s with toks := s.toks + 1 } → wpAny (model X.prog X.w) X.A (f (.int i t)) Q E s) :
  UnR X f (rU fun i => .int (g i)) := by
 intro pins s σ H x v Q I rx h
 obtain ⟨i, rfl, q⟩ := h
 obtain ⟨t, rfl⟩ := rx
 exact rule i t s _ _ ⟨.int (g i), H, I.tok _, ⟨_, rfl⟩, q⟩
theorem AD4 : UnR X (unaryOp .USub) (rU fun i => .int (-i)) := unI fun _ _ _ _ _ q => neg_int q
end
def Ab7 : V → V → Bool
 | .non, .non => true | .non, .int _ => true | .int _, .non => true | .non, .bl _ => true | .bl _, .non => true | .non, .str _ => true | .str _, .non => true
 | .int _, .int _ => true | .bl _, .bl _ => true | .str _, .str _ => true | .byt _, .byt _ => true
 | .int _, .str _ => true | .str _, .int _ => true | .bl _, .str _ => true | .str _, .bl _ => true
 | _, _ => false
def rEq : R2 := fun x y H Q => Ab7 x y = true ∧ Q (.bl (decide (x = y))) H
def rNe : R2 := fun x y H Q => Ab7 x y = true ∧ Q (.bl (!decide (x = y))) H
theorem ANR {i j : Int} : decide (V.int i = V.int j) = (i == j) := by
 rw [Bool.eq_iff_iff]
 simp
theorem ASX {i j : Bool} : decide (V.bl i = V.bl j) = (i == j) := by
 rw [Bool.eq_iff_iff]
 simp
theorem AGZ {i j : Str} : decide (V.str i = V.str j) = (i == j) := by
 rw [Bool.eq_iff_iff]
 simp
theorem APN {i j : Array UInt8} : decide (V.byt i = V.byt j) = (i.toList == j.toList) := by
 rw [Bool.eq_iff_iff]
 cases i
 cases j
 simp
section
variable {X : Cx} {a b c : Expr} {ta tb tc : TE} {pos : Pos}
theorem K6 {pins : List (Addr × Obj)} {σ : St} {H : Hp} {s : Shared} {Q : VK} {k k' : Bool} (I : Inv X pins σ H s) (q : Q (.bl k) H) (e : k = k') : EP X pins σ Q (.bool k') s := by
 subst e
 exact ⟨.bl k, H, I, rfl, q⟩
theorem Aa5 : OpR X (compareOp .Eq) rEq := by
 intro pins s σ H x y v u Q I rx ry h
 obtain ⟨hs, q⟩ := h
 cases x with
 | non =>
  cases rx
  cases y with
  | non => cases ry; exact PySem.EqNone.eq_none_none (K6 I q (by simp))
  | bl j => cases ry; exact PySem.EqNone.eq_none_bool (K6 I q (by simp))
  | int j => obtain ⟨t', rfl⟩ := ry; exact PySem.EqNone.eq_none_int (K6 I q (by simp))
  | str j => obtain ⟨t', rfl⟩ := ry; exact PySem.EqNone.eq_none_str (K6 I q (by simp))
  | _ => exact absurd (show false = true from hs) Bool.false_ne_true
 | bl i =>
  cases rx
  cases y with
  | non => cases ry; exact PySem.EqNone.eq_bool_none (K6 I q (by simp))
  | bl j => cases ry; exact eq_bool (K6 I q ASX)
  | str j => obtain ⟨t', rfl⟩ := ry; exact PySem.EqMixed.eq_bool_str (K6 I q (by simp))
  | _ => exact absurd (show false = true from hs) Bool.false_ne_true
 | int i =>
  obtain ⟨t, rfl⟩ := rx
  cases y with
  | non => cases ry; exact PySem.EqNone.eq_int_none (K6 I q (by simp))
  | int j => obtain ⟨t', rfl⟩ := ry; exact eq_int (K6 I q ANR)
  | str j => obtain ⟨t', rfl⟩ := ry; exact PySem.EqMixed.eq_int_str (K6 I q (by simp))
  | _ => exact absurd (show false = true from hs) Bool.false_ne_true
 | str i =>
  obtain ⟨t, rfl⟩ := rx
  cases y with
  | non => cases ry; exact PySem.EqNone.eq_str_none (K6 I q (by simp))
  | bl j => cases ry; exact PySem.EqMixed.eq_str_bool (K6 I q (by simp))
  | int j => obtain ⟨t', rfl⟩ := ry; exact PySem.EqMixed.eq_str_int (K6 I q (by simp))
  | str j => obtain ⟨t', rfl⟩ := ry; exact eq_str (K6 I q AGZ)
  | _ => exact absurd (show false = true from hs) Bool.false_ne_true
 | byt i =>
  obtain ⟨t, rfl⟩ := rx
  cases y with
  | byt j => obtain ⟨t', rfl⟩ := ry; exact PySem.W.eq_bytes (K6 I q APN)
  | _ => exact absurd (show false = true from hs) Bool.false_ne_true
 | _ => cases y <;> exact absurd (show false = true from hs) Bool.false_ne_true
theorem Aa1 : OpR X (compareOp .NotEq) rNe := by
 intro pins s σ H x y v u Q I rx ry h
 obtain ⟨hs, q⟩ := h
 cases x with
 | non =>
  cases rx
  cases y with
  | non => cases ry; exact PySem.EqNone.ne_none_none (K6 I q (by simp))
  | bl j => cases ry; exact PySem.EqNone.ne_none_bool (K6 I q (by simp))
  | int j => obtain ⟨t', rfl⟩ := ry; exact PySem.EqNone.ne_none_int (K6 I q (by simp))
  | str j => obtain ⟨t', rfl⟩ := ry; exact PySem.EqNone.ne_none_str (K6 I q (by simp))
  | _ => exact absurd (show false = true from hs) Bool.false_ne_true
 | bl i =>
  cases rx
  cases y with
  | non => cases ry; exact PySem.EqNone.ne_bool_none (K6 I q (by simp))
  | bl j => cases ry; exact ne_bool (K6 I q (congrArg not ASX))
  | str j => obtain ⟨t', rfl⟩ := ry; exact PySem.EqMixed.ne_bool_str (K6 I q (by simp))
  | _ => exact absurd (show false = true from hs) Bool.false_ne_true
 | int i =>
  obtain ⟨t, rfl⟩ := rx
  cases y with
  | non => cases ry; exact PySem.EqNone.ne_int_none (K6 I q (by simp))
  | int j => obtain ⟨t', rfl⟩ := ry; exact ne_int (K6 I q (congrArg not ANR))
  | str j => obtain ⟨t', rfl⟩ := ry; exact PySem.EqMixed.ne_int_str (K6 I q (by simp))
  | _ => exact absurd (show false = true from hs) Bool.false_ne_true
 | str i =>
  obtain ⟨t, rfl⟩ := rx
  cases y with
  | non => cases ry; exact PySem.EqNone.ne_str_none (K6 I q (by simp))
  | bl j => cases ry; exact PySem.EqMixed.ne_str_bool (K6 I q (by simp))
  | int j => obtain ⟨t', rfl⟩ := ry; exact PySem.EqMixed.ne_str_int (K6 I q (by simp))
  | str j => obtain ⟨t', rfl⟩ := ry; exact ne_str (K6 I q (congrArg not AGZ))
  | _ => exact absurd (show false = true from hs) Bool.false_ne_true
 | byt i =>
  obtain ⟨t, rfl⟩ := rx
  cases y with
  | byt j => obtain ⟨t', rfl⟩ := ry; exact PySem.W.ne_bytes (K6 I q (congrArg not APN))
  | _ => exact absurd (show false = true from hs) Bool.false_ne_true
 | _ => cases y <;> exact absurd (show false = true from hs) Bool.false_ne_true
theorem AGY : OpR X (compareOp .Lt) (rI0 fun i j => .bl (decide (i < j))) := AZ9 fun _ _ _ _ _ _ _ q => lt_int q
theorem ANF : OpR X (compareOp .LtE) (rI0 fun i j => .bl (decide (i ≤ j))) := AZ9 fun _ _ _ _ _ _ _ q => le_int q
theorem AMA : OpR X (compareOp .Gt) (rI0 fun i j => .bl (decide (j < i))) := AZ9 fun _ _ _ _ _ _ _ q => gt_int q
theorem AUO : OpR X (compareOp .GtE) (rI0 fun i j => .bl (decide (j ≤ i))) := AZ9 fun _ _ _ _ _ _ _ q => ge_int q
theorem OpR.or {f : Value → Value → Sem Value} {r r' : R2} (h : OpR X f r) (h' : OpR X f r') : OpR X f (fun x y H Q => r x y H Q ∨ r' x y H Q) := by
 intro pins s σ H x y v u Q I rx ry q
 rcases q with q | q
 ·exact h pins s σ H x y v u Q I rx ry q
 ·exact h' pins s σ H x y v u Q I rx ry q
theorem D7 (b : Expr) {op : CmpOp} (h : op ≠ .In := by decide) (h2 : op ≠ .NotIn := by decide) : behindInMarks op b = false := by
 have e1 : (op == CmpOp.In) = false := by cases op <;> first | rfl | exact absurd rfl h
 have e2 : (op == CmpOp.NotIn) = false := by cases op <;> first | rfl | exact absurd rfl h2
 cases b <;> simp [behindInMarks, e1, e2]
theorem AV2 {op : CmpOp} {r : R2} (ho : OpR X (compareOp op) r) (ha : PE X a ta) (hb : PE X b tb) (hm : behindInMarks op b = false) : PE X (.Compare a [op] [b] pos) (tOp r ta tb) := by
 intro pins s σ H Q I h
 exact wpAny_Compare1 (AZV ha hb I h fun v u s2 x y H2 I2 rx ry q => ho pins s2 σ H2 x y v u Q I2 rx ry q) hm
def AWF (t : TE) : TT := fun σ H Q => t σ H fun x H' => ∃ k, x = .bl k ∧ Q k H'
theorem AV9 {op : CmpOp} {r : R2} (ho : OpR X (compareOp op) r) (ha : PE X a ta) (hb : PE X b tb) (hm : behindInMarks op b = false) : PT X (.Compare a [op] [b] pos) (AWF (tOp r ta tb)) := by
 intro pins s σ H Q I h
 refine wpAny_isTrue_Compare1 (thn (ha pins s σ H _ I h) fun v s1 ⟨x, H1, I1, r1, q1⟩ => thn (hb pins s1 σ H1 _ I1 q1) fun u s2 ⟨y, H2, I2, r2, q2⟩ =>
  thn (ho pins s2 σ H2 x y v u _ I2 r1 r2 q2) fun c s3 ⟨z, H3, I3, r3, k, e, q3⟩ => ?_) hm
 subst e
 cases r3
 exact wpAny_truthy_bool ⟨H3, I3, q3⟩
def AST (r r' : R2) (ta tb tc : TE) : TE := fun σ H Q => ta σ H fun x H1 => tb σ H1 fun y H2 => r x y H2 fun z H3 => ∃ k, z = .bl k ∧
 (if k = true then tc σ H3 fun w' H4 => r' y w' H4 Q else Q (.bl false) H3)
theorem AQX {op op' : CmpOp} {r r' : R2} (ho : OpR X (compareOp op) r) (ho' : OpR X (compareOp op') r') (ha : PE X a ta) (hb : PE X b tb) (hc : PE X c tc)
  (hm : lastMarks [op, op'] [b, c] = false := by with_unfolding_all rfl) : PT X (.Compare a [op, op'] [b, c] pos) (AWF (AST r r' ta tb tc)) := by
 intro pins s σ H Q I h
 refine isTrue_chain (thn (ha pins s σ H _ I h) fun v s1 ⟨x, H1, I1, r1, q1⟩ => test_link (thn (hb pins s1 σ H1 _ I1 q1) fun u s2 ⟨y, H2, I2, r2, q2⟩ =>
  thn (ho pins s2 σ H2 x y v u _ I2 r1 r2 q2) fun d s3 ⟨z, H3, I3, r3, k, e, q3⟩ => ?_)) hm
 subst e
 cases r3
 refine wpAny_truthy_bool ?_
 cases k with
 | false =>
  obtain ⟨k', e', q'⟩ := q3
  cases e'
  exact ite_ff ⟨H3, I3, q'⟩
 | true =>
  refine ite_tt (test_last (thn (hc pins s3 σ H3 _ I3 q3) fun w' s4 ⟨z', H4, I4, r4, q4⟩ => thn (ho' pins s4 σ H4 y z' u w' _ I4 r2 r4 q4) fun d' s5 ⟨z2, H5, I5, r5, k2, e2, q5⟩ => ?_))
  subst e2
  cases r5
  exact wpAny_truthy_bool ⟨H5, I5, q5⟩
def AaG (K : PySem.W.Frag) (x : V) (H : Hp) (k : Bool) : Prop :=
 match x with
 | .non => k = false
 | .bl b => k = b
 | .int i => k = (i != 0)
 | .str y => y.length ≤ sizeLine ∧ k = ((y.length : Int) != 0)
 | .byt y => y.size ≤ sizeLine ∧ k = ((y.size : Int) != 0)
 | .ref p => (∃ xs, SqL K H p xs ∧ k = !xs.isEmpty) ∨ (∃ xs, SqT K H p xs ∧ k = !xs.isEmpty) ∨ ∃ kvs, H p = some (.dK kvs) ∧ k = !kvs.isEmpty
 | _ => False
theorem AN5 {κ : Type} {kvs : List (κ × V)} {vs : List (κ × Value)} (r : KV kvs vs) : (!vs.isEmpty) = !kvs.isEmpty := by
 cases r <;> rfl
theorem AGG {xs : List V} {its : List Value} (r : Vals xs its) : (!its.toArray.isEmpty) = !xs.isEmpty := by
 cases r <;> simp
theorem AJR : (sizeLine : Nat) < 2 ^ 63 := by rw [sizeLine_eq]; decide
theorem AY2 : AbV X (fun x H Q => ∃ k, AaG X.K x H k ∧ Q k H) := by
 intro pins s σ H x v Q I rx h
 obtain ⟨k, e, q⟩ := h
 have hl := AJR
 have hs : sizeLine = 16777216 := sizeLine_eq
 cases x with
 | non =>
  cases rx
  have e' : k = false := e
  subst e'
  exact truthy_none ⟨H, I, q⟩
 | bl b =>
  cases rx
  have e' : k = b := e
  subst e'
  exact wpAny_truthy_bool ⟨H, I, q⟩
 | int i =>
  obtain ⟨t, rfl⟩ := rx
  have e' : k = (i != 0) := e
  subst e'
  exact PySem.P.truthy_int ⟨H, I, q⟩
 | str y =>
  obtain ⟨t, rfl⟩ := rx
  obtain ⟨hy, e'⟩ : y.length ≤ sizeLine ∧ k = ((y.length : Int) != 0) := e
  subst e'
  exact PySem.P.truthy_str (by omega) ⟨H, I.tok _, q⟩
 | byt y =>
  obtain ⟨t, rfl⟩ := rx
  obtain ⟨hy, e'⟩ : y.size ≤ sizeLine ∧ k = ((y.size : Int) != 0) := e
  subst e'
  exact PySem.W.truthy_bytes (by omega) ⟨H, I.tok _, q⟩
 | ref p =>
  cases rx
  have e' : (∃ xs, SqL X.K H p xs ∧ k = !xs.isEmpty) ∨ (∃ xs, SqT X.K H p xs ∧ k = !xs.isEmpty) ∨ ∃ kvs, H p = some (.dK kvs) ∧ k = !kvs.isEmpty := e
  rcases e' with ⟨xs, hx, e'⟩ | ⟨xs, hx, e'⟩ | ⟨kvs, hx, e'⟩
  ·subst e'
   obtain ⟨its, r, pl, hz⟩ := I.list hx
   have hlen := r.length
   exact wpAny_truthy_list pl.isList (by simp only [List.size_toArray]; omega) ⟨H, I.tok _, by rw [AGG r]; exact q⟩
  ·subst e'
   obtain ⟨its, r, pl, hz⟩ := I.tuple hx
   have hlen := r.length
   exact truthy_tuple pl (by simp only [List.size_toArray]; omega) ⟨H, I.tok _, by rw [AGG r]; exact q⟩
  ·subst e'
   obtain ⟨hz, hS, vs, r, m⟩ : kvs.length ≤ sizeLine ∧ (p == sysModules) = false ∧ ∃ vs, KV kvs vs ∧ s.heap.DictOf (AL4 X.prog X.w) p vs := I.hok p _ hx
   have hlen : kvs.length = vs.length := Paired.length r
   exact wpAny_truthy_dict hS m (by omega) ⟨H, I.tok _, by rw [AN5 r]; exact q⟩
 | _ => exact (show False from e).elim
theorem ARU (ha : PE X a ta) (he : ∀ whole, isTrue a X.env whole = (do let v ← whole; standAt a.pos; holding [v] (truthy v))) :
  PT X a (fun σ H Q => ta σ H fun x H' => ∃ k, AaG X.K x H' k ∧ Q k H') := by
 intro pins s σ H Q I h
 exact isTrue_plain (thn (ha pins s σ H _ I h) fun v s1 ⟨x, H1, I1, r1, q1⟩ => AY2 pins s1 σ H1 x v Q I1 r1 q1) (he _)
theorem op_add_str : OpR X (binaryOp .Add) (fun x y H Q => ∃ i j, x = .str i ∧ y = .str j ∧ i.length + j.length ≤ sizeLine ∧ Q (.str (i ++ j)) H) := by
 intro pins s σ H x y v u Q I rx ry h
 obtain ⟨i, j, rfl, rfl, hz, q⟩ := h
 obtain ⟨t, rfl⟩ := rx
 obtain ⟨t', rfl⟩ := ry
 exact add_str (fun t' tk => ⟨.str (i ++ j), H, I.tok _, ⟨_, rfl⟩, q⟩) hz
theorem AR7 {x : V} {us : List Value} (r : Vals [x] us) : ∃ u, us = [u] ∧ RelV x u := by
 cases r with
 | cons r1 r2 => cases r2; exact ⟨_, rfl, r1⟩
theorem AZC {x y : V} {us : List Value} (r : Vals [x, y] us) : ∃ u w', us = [u, w'] ∧ RelV x u ∧ RelV y w' := by
 cases r with
 | cons r1 r2 =>
  cases r2 with
  | cons r3 r4 => cases r4; exact ⟨_, _, rfl, r1, r3⟩
theorem ARX : AFX X (.builtin "abs") (fun xs H Q => ∃ i, xs = [.int i] ∧ Q (.int (if i < 0 then -i else i)) H) := by
 intro pins s σ H xs us Q I r h
 obtain ⟨i, rfl, q⟩ := h
 obtain ⟨u, rfl, t, rfl⟩ := AR7 r
 exact call_abs_int fun u tk => ⟨.int (if i < 0 then -i else i), H, I.tok _, ⟨_, rfl⟩, q⟩
def Ab4 (K : PySem.W.Frag) (x : V) (H : Hp) (n : Nat) : Prop :=
 match x with
 | .str y => y.length ≤ sizeLine ∧ n = y.length
 | .byt y => y.size ≤ sizeLine ∧ n = y.size
 | .ref p => (∃ xs, SqL K H p xs ∧ n = xs.length) ∨ ∃ xs, SqT K H p xs ∧ n = xs.length
 | _ => False
theorem AS8 : AFX X (.builtin "len") (fun xs H Q => ∃ x n, xs = [x] ∧ Ab4 X.K x H n ∧ Q (.int n) H) := by
 intro pins s σ H xs us Q I r h
 obtain ⟨x, n, rfl, e, q⟩ := h
 obtain ⟨u, rfl, rx⟩ := AR7 r
 have hl := AJR
 have hs : sizeLine = 16777216 := sizeLine_eq
 cases x with
 | str y =>
  obtain ⟨t, rfl⟩ := rx
  obtain ⟨hy, e'⟩ : y.length ≤ sizeLine ∧ n = y.length := e
  subst e'
  exact len_str (by omega) ⟨.int _, H, I.tok _, ⟨_, rfl⟩, q⟩
 | byt y =>
  obtain ⟨t, rfl⟩ := rx
  obtain ⟨hy, e'⟩ : y.size ≤ sizeLine ∧ n = y.size := e
  subst e'
  exact PySem.W.len_bytes (by omega) ⟨.int _, H, I.tok _, ⟨_, rfl⟩, q⟩
 | ref p =>
  cases rx
  have e' : (∃ xs, SqL X.K H p xs ∧ n = xs.length) ∨ ∃ xs, SqT X.K H p xs ∧ n = xs.length := e
  rcases e' with ⟨xs, hx, e'⟩ | ⟨xs, hx, e'⟩
  ·subst e'
   obtain ⟨its, r', pl, hz⟩ := I.list hx
   have hlen := r'.length
   exact Calls.call_len_list pl.isList (by simp only [List.size_toArray]; omega) ⟨.int xs.length, H, I.tok _, ⟨_, by simp only [List.size_toArray]; rw [hlen]⟩, q⟩
  ·subst e'
   obtain ⟨its, r', pl, hz⟩ := I.tuple hx
   have hlen := r'.length
   exact len_tuple pl (by simp only [List.size_toArray]; omega) ⟨.int xs.length, H, I.tok _, ⟨_, by simp only [List.size_toArray]; rw [hlen]⟩, q⟩
 | _ => exact (show False from e).elim
end
structure Room (k : Nat) (A : Around) : Prop where
 hd : A.handled = none
 dp : A.depth + 3 * k + 5 < recursionLimit
 un : A.units + 16 * k + 200 < cLine
theorem Room.mono {j k : Nat} {A : Around} (r : Room k A) (h : j ≤ k) : Room j A := ⟨r.hd, by have := r.dp; omega, by have := r.un; omega⟩
theorem Room.deeper {k : Nat} {A : Around} (r : Room (k + 1) A) (env : Env) : Room k (A.deeper env) :=
 ⟨r.hd, by have := r.dp; show A.depth + 1 + 3 * k + 5 < _; omega, by have := r.un; show A.units + 3 + 16 * k + 200 < _; omega⟩
theorem Room.depth {k : Nat} {A : Around} (r : Room k A) : A.depth < recursionLimit := by have := r.dp; omega
theorem Room.units {k : Nat} {A : Around} (r : Room k A) : A.units + 64 < cLine := by have := r.un; omega
def Ab3 : TA := fun _ H Q => Q [] H
def AU6 (ta : TE) (tr : TA) : TA := fun σ H Q => ta σ H fun x H1 => tr σ H1 fun xs H2 => Q (x :: xs) H2
section
variable {X : Cx} {e : Expr} {es : List Expr} {te : TE} {t : TA} {pos : Pos}
theorem AM1 : PA X [] Ab3 := fun _ _ _ _ H Q I h => Calls.spliced_nil ⟨[], H, I, .nil, h⟩
theorem AHB (ha : PE X e te) (hr : PA X es t) (hs : starEach (e :: es) X.env = (false, eval e X.env) :: starEach es X.env := by rfl) : PA X (e :: es) (AU6 te t) := by
 intro pos pins s σ H Q I h
 rw [hs]
 show wpAny _ _ (spliced ((false, eval e X.env) :: backTo pos (starEach es X.env))) _ _ s
 refine Calls.spliced_cons (thn (ha pins s σ H _ I h) fun u s1 ⟨x, H1, I1, r1, q1⟩ => ?_)
 exact thn (hr pos pins s1 σ H1 _ I1 q1) fun us s2 ⟨xs, H2, I2, r2, q2⟩ => ⟨x :: xs, H2, I2, .cons r1 r2, q2⟩
def AcP (t : TA) : TE := fun σ H Q => t σ H fun xs H1 => xs.length ≤ sizeLine ∧ ∀ p, H1 p = none → Q (.ref p) (upd H1 p (.tup xs))
def Ac5 (t : TA) : TE := fun σ H Q => t σ H fun xs H1 => xs.length ≤ sizeLine ∧ ∀ p, H1 p = none → Q (.ref p) (upd H1 p (.lst xs))
theorem AXC {x1} (h : PA X es t) : PE X (.Tuple es x1 pos) (AcP t) := by
 intro pins s σ H Q I hq
 refine wpAny_Tuple_spliced (thn (h pos pins s σ H _ I hq) fun us s1 ⟨xs, H1, I1, r, z, q⟩ => ⟨by rw [← r.length]; exact z, ?_⟩)
 have hf : H1 s1.heap.objs.size = none := I1.hok.fresh (Nat.le_refl _)
 refine ⟨.ref s1.heap.objs.size, upd H1 s1.heap.objs.size (.tup xs), I1.laid (t' := s1.toks) (fun b u e => Heap.get?_push_of_some _ e) (Nat.le_refl _) ?_, rfl, q _ hf⟩
 exact ⟨z, us, r, ⟨_, Heap.get?_push_size _ rfl, rfl, _, rfl⟩⟩
theorem ASW (h : PA X es t) : PE X (.List es pos) (Ac5 t) := by
 intro pins s σ H Q I hq
 refine wpAny_List_spliced (thn (h pos pins s σ H _ I hq) fun us s1 ⟨xs, H1, I1, r, z, q⟩ => ⟨by rw [← r.length]; exact z, ?_⟩)
 have hf : H1 s1.heap.objs.size = none := I1.hok.fresh (Nat.le_refl _)
 refine ⟨.ref s1.heap.objs.size, upd H1 s1.heap.objs.size (.lst xs), I1.laid (t' := s1.toks) (fun b u e => Heap.get?_push_of_some _ e) (Nat.le_refl _) ?_, rfl, q _ hf⟩
 exact ⟨z, us, 0, r, Heap.get?_push_size _ rfl⟩
end
abbrev Sp := List V → Hp → VK → XK → Prop
abbrev CXT := List Env → Hp → Shared → XK → Value → Shared → Prop
structure Env0 (P : Program) (w : World) (K : PySem.W.Frag) (mg : Str → Option Value) (base : Heap) (A : Around) (outer : List Env) (s : Shared) (H : Hp) : Prop where
 frames : A.frames = some outer
 mod : Mod K mg base
 bs : ∀ b o, base.get? b = some o → s.heap.get? b = some o ∧ H b = none
 bsz : base.objs.size ≤ s.heap.objs.size
 funs : s.heap.FunFrames base outer
 frf : ∀ b ∈ frs outer, H b = none
 hok : HOk P w H s.heap
 bare : AllBare s.gens
def CE (outer : List Env) (P : Program) (w : World) (H : Hp) (s : Shared) (Q : VK) (u : Value) (s' : Shared) : Prop :=
 ∃ v H', s'.os = s.os ∧ AllBare s'.gens ∧ Un (frs outer) [] H H' s.heap s'.heap ∧ HOk P w H' s'.heap ∧ RelV v u ∧ Q v H'
def CR (CX : CXT) (outer : List Env) (P : Program) (w : World) (H : Hp) (s : Shared) (Q : VK) (E : XK) (r : Result) (s' : Shared) : Prop :=
 match r with
 | .ok (.ret u) => CE outer P w H s Q u s'
 | .ok _ => False
 | .error e => CX outer H s E e s'
structure FnOk (P : Program) (w : World) (K : PySem.W.Frag) (mg : Str → Option Value) (base : Heap) (CX : CXT) (k : Nat) (f : Addr) (fd : FuncData) (ps : List Str) (sp : Sp) : Prop where
 len : ∀ vs H Q E, sp vs H Q E → vs.length = ps.length
 run : ∀ (A : Around) (outer : List Env) (s : Shared) (H : Hp) (args : Args) (us : List Value) (vs : List V) (Q : VK) (E : XK), Room k A → Env0 P w K mg base A outer s H → BindsTo s fd args (ps.zip us) → Vals vs us → sp vs H Q E →
  codeAny (model P w) A (.call (.ref f) args) (CR CX outer P w H s Q E) s
theorem FnOk.mono {P : Program} {w : World} {K : PySem.W.Frag} {mg : Str → Option Value} {base : Heap} {CX : CXT} {j k : Nat} {f : Addr} {fd : FuncData} {ps : List Str} {sp : Sp} (F : FnOk P w K mg base CX j f fd ps sp) (h : j ≤ k) :
  FnOk P w K mg base CX k f fd ps sp := ⟨F.len, fun A outer s H args us vs Q E hr => F.run A outer s H args us vs Q E (hr.mono h)⟩
section
variable {X : Cx} {pins : List (Addr × Obj)} {σ : St} {H : Hp} {s s' : Shared}
theorem Inv.env0 (I : Inv X pins σ H s) : Env0 X.prog X.w X.K X.mg X.base X.A X.stack s H :=
 ⟨I.ok.frames, I.ok.mod, I.bs, Nat.le_trans I.ok.bsz I.sz, I.stack, I.stkFree, I.hok, I.bare⟩
theorem Inv.after {Q : VK} {u : Value} (I : Inv X pins σ H s) (h : CE X.stack X.prog X.w H s Q u s') : EP X pins σ Q u s' := by
 obtain ⟨v, H', os, bare, un, hok, r, q⟩ := h
 obtain ⟨hh, g, d, t, os'⟩ := s'
 obtain rfl : os' = s.os := os
 exact ⟨v, H', I.call (h' := hh) (g' := g) (d' := d) (t' := t) (ch := []) un hok bare (fun b z => absurd z (by simp)), r, q⟩
end
def AYF (sp : Sp) (dvs : List V) (E : XK) (t : TA) : TE := fun σ H Q => t σ H fun vs H1 => sp (vs ++ dvs) H1 Q E
def Binds (K : PySem.W.Frag) (fd : FuncData) (ps : List Str) (ds : List Value) : Prop :=
 ∀ (s : Shared) (us : List Value), K.In s.heap → (us ++ ds).length = ps.length → BindsTo s fd ⟨us, []⟩ (ps.zip (us ++ ds))
theorem Binds.all {K : PySem.W.Frag} {fd : FuncData} {ps : List Str} (h : ∀ us : List Value, us.length = ps.length → bindArgs fd ⟨us, []⟩ = pure (ps.zip us)) : Binds K fd ps [] := fun s us _ hl => by
 rw [List.append_nil] at hl ⊢
 exact .of_eq (h us hl)
def AGH (CX : CXT) (X : Cx) (E : XK) : Prop := ∀ (pins : List (Addr × Obj)) (σ : St) (H : Hp) (s : Shared) (e : Value) (s' : Shared), Inv X pins σ H s → CX X.stack H s E e s' → X.xe e s'
section
variable {X : Cx} {CX : CXT} {k : Nat} {f C : Addr} {fd : FuncData} {ps : List Str} {sp : Sp} {dvs : List V} {ds : List Value} {E : XK} {x m : Str} {p pos apos : Pos} {e o : Expr} {es : List Expr} {ta : TE} {t : TA}
theorem AWM {pins : List (Addr × Obj)} {σ : St} {H : Hp} {s : Shared} {Q : VK} {us : List Value} {vs : List V} (F : FnOk X.prog X.w X.K X.mg X.base CX k f fd ps sp) (hr : Room k X.A) (hb : Binds X.K fd ps ds) (hd : Vals dvs ds) (hx : AGH CX X E)
  (I : Inv X pins σ H s) (r : Vals vs us) (h : sp (vs ++ dvs) H Q E) : wpAny (model X.prog X.w) X.A (call (.ref f) us) (EP X pins σ Q) X.xe s := by
 have r2 : Vals (vs ++ dvs) (us ++ ds) := r.append hd
 have hl : (us ++ ds).length = ps.length := by rw [← r2.length]; exact F.len _ _ _ _ h
 refine wpAny_call (codeAny_mono (F.run X.A X.stack s H ⟨us, []⟩ (us ++ ds) (vs ++ dvs) Q E hr I.env0 (hb s us I.kIn hl) r2 h) fun r s' hq => ?_)
 cases r with
 | error e => exact hx pins σ H s e s' I hq
 | ok fl =>
  cases fl with
  | ret u => exact I.after hq
  | next => exact False.elim hq
  | brk => exact False.elim hq
  | cont => exact False.elim hq
theorem AVK (F : FnOk X.prog X.w X.K X.mg X.base CX k f fd ps sp) (hr : Room k X.A) (hg : Gl X x) (hm : X.mg x = some (.ref f)) (hk : PySem.W.keepIn X.K (.ref f) = true) (hb : Binds X.K fd ps ds) (hd : Vals dvs ds) (hx : AGH CX X E)
  (ha : PA X (e :: es) t) (hdb : (x == ("__debug__" : Str)) = false := by decide) (he : starEach (e :: es) X.env = (false, eval e X.env) :: starEach es X.env := by rfl) (hpl : (backTo pos (starEach es X.env)).any (·.1) = false := by rfl) :
  PE X (.Call (.Name x p) (e :: es) [] pos) (AYF sp dvs E t) := by
 intro pins s σ H Q I h
 refine wpAny_Call_Name_kw (AKI I hg hm ?_ hdb)
 refine PySem.W.callWith_K (h₀ := X.base) I.ok.mod.kin hk (thn (ha pos pins s σ H _ I h) fun us s1 ⟨vs, H1, I1, r, q⟩ => ⟨I1.kIn, ?_⟩) he hpl
 exact AWM F hr hb hd hx I1 r q
end
structure FnScope (N P : List Str) (sc : Scope) : Prop where
 kind : sc.kind = .function
 co : sc.isCoroutine = false
 gen : sc.isGenerator = false
 nd : N.Nodup
 pre : N.take P.length = P
 par : ∀ x ∈ P, sc.names.lookup x = some .local ∨ sc.names.lookup x = some .cell
 nofree : ∀ y ∈ sc.names, y.2 ≠ .free
theorem AIP {kindOf : Str → Option NameKind} {x : Str} : ∀ {binds : List (Str × Value)} {m : Str → Option Value}, (∀ v, (x, v) ∉ binds) → bindL kindOf binds m x = m x
 | [], _, _ => rfl
 | (n, v) :: r, m, h => by
  unfold bindL
  rw [AIP fun w hw => h w (List.mem_cons_of_mem _ hw)]
  split
  ·have : x ≠ n := by rintro rfl; exact h v List.mem_cons_self
   simp [this]
  ·rfl
theorem AIJ {kindOf : Str → Option NameKind} {x : Str} : ∀ {binds : List (Str × Value)} {m : Str → Option Value}, (∀ v, (x, v) ∉ binds) → bindC kindOf binds m x = m x
 | [], _, _ => rfl
 | (n, v) :: r, m, h => by
  unfold bindC
  rw [AIJ fun w hw => h w (List.mem_cons_of_mem _ hw)]
  split
  ·rfl
  ·have : x ≠ n := by rintro rfl; exact h v List.mem_cons_self
   simp [this]
theorem AIT {kindOf : Str → Option NameKind} {x : Str} {v : Value} : ∀ {P : List Str} {vs : List Value} {i : Nat} {m : Str → Option Value}, P.Nodup → P[i]? = some x → vs[i]? = some v → kindOf x = some .local →
  bindL kindOf (P.zip vs) m x = some v
 | [], _, _, _, _, h, _, _ => by simp at h
 | _ :: _, [], _, _, _, _, h, _ => by simp at h
 | p :: P, w :: vs, 0, m, nd, h1, h2, hk => by
  simp at h1 h2; subst h1; subst h2
  show bindL kindOf ((p, w) :: P.zip vs) m p = _
  unfold bindL
  rw [AIP fun v hv => (List.nodup_cons.mp nd).1 (List.of_mem_zip hv).1, if_pos hk]
  simp
 | p :: P, w :: vs, i + 1, m, nd, h1, h2, hk => by
  show bindL kindOf ((p, w) :: P.zip vs) m x = _
  unfold bindL
  exact AIT (i := i) (List.nodup_cons.mp nd).2 (by simpa using h1) (by simpa using h2) hk
theorem AI1 {kindOf : Str → Option NameKind} {x : Str} {v : Value} : ∀ {P : List Str} {vs : List Value} {i : Nat} {m : Str → Option Value}, P.Nodup → P[i]? = some x → vs[i]? = some v → kindOf x ≠ some .local →
  bindC kindOf (P.zip vs) m x = some v
 | [], _, _, _, _, h, _, _ => by simp at h
 | _ :: _, [], _, _, _, _, h, _ => by simp at h
 | p :: P, w :: vs, 0, m, nd, h1, h2, hk => by
  simp at h1 h2; subst h1; subst h2
  show bindC kindOf ((p, w) :: P.zip vs) m p = _
  unfold bindC
  rw [AIJ fun v hv => (List.nodup_cons.mp nd).1 (List.of_mem_zip hv).1, if_neg hk]
  simp
 | p :: P, w :: vs, i + 1, m, nd, h1, h2, hk => by
  show bindC kindOf ((p, w) :: P.zip vs) m x = _
  unfold bindC
  exact AI1 (i := i) (List.nodup_cons.mp nd).2 (by simpa using h1) (by simpa using h2) hk
def start (N : List Str) (vs : List V) : St := vs.map some ++ List.replicate (N.length - vs.length) none
def AB5 (CX : CXT) (P : Program) (w : World) (K : PySem.W.Frag) (mg : Str → Option Value) (base : Heap) (N : List Str) (qual : Str) (scope : Scope) (f : Addr) (cd : Value) (A : Around) (outer : List Env) (s : Shared) (H : Hp) (E : XK) : Cx where
 prog := P
 w := w
 K := K
 mg := mg
 base := base
 A := A.deeper (envOfC qual scope s.heap.objs.size f cd)
 N := N
 s₀ := s
 H₀ := H
 env := envOfC qual scope s.heap.objs.size f cd
 outer := outer
 stack := envOfC qual scope s.heap.objs.size f cd :: outer
 ex := []
 calm := true
 fn := fun _ => true
 pn := []
 xe := fun e s' => wpAny (model P w) (A.deeper (envOfC qual scope s.heap.objs.size f cd)) (leaving (envOfC qual scope s.heap.objs.size f cd) e) (fun _ s'' => CX outer H s E e s'') (fun e' s'' => CX outer H s E e' s'') s'
theorem ALU {sc : Scope} {n : Nat} {x : Str} (h : sc.names.lookup x = some .cell) : ∃ c, (cellsFrom n sc.names []).lookup x = some c := by
 have q := PySem.W.cellsFrom_some sc.names n [] (.inl h)
 exact Option.isSome_iff_exists.mp q
theorem APC {CX : CXT} {P : Program} {w : World} {K : PySem.W.Frag} {mg : Str → Option Value} {base : Heap} {N ps : List Str} {qual : Str} {scope : Scope} {f : Addr} {cd : Value} {A : Around} {outer : List Env} {s s1 : Shared} {H : Hp} {E : XK} {us : List Value} {vs : List V}
  (S : FnScope N ps scope) (hd : A.handled = none) (e0 : Env0 P w K mg base A outer s H) (hl : vs.length = ps.length) (r : Vals vs us)
  (x : InCallC s s.heap.objs.size (bindL (envOfC qual scope s.heap.objs.size f cd).kindOf (ps.zip us) fun _ => none) (cellsFrom (s.heap.objs.size + 1) scope.names []) (bindC (envOfC qual scope s.heap.objs.size f cd).kindOf (ps.zip us) fun _ => none) s1) :
  Inv (AB5 CX P w K mg base N qual scope f cd A outer s H E) [] (start N vs) H s1 := by
 have hpl : ps.length ≤ N.length := by have := congrArg List.length S.pre; rw [List.length_take] at this; omega
 obtain ⟨h1, tk, rfl, hk⟩ := x.done
 have noA : ∀ b : Addr, b ∉ (AB5 CX P w K mg base N qual scope f cd A outer s H E).ex := fun b z => absurd (show b ∈ ([] : List Addr) from z) (by simp)
 refine ⟨⟨e0.mod, S.kind, rfl, rfl, Nat.le_refl _, fun y z c h1 h2 => ?_, fun y hy => ?_, fun y c _ h => ?_, fun _ => hd, Around.frames_deeper e0.frames, .inr ⟨rfl, rfl⟩, fun b z => absurd z (noA b), e0.bs, e0.bsz, fun b _ _ => noA b, fun b z => absurd z (noA b), e0.funs, e0.frf⟩,
  rfl, e0.bare, Un.kept hk, ⟨_, x.toInCall.ns, fun i y v h1 h2 h3 => ?_⟩, fun y c h => ⟨_, x.cell y c h⟩, e0.hok.fresh (Nat.le_refl _), fun y c h => ?_, fun p hp => absurd (show p ∈ ([] : List (Addr × Obj)) from hp) (by simp), e0.hok.kept hk, ?_⟩
 ·exact name_of_addr x.apart (PySem.mem_of_lookup h1) (PySem.mem_of_lookup h2)
 ·have hy : scope.names.lookup y = some .cell ∨ scope.names.lookup y = some .free := hy
  rcases hy with hy | hy
  ·exact ALU hy
  ·exact absurd rfl (S.nofree _ (PySem.mem_of_lookup hy))
 ·exact Nat.le_of_lt (x.above y c (PySem.mem_of_lookup h))
 ·have hi : i < vs.length := by
   unfold start at h2
   by_cases hi : i < vs.length
   ·exact hi
   ·rw [List.getElem?_append_right (by simpa using hi)] at h2
    rw [List.getElem?_replicate] at h2
    split at h2 <;> cases h2
  have ha : vs[i]? = some v := by
   unfold start at h2
   rw [List.getElem?_append_left (by simpa using hi), List.getElem?_map] at h2
   cases e : vs[i]? with
   | none => rw [e] at h2; cases h2
   | some a => rw [e] at h2; cases h2; rfl
  obtain ⟨u, hu, rv⟩ := r.get ha
  have hp : ps[i]? = some y := by
   rw [← S.pre, List.getElem?_take_of_lt (by omega)]; exact h1
  have ndP : ps.Nodup := by rw [← S.pre]; exact S.nd.sublist (List.take_sublist _ _)
  refine ⟨u, rv, ?_⟩
  rcases S.par y (List.mem_of_getElem? hp) with k | k
  ·exact .inl ⟨k, AIT ndP hp hu k⟩
  ·obtain ⟨c, e⟩ := ALU (n := s.heap.objs.size + 1) k
   refine .inr ⟨.inl k, c, e, ?_⟩
   have q := x.cell y c e
   rw [AI1 ndP hp hu (by show scope.names.lookup y ≠ _; rw [k]; decide)] at q
   exact q
 ·exact e0.hok.fresh (Nat.le_of_lt (x.above y c (PySem.mem_of_lookup h)))
 ·unfold start
  show _ = N.length
  rw [List.length_append, List.length_map, List.length_replicate]
  omega
theorem AYC {CX : CXT} {P : Program} {w : World} {K : PySem.W.Frag} {mg : Str → Option Value} {base : Heap} {k : Nat} {f : Addr} {name qual : Str} {params : Arguments} {body : List Stmt} {scope : Scope} {dV kV doc pm cdv ct oc : Value} {an od : Option Addr}
  {osl : Array (Option Value)} {N ps : List Str} {sp : Sp} (lk : K.lookup f = some ⟨oc, od, .func (PySem.W.fnOf name qual params body scope dV kV doc pm an cdv ct), osl⟩) (hcd : PySem.W.codeIn K cdv qual = true) (S : FnScope N ps scope)
  (len : ∀ vs H Q E, sp vs H Q E → vs.length = ps.length)
  (hbody : ∀ (A : Around) (outer : List Env) (s : Shared) (H : Hp) (vs : List V) (Q : VK) (E : XK), Room k (A.deeper (envOfC qual scope s.heap.objs.size f cdv)) → sp vs H Q E →
   ∃ t, PSs (AB5 CX P w K mg base N qual scope f cdv A outer s H E) body t ∧ t { nx := fun _ H' => Q .non H', rt := Q } (start N vs) H) :
  FnOk P w K mg base CX (k + 1) f (PySem.W.fnOf name qual params body scope dV kV doc pm an cdv ct) ps sp := by
 refine ⟨len, fun A outer s H args us vs Q E hr e0 hb r hsp => ?_⟩
 have hl := len _ _ _ _ hsp
 have KX : K.In s.heap := e0.mod.kin.keeps fun b o e => (e0.bs b o e).1
 have lim : s.heap.NoLimit := e0.mod.nolimit.keeps fun b o e => (e0.bs b o e).1
 have hkind : ∀ y ∈ ps.zip us, scope.names.lookup y.1 = some .local ∨ (scope.names.lookup y.1 = some .cell ∧ ((cellsFrom (s.heap.objs.size + 1) scope.names []).lookup y.1).isSome = true) := fun ⟨n, v⟩ hy => by
  rcases S.par n (List.of_mem_zip hy).1 with q | q
  ·exact .inl q
  ·exact .inr ⟨q, PySem.W.cellsFrom_some _ _ _ (.inl q)⟩
 refine codeAny_call_function hr.depth (KX _ _ lk) rfl S.co S.gen rfl (PySem.W.codeRec_of KX hcd) (hb _ _ _ _ ?_)
 refine wpAny_newFunctionEnv_cells S.kind hkind fun env he s1 x => ?_
 subst he
 refine ⟨lim.keeps x.toInCall.keep, codeAny_func ?_⟩
 obtain ⟨t, ht, hq⟩ := hbody A outer s H vs Q E (hr.deeper _) hsp
 have I : Inv (AB5 CX P w K mg base N qual scope f cdv A outer s H E) [] (start N vs) H s1 := APC S hr.hd e0 hl r x
 refine wpAny_mono (ht [] s1 (start N vs) H _ I hq) (fun fl s' hs => ?_) fun e s' hs => hs
 have fin : ∀ {σ' : St} {H' : Hp} {v : V} {u : Value}, Inv (AB5 CX P w K mg base N qual scope f cdv A outer s H E) [] σ' H' s' → RelV v u → Q v H' → CE outer P w H s Q u s' :=
  fun {σ' H' v u} J rv q => ⟨v, H', J.os, J.bare, J.base, J.hok, rv, q⟩
 cases fl with
 | ret u =>
  obtain ⟨v, σ', H', J, rv, q⟩ := hs
  exact fin J rv q
 | next =>
  obtain ⟨σ', H', J, q⟩ := hs
  exact fin (v := V.non) (u := Value.none) J rfl q
 | brk =>
  obtain ⟨_, _, _, q⟩ := hs
  exact False.elim q
 | cont =>
  obtain ⟨_, _, _, q⟩ := hs
  exact False.elim q
section
variable {X : Cx} {x : Str} {p pos : Pos} {e : Expr} {es : List Expr} {t : TA} {id T : String} {r : List V → Hp → VK → Prop}
def tCB (r : List V → Hp → VK → Prop) (t : TA) : TE := fun σ H Q => t σ H fun vs H1 => r vs H1 Q
theorem ALV (hc : AFX X (.builtin id) r) (hg : Gl X x) (hm : X.mg x = none) (hv : bootBuiltins x = some (.builtin id)) (ha : PA X (e :: es) t) (hn : x ≠ "__name__" := by decide) (hdb : (x == ("__debug__" : Str)) = false := by decide)
  (he : starEach (e :: es) X.env = (false, eval e X.env) :: starEach es X.env := by rfl) (hpl : (backTo pos (starEach es X.env)).any (·.1) = false := by rfl) : PE X (.Call (.Name x p) (e :: es) [] pos) (tCB r t) := by
 intro pins s σ H Q I h
 refine wpAny_Call_Name_kw (AGR I hg hm hv ?_ hn hdb)
 exact PyProof.Rows.callWith_builtin1 (thn (ha pos pins s σ H _ I h) fun us s1 ⟨vs, H1, I1, r1, q1⟩ => hc pins s1 σ H1 vs us Q I1 r1 q1) he hpl
theorem AQJ (hc : AFX X (.type T) r) (hg : Gl X x) (hm : X.mg x = none) (hv : bootBuiltins x = some (.type T)) (ha : PA X (e :: es) t) (hn : x ≠ "__name__" := by decide) (hdb : (x == ("__debug__" : Str)) = false := by decide)
  (he : starEach (e :: es) X.env = (false, eval e X.env) :: starEach es X.env := by rfl) (hpl : (backTo pos (starEach es X.env)).any (·.1) = false := by rfl) : PE X (.Call (.Name x p) (e :: es) [] pos) (tCB r t) := by
 intro pins s σ H Q I h
 refine wpAny_Call_Name_kw (AGR I hg hm hv ?_ hn hdb)
 exact PyProof.Rows.callWith_type1 (thn (ha pos pins s σ H _ I h) fun us s1 ⟨vs, H1, I1, r1, q1⟩ => hc pins s1 σ H1 vs us Q I1 r1 q1) he hpl
end
end L2
namespace HT
open PySem PyProof.Rows
section
open PySem.SeqAt
open PySem.AutoSeq1 (wpAny_loadPart')
open PySem.MeetsSeq PySem.MeetsSeq2 PySem.MeetsSeq3
end
section
variable {prog : Program} {w : World} {A : Around} {E : Value → Shared → Prop} {s : Shared}
theorem cat_tup {t b : Addr} {vs ws : List Value} {Q : Value → Shared → Prop} (ht : IsTup s.heap t vs.toArray) (hb : IsTup s.heap b ws.toArray) (hv : vs ≠ [])
  (h1 : ws = [] → Q (.ref t) s) (h2 : ws ≠ [] → Q (.ref s.heap.objs.size) { s with heap := s.heap.push { cls := .type "tuple", data := .seq (vs ++ ws).toArray } })
  (hsz : vs.length + ws.length ≤ sizeLine) : wpAny (model prog w) A (binaryOp .Add (.ref t) (.ref b)) Q E s := by
 obtain ⟨⟨cls, dd, data, sl⟩, ho, hc, n, hd⟩ := id ht
 obtain ⟨⟨cls2, dd2, data2, sl2⟩, ho2, hc2, n2, hd2⟩ := id hb
 simp only at hc hd hc2 hd2
 subst hc hd hc2 hd2
 have e : vs.toArray ++ ws.toArray = (vs ++ ws).toArray := by simp
 by_cases hw : ws = []
 ·exact concat_meets ⟨_, ho, rfl⟩ ⟨_, ho2, rfl⟩ noFill_tuple_add seq_tuple_add PySem.F.slot_tuple_add PySem.F.entry_tuple_add (PySem.F.args_tuple_add_2 _ _)
   (tuple_addW1 t b vs.toArray ws.toArray n n2 dd dd2 sl sl2 (by simpa using hv) (by simp [hw])) ⟨ho, ho2, h1 hw⟩
 ·refine concat_meets ⟨_, ho, rfl⟩ ⟨_, ho2, rfl⟩ noFill_tuple_add seq_tuple_add PySem.F.slot_tuple_add PySem.F.entry_tuple_add (PySem.F.args_tuple_add_2 _ _)
   (tuple_addW2 t b vs.toArray ws.toArray n n2 dd dd2 sl sl2 (by simpa using hv) (by simpa using hw) (by rw [List.size_toArray, List.size_toArray]; exact hsz)) ⟨ho, ho2, ?_⟩
  rw [e]
  exact h2 hw
def sIx (n d : Nat) : Option Int → Nat
 | none => d
 | some v => if v < 0 then (v + (n : Int)).toNat else min v.toNat n
theorem sIx_none (n d : Nat) : sIx n d none = d := rfl
theorem sIx_nat (n d k : Nat) : sIx n d (some (k : Int)) = min k n := by
 show (if (k : Int) < 0 then ((k : Int) + (n : Int)).toNat else min (k : Int).toNat n) = min k n
 rw [if_neg (by omega), Int.toNat_natCast]
theorem AXX (n d : Nat) (hd : d ≤ n) (o : Option Int) : sIx n d o ≤ n := by
 cases o with
 | none => exact hd
 | some v =>
  show (if v < 0 then (v + (n : Int)).toNat else min v.toNat n) ≤ n
  by_cases hv : v < 0
  ·rw [if_pos hv]; omega
  ·rw [if_neg hv]; exact Nat.min_le_right _ _
theorem AO7 (v : Int) (n d : Nat) : (if v < 0 then max (v + (n : Int)) 0 else min v (n : Int)) = ((sIx n d (some v) : Nat) : Int) := by
 show (if v < 0 then max (v + (n : Int)) 0 else min v (n : Int)) = (((if v < 0 then (v + (n : Int)).toNat else min v.toNat n) : Nat) : Int)
 by_cases hv : v < 0
 ·simp only [if_pos hv]; omega
 ·simp only [if_neg hv]; omega
theorem AN6 (lo hi : Option Int) (n : Nat) : Builtin.Slice.sliceAdjust lo hi 1 (n : Int) = (((sIx n 0 lo : Nat) : Int), ((sIx n n hi : Nat) : Int)) := by
 have h1 : ¬ ((1 : Int) < 0) := by omega
 unfold Builtin.Slice.sliceAdjust
 simp only [h1, if_false]
 refine Prod.ext ?_ ?_
 ·cases lo with
  | none => rfl
  | some v => exact AO7 v n 0
 ·cases hi with
  | none => rfl
  | some v => exact AO7 v n n
theorem ANI (i j : Nat) : Builtin.Slice.slicePlaces (i : Int) (j : Int) 1 = j - i := by
 unfold Builtin.Slice.slicePlaces
 have h1 : (1 : Int) > 0 := by omega
 simp only [h1, if_true, Int.ediv_one]
 split <;> omega
theorem slicePart_ {v : Value} {o : Option Int} {Q : Option Int → Shared → Prop} (p : IsPart v o) (h : Q o s) : wpAny (model prog w) A (Builtin.Slice.slicePartIndex v) Q E s := by
 cases p with
 | none => exact slicePart_none h
 | int i t => exact slicePart_int h
theorem sliceApplied_gen {sl : Addr} {vl vu : Value} {lo hi : Option Int} {n : Nat} {Q : Int × Int × Nat → Shared → Prop} (hs : s.heap.IsSliceOf sl vl vu .none) (pl : IsPart vl lo) (pu : IsPart vu hi)
  (h : Q (((sIx n 0 lo : Nat) : Int), 1, sIx n n hi - sIx n 0 lo) s) : wpAny (model prog w) A (Builtin.Slice.sliceApplied (.ref sl) (pure (n : Int))) Q E s := by
 obtain ⟨os, hos, hcs, hds⟩ := id hs
 unfold Builtin.Slice.sliceApplied Builtin.Slice.sliceFields
 refine wpAny_bind (wpAny_bind (wpAny_field hos hds (x := vl) rfl (wpAny_bind (wpAny_field hos hds (x := vu) rfl (wpAny_bind (wpAny_field hos hds (x := .none) rfl (wpAny_pure ?_)))))))
 refine wpAny_bind (slicePart_none ?_)
 show wpAny _ _ (if ((1 : Int) == 0) = true then _ else _) _ _ s
 rw [if_neg (by decide)]
 refine wpAny_bind (slicePart_ pl (wpAny_bind (slicePart_ pu (wpAny_bind (wpAny_pure ?_)))))
 show wpAny _ _ (match Builtin.Slice.sliceAdjust lo hi 1 (n : Int) with | (lo, hi) => pure (lo, (1 : Int), Builtin.Slice.slicePlaces lo hi 1)) _ _ s
 rw [AN6 lo hi n]
 show wpAny _ _ (pure (((sIx n 0 lo : Nat) : Int), (1 : Int), Builtin.Slice.slicePlaces ((sIx n 0 lo : Nat) : Int) ((sIx n n hi : Nat) : Int) 1)) _ _ s
 rw [ANI]
 exact wpAny_pure h
theorem ASF (xs : Array Value) (i k : Nat) : ((List.range k).filterMap fun (m : Nat) => xs[((i : Int) + (m : Int) * 1).toNat]?).toArray = ((xs.toList.drop i).take k).toArray := by
 have e : (fun (m : Nat) => xs[((i : Int) + (m : Int) * 1).toNat]?) = fun m => xs[i + m]? := by
  funext m
  have : ((i : Int) + (m : Int) * 1).toNat = i + m := by omega
  rw [this]
 rw [e]
 have := pick_run xs i k
 rw [List.filterMap_map] at this
 have e2 : ((fun x => xs[x]?) ∘ fun x => i + x) = fun m => xs[i + m]? := rfl
 rw [e2] at this
 rw [this]
theorem getItem_tuple_cut {t sl : Addr} {items : Array Value} {vl vu : Value} {lo hi : Option Int} {Q : Value → Shared → Prop} (ht : IsTup s.heap t items) (hs : s.heap.IsSliceOf sl vl vu .none) (pl : IsPart vl lo) (pu : IsPart vu hi)
  (hw : ¬ (sIx items.size 0 lo = 0 ∧ sIx items.size items.size hi = items.size))
  (h : Q (.ref s.heap.objs.size) { s with heap := s.heap.push { cls := .type "tuple", data := .seq ((items.toList.drop (sIx items.size 0 lo)).take (sIx items.size items.size hi - sIx items.size 0 lo)).toArray } })
  (hsz : items.size ≤ sizeLine) : wpAny (model prog w) A (getItem (.ref t) (.ref sl)) Q E s := by
 have htake : sizeOk (.seq ((items.toList.drop (sIx items.size 0 lo)).take (sIx items.size items.size hi - sIx items.size 0 lo)).toArray) := by
  show ((items.toList.drop (sIx items.size 0 lo)).take (sIx items.size items.size hi - sIx items.size 0 lo)).toArray.size ≤ sizeLine
  rw [List.size_toArray, List.length_take, List.length_drop, Array.length_toList]
  omega
 have hj : sIx items.size items.size hi ≤ items.size := AXX _ _ (Nat.le_refl _) hi
 obtain ⟨os, hos, hcs, hds⟩ := id hs
 have hTs : s.TypeIs (.ref sl) "slice" := ⟨os, hos, hcs⟩
 unfold getItem
 try with_reducible refine wpAny_holding ?_
 first | refine wpAny_bind (wpAny_pure ?_) | skip
 refine wpAny_bind (wpAny_sequenceKey ht.typeIs (by decide) ?_)
 refine wpAny_bind (wpAny_callSpecial?_slot (name := Str.ofString "__getitem__") ht.typeIs PyProof.Rows.slot_tuple_getitem
  (wpAny_call_entry PyProof.Rows.slot_tuple_getitem ht.typeIs entry_tuple_getitem ?_ (args_tuple_getitem _ _)))
 show wpAny _ _ (Builtin.Tuple.tupleItemsOf (.ref t) >>= _) _ _ s
 refine wpAny_bind (tupleItemsOf_ ht ?_)
 refine wpAny_bind (wpAny_typeOf hTs ?_)
 rw [if_pos (by decide)]
 refine wpAny_bind (sliceApplied_gen hs pl pu ?_)
 have hno : ¬ ((((sIx items.size 0 lo : Nat) : Int) == 0 && (1 : Int) == 1 && (sIx items.size items.size hi - sIx items.size 0 lo) == items.size) = true) := by
  intro q
  rw [Bool.and_eq_true, Bool.and_eq_true] at q
  have q1 : ((sIx items.size 0 lo : Nat) : Int) = 0 := eq_of_beq q.1.1
  have q2 : sIx items.size items.size hi - sIx items.size 0 lo = items.size := eq_of_beq q.2
  exact hw ⟨by omega, by omega⟩
 show wpAny _ _ (if (((sIx items.size 0 lo : Nat) : Int) == 0 && (1 : Int) == 1 && (sIx items.size items.size hi - sIx items.size 0 lo) == items.size) = true then _ else _) _ _ s
 rw [if_neg hno, ASF]
 first
  | exact wpAny_bind (m := Builtin.Tuple.tupleExact _) (wpAny_newObj_type (wpAny_pure ⟨_, rfl, wpAny_pure h⟩) htake)
  | exact wpAny_bind (m := Builtin.Tuple.tupleExact _) (wpAny_newObj_type (wpAny_bind (wpAny_pure (wpAny_pure ⟨_, rfl, wpAny_pure h⟩))) htake)
  | exact wpAny_bind (wpAny_bind (m := Builtin.Tuple.tupleExact _) (wpAny_newObj_type (wpAny_pure (wpAny_pure ⟨_, rfl, wpAny_pure h⟩)) htake))
  | exact wpAny_bind (wpAny_bind (m := Builtin.Tuple.tupleExact _) (wpAny_newObj_type (wpAny_pure ⟨_, rfl, wpAny_pure h⟩) htake))
end
end HT
namespace L2
open PySem PySem.Spec PyProof.Rows
abbrev TO := St → Hp → (Option Int → Hp → Prop) → Prop
def PO (X : Cx) (e : Option Expr) (t : TO) : Prop :=
 ∀ (pins : List (Addr × Obj)) (s : Shared) (σ : St) (H : Hp) (Q : Option Int → Hp → Prop), Inv X pins σ H s → t σ H Q →
  wpAny (model X.prog X.w) X.A (evalPart e X.env) (fun u s' => ∃ o H', Inv X pins σ H' s' ∧ IsPart u o ∧ Q o H') X.xe s
def AV0 : TO := fun _ H Q => Q none H
def AaI (t : TE) : TO := fun σ H Q => t σ H fun x H1 => ∃ i, x = .int i ∧ Q (some i) H1
section
variable {X : Cx} {e : Expr} {te : TE} {lo hi : Option Expr} {tl th : TO} {pos p2 : Pos}
theorem AU9 : PO X none AV0 := by
 intro pins s σ H Q I h
 rw [evalPart_none]
 exact wpAny_pure ⟨none, H, I, .none, h⟩
theorem AVW (h : PE X e te) : PO X (some e) (AaI te) := by
 intro pins s σ H Q I hw
 rw [evalPart_some]
 refine thn (h pins s σ H _ I hw) fun u s1 ⟨x, H1, I1, r1, q1⟩ => ?_
 obtain ⟨i, rfl, q⟩ := q1
 obtain ⟨t, rfl⟩ := r1
 exact ⟨some i, H1, I1, .int i t, q⟩
def SlR (X : Cx) (r : V → Option Int → Option Int → Hp → VK → Prop) : Prop :=
 ∀ (pins : List (Addr × Obj)) (s : Shared) (σ : St) (H : Hp) (x : V) (v vl vu : Value) (lo hi : Option Int) (sl : Addr) (Q : VK), Inv X pins σ H s → RelV x v → s.heap.IsSliceOf sl vl vu .none → IsPart vl lo → IsPart vu hi → r x lo hi H Q →
  ∃ T id, typeLookup (.type T) "__getitem__" = pure (some (.builtin id)) ∧ s.TypeIs v T ∧ wpAny (model X.prog X.w) X.A (getItem v (.ref sl)) (EP X pins σ Q) X.xe s
theorem SlR.or {r r' : V → Option Int → Option Int → Hp → VK → Prop} (h : SlR X r) (h' : SlR X r') : SlR X (fun x lo hi H Q => r x lo hi H Q ∨ r' x lo hi H Q) := by
 intro pins s σ H x v vl vu lo hi sl Q I rx hs pl pu q
 rcases q with q | q
 ·exact h pins s σ H x v vl vu lo hi sl Q I rx hs pl pu q
 ·exact h' pins s σ H x v vl vu lo hi sl Q I rx hs pl pu q
def tSl (r : V → Option Int → Option Int → Hp → VK → Prop) (te : TE) (tl th : TO) : TE := fun σ H Q => te σ H fun x H1 => tl σ H1 fun l H2 => th σ H2 fun u H3 => r x l u H3 Q
theorem ASG {r : V → Option Int → Option Int → Hp → VK → Prop} (hr : SlR X r) (he : PE X e te) (hl : PO X lo tl) (hu : PO X hi th) : PE X (.Subscript e (.Slice lo hi none p2) pos) (tSl r te tl th) := by
 intro pins s σ H Q I h
 refine Subscript_ (thn (he pins s σ H _ I h) fun v s1 ⟨x, H1, I1, r1, q1⟩ => ?_)
 refine wpAny_Slice (thn (hl pins s1 σ H1 _ I1 q1) fun vl s2 ⟨l, H2, I2, pl, q2⟩ => thn (hu pins s2 σ H2 _ I2 q2) fun vu s3 ⟨u, H3, I3, pu, q3⟩ => ?_)
 rw [evalPart_none]
 refine wpAny_pure ?_
 have I4 : Inv X pins σ H3 { s3 with heap := s3.heap.push { cls := .type "slice", data := .fields #[vl, vu, .none] } } := I3.kept (t' := s3.toks) fun b ob q => Heap.get?_push_of_some _ q
 obtain ⟨T, id, hT, ht, hg⟩ := hr pins { s3 with heap := s3.heap.push { cls := .type "slice", data := .fields #[vl, vu, .none] } } σ H3 x v vl vu l u s3.heap.objs.size Q I4 r1 (Heap.IsSliceOf.new ..) pl pu q3
 show wpAny (model X.prog X.w) X.A (subscriptTail e (.Slice lo hi none p2) v (.ref s3.heap.objs.size)) (EP X pins σ Q) X.xe { s3 with heap := s3.heap.push { cls := .type "slice", data := .fields #[vl, vu, .none] } }
 exact tail_any (ops := [.ref s3.heap.objs.size, v]) ht hT hg (by with_unfolding_all rfl)
def AT4 (xs : List V) (lo hi : Option Int) : List V := (xs.drop (HT.sIx xs.length 0 lo)).take (HT.sIx xs.length xs.length hi - HT.sIx xs.length 0 lo)
theorem AFA (xs : List V) (lo hi : Option Int) : (AT4 xs lo hi).length ≤ xs.length := by
 unfold AT4
 rw [List.length_take, List.length_drop]
 omega
def AcG (K : PySem.W.Frag) : V → Option Int → Option Int → Hp → VK → Prop := fun x lo hi H Q => ∃ a xs, x = .ref a ∧ SqT K H a xs ∧
 ¬ (HT.sIx xs.length 0 lo = 0 ∧ HT.sIx xs.length xs.length hi = xs.length) ∧ ∀ p, H p = none → Q (.ref p) (upd H p (.tup (AT4 xs lo hi)))
theorem sl_tup : SlR X (AcG X.K) := by
 intro pins s σ H x v vl vu lo hi sl Q I rx hs pl pu h
 obtain ⟨a, xs, rfl, hx, hw, q⟩ := h
 cases rx
 obtain ⟨its, r, ht, hz⟩ := I.tuple hx
 have hlen : its.toArray.size = xs.length := by rw [List.size_toArray]; exact r.length.symm
 refine ⟨"tuple", _, PyProof.Rows.slot_tuple_getitem.lookup, ht.typeIs, ?_⟩
 refine HT.getItem_tuple_cut ht hs pl pu (by rw [hlen]; exact hw) ?_ (by rw [hlen]; exact hz)
 rw [hlen]
 refine ⟨.ref s.heap.objs.size, _, I.laid (t' := s.toks) (o := .tup (AT4 xs lo hi)) (fun b ob q => Heap.get?_push_of_some _ q) (Nat.le_refl _) ?_, rfl, q _ (I.hok.fresh (Nat.le_refl _))⟩
 exact ⟨Nat.le_trans (AFA xs lo hi) hz, _, (r.drop (HT.sIx xs.length 0 lo)).take (HT.sIx xs.length xs.length hi - HT.sIx xs.length 0 lo), IsTup.new _ _⟩
def AWR (K : PySem.W.Frag) : R2 := fun x y H Q => ∃ a b xs ys, x = .ref a ∧ y = .ref b ∧ SqT K H a xs ∧ SqT K H b ys ∧ xs ≠ [] ∧ xs.length + ys.length ≤ sizeLine ∧
 (ys = [] → Q (.ref a) H) ∧ (ys ≠ [] → ∀ p, H p = none → Q (.ref p) (upd H p (.tup (xs ++ ys))))
theorem Vals.nil_iff {xs : List V} {us : List Value} (r : Vals xs us) : us = [] ↔ xs = [] := by
 cases r with
 | nil => simp
 | cons _ _ => simp
theorem AUF : OpR X (binaryOp .Add) (AWR X.K) := by
 intro pins s σ H x y v u Q I rx ry h
 obtain ⟨a, b, xs, ys, rfl, rfl, ha, hb, hx, hz, q1, q2⟩ := h
 cases rx
 cases ry
 obtain ⟨its, r1, p1, _⟩ := I.tuple ha
 obtain ⟨its2, r2, p2, _⟩ := I.tuple hb
 refine HT.cat_tup p1 p2 (fun z => hx (r1.nil_iff.mp z)) (fun z => ⟨.ref a, H, I, rfl, q1 (r2.nil_iff.mp z)⟩) (fun z => ?_) (by rw [← r1.length, ← r2.length]; exact hz)
 refine ⟨.ref s.heap.objs.size, _, I.laid (t' := s.toks) (o := .tup (xs ++ ys)) (fun b ob q => Heap.get?_push_of_some _ q) (Nat.le_refl _) ?_, rfl, q2 (fun w => z (r2.nil_iff.mpr w)) _ (I.hok.fresh (Nat.le_refl _))⟩
 exact ⟨by rw [List.length_append]; exact hz, _, r1.append r2, IsTup.new _ _⟩
end
def ixN (n : Nat) (i : Int) : Option Nat := if 0 ≤ i then (if i < n then some i.toNat else none) else if -(n : Int) ≤ i then some (i + n).toNat else none
def atI {α : Type} (xs : List α) (i : Int) : Option α := (ixN xs.length i).bind fun j => xs[j]?
theorem AVJ {n : Nat} {i : Int} {j : Nat} (h : ixN n i = some j) : seqIndex? i n = some j ∧ j < n ∧ -(n : Int) ≤ i ∧ i < n := by
 unfold ixN at h
 by_cases h0 : 0 ≤ i
 ·rw [if_pos h0] at h
  by_cases h1 : i < n
  ·rw [if_pos h1] at h
   have e : i.toNat = j := Option.some.inj h
   exact ⟨by rw [seqIndex_of h0 h1, e], by omega, by omega, h1⟩
  ·rw [if_neg h1] at h; cases h
 ·rw [if_neg h0] at h
  by_cases h1 : -(n : Int) ≤ i
  ·rw [if_pos h1] at h
   have e : (i + n).toNat = j := Option.some.inj h
   exact ⟨by rw [seqIndex_neg (by omega) h1, e], by omega, h1, by omega⟩
  ·rw [if_neg h1] at h; cases h
theorem AKT {α : Type} {xs : List α} {i : Int} {v : α} (h : atI xs i = some v) : ∃ j, seqIndex? i xs.length = some j ∧ xs[j]? = some v ∧ j < xs.length ∧ -(xs.length : Int) ≤ i ∧ i < xs.length := by
 unfold atI at h
 cases e : ixN xs.length i with
 | none => rw [e] at h; cases h
 | some j =>
  rw [e] at h
  obtain ⟨h1, h2, h3, h4⟩ := AVJ e
  exact ⟨j, h1, h, h2, h3, h4⟩
theorem AOJ {α : Type} {xs : List α} {j : Nat} {v : α} (h : xs[j]? = some v) : atI xs (j : Int) = some v := by
 have hj : j < xs.length := (List.getElem?_eq_some_iff.mp h).1
 have e : ixN xs.length (j : Int) = some j := by
  unfold ixN
  rw [if_pos (by omega), if_pos (by omega)]; simp
 unfold atI; rw [e]; exact h
def AOB (b : Expr) : Prop := ∀ o i, subscripted b false o i = operate [o, i] (getItem o i)
def IxR (X : Cx) (r : R2) : Prop :=
 ∀ (value slice : Expr) (pins : List (Addr × Obj)) (s : Shared) (σ : St) (H : Hp) (x y : V) (v u : Value) (Q : VK), Inv X pins σ H s → RelV x v → RelV y u → r x y H Q →
  subscripted slice false v u = operate [v, u] (getItem v u) → wpAny (model X.prog X.w) X.A (subscriptTail value slice v u) (EP X pins σ Q) X.xe s
def MtR (X : Cx) (id : String) (r : V → List V → Hp → VK → Prop) : Prop :=
 ∀ (pins : List (Addr × Obj)) (s : Shared) (σ : St) (H : Hp) (x : V) (xs : List V) (v : Value) (us : List Value) (Q : VK), Inv X pins σ H s → RelV x v → Vals xs us → r x xs H Q →
  wpAny (model X.prog X.w) X.A (call (.builtin id) (v :: us)) (EP X pins σ Q) X.xe s
section
variable {X : Cx} {a b : Expr} {ta tb : TE} {pos : Pos}
theorem IxR.or {r r' : R2} (h : IxR X r) (h' : IxR X r') : IxR X (fun x y H Q => r x y H Q ∨ r' x y H Q) := by
 intro value slice pins s σ H x y v u Q I rx ry q hs
 rcases q with q | q
 ·exact h value slice pins s σ H x y v u Q I rx ry q hs
 ·exact h' value slice pins s σ H x y v u Q I rx ry q hs
theorem Aa2 {r : R2} (hr : IxR X r) (ha : PE X a ta) (hb : PE X b tb) (hs : AOB b) : PE X (.Subscript a b pos) (tOp r ta tb) := by
 intro pins s σ H Q I h
 exact Subscript_ (AZV ha hb I h fun v u s2 x y H2 I2 rx ry q => hr a b pins s2 σ H2 x y v u Q I2 rx ry q (hs _ _))
def AbC (K : PySem.W.Frag) : R2 := fun x y H Q => ∃ p xs i v, x = .ref p ∧ y = .int i ∧ SqL K H p xs ∧ atI xs i = some v ∧ Q v H
def AbE (K : PySem.W.Frag) : R2 := fun x y H Q => ∃ p xs i v, x = .ref p ∧ y = .int i ∧ SqT K H p xs ∧ atI xs i = some v ∧ Q v H
def Ab6 : R2 := fun x y H Q => ∃ z i c, x = .str z ∧ y = .int i ∧ z.length ≤ sizeLine ∧ atI z.cps.toList i = some c ∧ Q (.str ⟨#[c]⟩) H
theorem ix_list : IxR X (AbC X.K) := by
 intro value slice pins s σ H x y v u Q I rx ry h hs
 obtain ⟨p, xs, i, z, rfl, rfl, hq, he, q⟩ := h
 cases rx
 obtain ⟨t, rfl⟩ := ry
 obtain ⟨its, r, pl, hz⟩ := I.list hq
 obtain ⟨j, h1, h2, h3, h4, h5⟩ := AKT he
 obtain ⟨w, ew, rw'⟩ := r.get h2
 have hl := r.length
 have hn := AJR
 have fin : EP X pins σ Q w s := ⟨z, H, I, rw', q⟩
 by_cases h0 : 0 ≤ i
 ·have hj : i.toNat = j := by
   rw [seqIndex_of h0 h5] at h1
   exact Option.some.inj h1
  exact item_listR pl.isList h0 (by omega) (by rw [hj]; simpa using ew) fin hs
 ·have hj : (i + (its.toArray.size : Int)).toNat = j := by
   rw [seqIndex_neg (by omega) h4] at h1
   rw [List.size_toArray, ← hl]
   exact Option.some.inj h1
  exact subscriptTail_builtinR (x := w) pl.isList.typeIs slot_list_getitem.lookup
   (wpAny_getItem_list_neg (Q := fun r s' => r = w ∧ EP X pins σ Q r s') pl.isList (by omega) (by rw [List.size_toArray] <;> omega) (by omega) (by rw [hj]; simpa using ew) ⟨rfl, fin⟩) hs
theorem ix_tup : IxR X (AbE X.K) := by
 intro value slice pins s σ H x y v u Q I rx ry h hs
 obtain ⟨p, xs, i, z, rfl, rfl, hq, he, q⟩ := h
 cases rx
 obtain ⟨t, rfl⟩ := ry
 obtain ⟨its, r, pl, hz⟩ := I.tuple hq
 obtain ⟨j, h1, h2, h3, h4, h5⟩ := AKT he
 obtain ⟨w, ew, rw'⟩ := r.get h2
 have hl := r.length
 have hn := AJR
 have fin : EP X pins σ Q w s := ⟨z, H, I, rw', q⟩
 exact subscriptTail_builtinR (x := w) pl.typeIs slot_tuple_getitem.lookup
  (getItem_tuple (j := j) (Q := fun r s' => r = w ∧ EP X pins σ Q r s') pl (by omega) (by omega) (by rw [List.size_toArray, ← hl]; exact h1) (by simpa using ew) ⟨rfl, fin⟩) hs
theorem AX8 : IxR X Ab6 := by
 intro value slice pins s σ H x y v u Q I rx ry h hs
 obtain ⟨z, i, c, rfl, rfl, hz, he, q⟩ := h
 obtain ⟨t, rfl⟩ := rx
 obtain ⟨t', rfl⟩ := ry
 obtain ⟨j, h1, h2, h3, h4, h5⟩ := AKT he
 have hl : z.cps.toList.length = z.length := by simp [Str.length]
 rw [hl] at h1 h4 h5
 have hn := AJR
 exact tail_any (typeIs_str s z t) slot_str_getitem.lookup (getItem_str (c := c) (by
  have e1 : decide (i < -(2 ^ 63 : Int)) = false := decide_eq_false (by omega)
  have e2 : decide (i ≥ 2 ^ 63) = false := decide_eq_false (by omega)
  rw [e1, e2, Bool.or_false]) (by rw [h1]; simpa using h2) ⟨.str ⟨#[c]⟩, H, I.tok _, ⟨_, rfl⟩, q⟩) hs
def rIx (K : PySem.W.Frag) : R2 := fun x y H Q => AbC K x y H Q ∨ AbE K x y H Q ∨ Ab6 x y H Q
theorem AWB : IxR X (rIx X.K) := ix_list.or (ix_tup.or AX8)
theorem AJI (lo hi : Option Int) (n : Nat) : (sliceBounds lo hi none n).1 = ((HT.sIx n 0 lo : Nat) : Int) ∧ (sliceBounds lo hi none n).2.1 = ((HT.sIx n n hi : Nat) : Int) ∧ (sliceBounds lo hi none n).2.2 = 1 := by
 refine ⟨?_, ?_, rfl⟩
 ·cases lo with
  | none => simp [sliceBounds, HT.sIx]
  | some i =>
   simp only [sliceBounds, HT.sIx, Option.getD_none, show (1 : Int) > 0 by decide, if_true]
   by_cases h : i < 0
   ·simp only [h, if_true] <;> omega
   ·simp only [h, if_false] <;> omega
 ·cases hi with
  | none => simp [sliceBounds, HT.sIx]
  | some i =>
   simp only [sliceBounds, HT.sIx, Option.getD_none, show (1 : Int) > 0 by decide, if_true]
   by_cases h : i < 0
   ·simp only [h, if_true] <;> omega
   ·simp only [h, if_false] <;> omega
theorem AHV (its : List Value) (lo hi : Option Int) : slicePick its.toArray lo hi none = ((its.drop (HT.sIx its.length 0 lo)).take (HT.sIx its.length its.length hi - HT.sIx its.length 0 lo)).toArray := by
 obtain ⟨h1, h2, h3⟩ := AJI lo hi its.toArray.size
 unfold slicePick
 rw [h1, h2, h3]
 simp only [sliceRange_one, pick_run, List.size_toArray] <;> rfl
def AcO (K : PySem.W.Frag) : V → Option Int → Option Int → Hp → VK → Prop := fun x lo hi H Q => ∃ a xs, x = .ref a ∧ SqL K H a xs ∧ ∀ p, H p = none → Q (.ref p) (upd H p (.lst (AT4 xs lo hi)))
theorem AZG : SlR X (AcO X.K) := by
 intro pins s σ H x v vl vu lo hi sl Q I rx hs pl pu h
 obtain ⟨a, xs, rfl, hx, q⟩ := h
 cases rx
 obtain ⟨its, r, ht, hz⟩ := I.list hx
 have hlen := r.length
 refine ⟨"list", _, slot_list_getitem.lookup, ht.isList.typeIs, ?_⟩
 refine wpAny_getItem_list_slice ht.isList hs pl pu .none (by simp) ?_ (by rw [List.size_toArray] <;> omega)
 rw [AHV, ← hlen]
 refine ⟨.ref s.heap.objs.size, _, I.laid (t' := s.toks) (o := .lst (AT4 xs lo hi)) (fun b ob q => Heap.get?_push_of_some _ q) (Nat.le_refl _) ?_, rfl, q _ (I.hok.fresh (Nat.le_refl _))⟩
 exact ⟨Nat.le_trans (AFA xs lo hi) hz, _, 0, (r.drop (HT.sIx xs.length 0 lo)).take (HT.sIx xs.length xs.length hi - HT.sIx xs.length 0 lo), Heap.get?_push_size _ rfl⟩
theorem AH4 : AFX X (.type "tuple") (fun xs H Q => ∃ p ys, xs = [.ref p] ∧ ((SqL X.K H p ys ∧ ∀ l, H l = none → Q (.ref l) (upd H l (.tup ys))) ∨ (SqT X.K H p ys ∧ Q (.ref p) H))) := by
 intro pins s σ H xs us Q I r h
 obtain ⟨p, ys, rfl, h⟩ := h
 obtain ⟨u, rfl, rx⟩ := AR7 r
 cases rx
 rcases h with ⟨hq, q⟩ | ⟨hq, q⟩
 ·obtain ⟨its, r', pl, hz⟩ := I.list hq
  have hlen := r'.length
  refine call_tuple_list pl.isList (fun h' kp => ?_) (by simp only [List.size_toArray] <;> omega)
  have I1 : Inv X pins σ H { s with heap := h' } := I.kept (t' := s.toks) kp
  have I2 : Inv X pins σ (upd H h'.objs.size (.tup ys)) { s with heap := h'.push { cls := .type "tuple", data := .seq its.toArray } } :=
   I1.laid (t' := s.toks) (fun b o e => Heap.get?_push_of_some _ e) (Nat.le_refl _) (show ObjOk X.prog X.w _ _ _ (.tup ys) from ⟨hz, its, r', IsTup.new _ _⟩)
  exact ⟨.ref h'.objs.size, _, I2, rfl, q _ (I1.hok.fresh (Nat.le_refl _))⟩
 ·obtain ⟨its, r', pl, hz⟩ := I.tuple hq
  exact call_tuple_same pl ⟨.ref p, H, I, rfl, q⟩
def tyV (K : PySem.W.Frag) (T : String) (x : V) (H : Hp) : Prop := match x with
 | .str _ => T = "str"
 | .int _ => T = "int"
 | .ref p => (T = "list" ∧ ∃ xs, SqL K H p xs) ∨ (T = "tuple" ∧ ∃ o, K.lookup p = some o ∧ o.cls = .type "tuple" ∧ o.dict = none) ∨
   (T = "dict" ∧ ((∃ kvs, H p = some (.dK kvs)) ∨ ∃ kvs, H p = some (.dT kvs))) ∨ (T = "set" ∧ ∃ S n, H p = some (.set S n))
 | _ => False
theorem AYG {pins : List (Addr × Obj)} {σ : St} {H : Hp} {s : Shared} {T : String} {x : V} {v : Value} (I : Inv X pins σ H s) (r : RelV x v) (ty : tyV X.K T x H) :
  s.TypeIs v T ∧ ∀ a, v = .ref a → ∃ ob, s.heap.get? a = some ob ∧ ob.dict = none := by
 cases x with
 | str z =>
  obtain ⟨t, rfl⟩ := r
  cases (show T = "str" from ty)
  exact ⟨typeIs_str s z t, fun _ e => nomatch e⟩
 | int i =>
  obtain ⟨t, rfl⟩ := r
  cases (show T = "int" from ty)
  exact ⟨typeIs_int s i t, fun _ e => nomatch e⟩
 | ref p =>
  cases r
  rcases ty with ⟨rfl, xs, hq⟩ | ⟨rfl, o, hk, hc, hd⟩ | ⟨rfl, hk⟩ | ⟨rfl, S, n, hk⟩
  ·obtain ⟨its, _, pl, _⟩ := I.list hq
   refine ⟨pl.isList.typeIs, fun a e => ?_⟩
   cases e
   obtain ⟨o, n, e, c, hd, _⟩ := pl
   exact ⟨o, e, hd⟩
  ·refine ⟨⟨o, I.kIn p o hk, hc⟩, fun a e => ?_⟩
   cases e
   exact ⟨o, I.kIn _ o hk, hd⟩
  ·have z : ∃ o, s.heap.get? p = some o ∧ o.ExactDict := by
    rcases hk with ⟨kvs, hk⟩ | ⟨kvs, hk⟩
    ·obtain ⟨_, _, _, _, o, _, _, e, ex, _⟩ := I.hok p _ hk
     exact ⟨o, e, ex⟩
    ·obtain ⟨_, _, _, _, o, _, _, e, ex, _⟩ := I.hok p _ hk
     exact ⟨o, e, ex⟩
   obtain ⟨o, e, ex⟩ := z
   refine ⟨⟨o, e, ex.1⟩, fun a e2 => ?_⟩
   cases e2
   exact ⟨o, e, ex.2.1⟩
  ·obtain ⟨o, _, _, _, e, ex, _⟩ := I.hok p _ hk
   refine ⟨⟨o, e, ex.1⟩, fun a e2 => ?_⟩
   cases e2
   exact ⟨o, e, ex.2.1⟩
 | _ => exact False.elim ty
def tBM (K : PySem.W.Frag) (T : String) (r : V → List V → Hp → VK → Prop) (to : TE) (t : TA) : TE := fun σ H Q => to σ H fun x H1 => tyV K T x H1 ∧ t σ H1 fun xs H2 => r x xs H2 Q
variable {o e : Expr} {es : List Expr} {to : TE} {t : TA} {name : Str} {apos cpos : Pos} {T id : String} {r : V → List V → Hp → VK → Prop}
theorem AaR (pa : PlainAttrs T) (slot : Slot T name id) (hty : typeOf (.builtin id) = pure (.type "method_descriptor")) (hm : MtR X id r) (ho : PE X o to) (ha : PA X (e :: es) t)
  (hbase : attributeBase o name X.env (eval o X.env) = eval o X.env := by rfl)
  (hfew : ((backTo cpos (starEach (e :: es) X.env)).all (fun x => !x.1) && (backToKw cpos (keywordEach [] X.env)).all (fun x => x.1.isSome)
   && decide ((e :: es).length + ([] : List Keyword).length + (if ([] : List Keyword).isEmpty then 0 else 1) < 30)) = true := by rfl)
  (hline : (apos.endLine == cpos.line) = true := by rfl) (hs : starEach (e :: es) X.env = (false, eval e X.env) :: starEach es X.env := by rfl) (hplain : (backTo cpos (starEach es X.env)).any (·.1) = false := by rfl) :
  PE X (.Call (.Attribute o name apos) (e :: es) [] cpos) (tBM X.K T r to t) := by
 intro pins s σ H Q I h
 refine wpAny_Call_method_late hbase hfew hline rfl (thn (ho pins s σ H _ I h) fun v s1 ⟨x, H1, I1, r1, ty, q1⟩ => ?_)
 obtain ⟨h1, h2⟩ := AYG I1 r1 ty
 refine ⟨T, id, pa, slot, hty, h1, h2, ?_⟩
 have hA := ha cpos pins s1 σ H1 _ I1 q1
 rw [hs] at hA ⊢
 refine Calls.callWith_builtin (by show (false || (backTo cpos (starEach es X.env)).any (·.1)) = false; rw [hplain] <;> rfl) (Calls.evalArgs_plain ?_)
 exact thn hA fun us s2 ⟨vs, H2, I2, r2, q2⟩ => hm pins s2 σ H2 x vs v us Q I2 r1 r2 q2
end
def MtM (X : Cx) (id : String) (r : V → List V → Hp → VK → Prop) : Prop :=
 ∀ (pins : List (Addr × Obj)) (s : Shared) (σ : St) (H : Hp) (x : V) (xs : List V) (v : Value) (us : List Value) (Q : VK), Inv X pins σ H s → RelV x v → Vals xs us → r x xs H Q →
  wpAny (model X.prog X.w) X.A (call (.builtin id) (v :: us)) (EP X pins σ Q) X.xe s
theorem Vals.one : ∀ {x : V} {us : List Value}, Vals [x] us → ∃ u, us = [u] ∧ RelV x u
 | _, _, .cons r .nil => ⟨_, rfl, r⟩
theorem Vals.two : ∀ {x y : V} {us : List Value}, Vals [x, y] us → ∃ u v, us = [u, v] ∧ RelV x u ∧ RelV y v
 | _, _, _, .cons r (.cons q .nil) => ⟨_, _, rfl, r, q⟩
section
variable {X : Cx} {pins : List (Addr × Obj)} {σ : St} {H : Hp} {s : Shared} {l b : Addr} {xs ys zs : List V}
theorem Inv.lset {its its' : List Value} {n : Nat} {f : Array Value → Array Value} {t' : Nat} (I : Inv X pins σ H s) (hH : H l = some (.lst xs))
  (e : s.heap.get? l = some { cls := .type "list", data := .seq its.toArray n }) (hf : f its.toArray = its'.toArray) (hv : Vals ys its') (hz : ys.length ≤ sizeLine) :
  Inv X pins σ (upd H l (.lst ys)) { s with heap := s.heap.update l (Obj.mapSeq f), toks := t' } := by
 have q := PySem.IsL.update e f
 rw [hf] at q
 refine I.write (x := l) (e := l) (by rw [hH]; exact trivial) (.inl rfl) (fun b' u hb hu => (Heap.get?_update_other s.heap (Obj.mapSeq f) (Ne.symm hb)).trans hu) ⟨_, q⟩ ?_
 exact ⟨hz, its', _, hv, q⟩
theorem Inv.lnew {its : List Value} {t' : Nat} (I : Inv X pins σ H s) (hv : Vals ys its) (hz : ys.length ≤ sizeLine) :
  Inv X pins σ (upd H s.heap.objs.size (.lst ys)) { s with heap := s.heap.push { cls := .type "list", data := .seq its.toArray }, toks := t' } :=
 I.laid (fun _ _ q => Heap.get?_push_of_some _ q) (Nat.le_refl _) ⟨hz, its, 0, hv, Heap.get?_push_size _ rfl⟩
theorem Inv.fresh (I : Inv X pins σ H s) : H s.heap.objs.size = none := I.hok.fresh (Nat.le_refl _)
theorem Inv.lstM (I : Inv X pins σ H s) (hH : H l = some (.lst xs)) : xs.length ≤ sizeLine ∧ ∃ (its : List Value) (n : Nat), Vals xs its ∧ xs.length = its.length ∧ s.heap.get? l = some { cls := .type "list", data := .seq its.toArray n } := by
 obtain ⟨z, its, n, r, e⟩ := I.hok l _ hH
 exact ⟨z, its, n, r, r.length, e⟩
end
section
variable {X : Cx}
def ATU : V → List V → Hp → VK → Prop := fun x vs H Q => ∃ l xs y, x = .ref l ∧ vs = [y] ∧ H l = some (.lst xs) ∧ xs.length < sizeLine ∧ Q .non (upd H l (.lst (xs ++ [y])))
theorem AQ1 : MtM X "list.append" ATU := by
 intro pins s σ H x vs v us Q I rx rv h
 obtain ⟨l, xs, y, rfl, rfl, hH, hz, q⟩ := h
 cases rx
 obtain ⟨u, rfl, ru⟩ := rv.one
 obtain ⟨z, its, n, r, hl, e⟩ := I.lstM hH
 refine call_meets F.slot_list_append ⟨_, e, rfl⟩ F.entry_list_append (F.args_list_append_2 _ _) (PySem.list_append l its.toArray n u (by rw [List.size_toArray]; omega)) ⟨e, ?_⟩
 refine ⟨.non, _, I.lset (its' := its ++ [u]) hH e (by simp) (r.append (.cons ru .nil)) ?_, rfl, q⟩
 rw [List.length_append, List.length_singleton]
 omega
end
end L2
namespace Att
open PySem PySem.W PySem.Calls PyProof.Rows
theorem AEN {P : Params} {h : Heap} : ∀ (ns : List Int) (vs : List Value), WellAll P h vs (ns.map WData.int) → IntsAre vs ns := by
 intro ns
 induction ns with
 | nil =>
  intro vs w
  rw [List.map_nil] at w
  cases w
  exact .nil
 | cons n ns ih =>
  intro vs w
  rw [List.map_cons] at w
  cases w with
  | cons a b =>
   cases a
   exact .cons _ _ (ih _ b)
theorem AO6 {l : OpenLaw} {n : Nat} (hn : l.most = some n) {P : Params} {h : Heap} {args : List WData} {vals : List Value}
  (hpre : l.row.toRowW.claim.pre args = true) (hwl : WellAll P h vals args) :
  ∃ a vs ns, vals = [Value.ref a] ∧ args = [WData.list (ns.map WData.int)] ∧ h.get? a = some { cls := .type "list", data := .seq vs.toArray } ∧ IntsAre vs ns ∧ ns.length ≤ n := by
 have hsh : WShape.hasAll [] args [.list .int] = true := (pre_splitW hpre).1
 have hc : l.pre.holds [] { args := args } = true := (pre_splitW hpre).2
 obtain ⟨d, r, rfl, h1, h2⟩ := hasAllW_cons hsh
 obtain rfl := hasAllW_nil h2
 obtain ⟨xs, rfl, h3⟩ := hasW_list h1
 obtain ⟨ns, rfl⟩ := items_int h3
 have hlen : ns.length ≤ n := by
  unfold OpenLaw.pre at hc
  have h4 : (WTm.not (.lt (.lit (.int (n : Int))) (.len (.arg 0)))).holds [] { args := [.list (ns.map .int)] } = true := by
   have h4 := (holds_andW hc).1
   rw [hn] at h4
   exact h4
  have h5 := condW_of h4 (w_not (w_lt w_lit (w_len_list (w_arg rfl))))
  rw [List.length_map] at h5
  refine Nat.le_of_not_lt fun q => ?_
  have q' : (n : Int) < ((ns.length : Nat) : Int) := by omega
  first
   | (rw [decide_eq_true q'] at h5; exact absurd h5 (by decide))
   | (simp at h5; omega)
 cases hwl with
 | cons w1 w2 =>
  cases w2
  cases w1 with
  | list ho hall => exact ⟨_, _, ns, rfl, rfl, ho, AEN ns _ hall, hlen⟩
theorem APF (l : OpenLaw) (args : List WData) : l.row.toRowW.claim.post args (.bool true) args = true :=
 postW_of (r := l.row.toRowW) (X := (true == true))
  (show WShape.has [] (.bool true) .bool = true by first | rfl | decide | simp [WShape.has, WShape.arms, WShape.armsAll])
  (show (WTm.eq .res (.lit (.bool true))).value [] { args := args, res := some (.bool true), after := args } = some (.bool (true == true)) from w_eq_bool (w_res rfl) w_lit) rfl
theorem attach_call {l : OpenLaw} {n : Nat} {q : Program} {loose : List Str} {XP : (Str → Option Value) → Heap → Prop} {YP : World → Heap → Prop} {d : DefRec}
  (hn : l.most = some n) (hdf : d.params.defaults = [])
  (call : ∀ (w : World) (s₀ s₁ : Shared) (mg mb : Str → Option Value) (fa : Addr) (o : Obj) (pm cd doc : Value) (a : Addr) (vs : List Value) (ns : List Int),
   Ground q loose [] XP w s₀ mg mb s₁.heap → YP w s₁.heap →
   s₁.heap.get? fa = some o → o.data = .func (docDef d.name d.params d.body d.scope pm cd doc) → s₁.heap.CodeRec cd d.name → mg d.name = some (.ref fa) →
   s₁.heap.get? a = some { cls := .type "list", data := .seq vs.toArray } → IntsAre vs ns → ns.length ≤ n → s₁.gens = #[] →
   codeAny (model l.prog w) callerA (.call (.ref fa) ⟨[.ref a], []⟩) (fun r s' => r = .ok (.ret (.bool true)) ∧ OldK s₁.heap s'.heap ∧ s'.os = s₁.os ∧ AllBare s'.gens) s₁) :
  WalkO q loose XP YP l.row.toRowW d [] (fun f vs => PySem.call f vs) := by
 intro w s₀ s₁ mg mb G Y fa o pm cd doc dV kV ho hd hcd hD hmg hg args vals as hpre hlay hrd hwl hlo
 obtain rfl : dV = .none := Dflts.none hD hdf
 obtain rfl : kV = .none := Dflts.noKw hD
 obtain ⟨a, vs, ns, rfl, rfl, hobj, hints, hlen⟩ := AO6 hn hpre hwl
 refine enter_call (codeAny_mono (call w s₀ s₁ mg mb fa o pm cd doc a vs ns G Y ho (fd_plain hd) hcd hmg hobj hints hlen hg) fun r s' hq => ?_)
 obtain ⟨rfl, h2, h3, h4⟩ := hq
 exact ⟨.inl ⟨.bool true, .bool true, [], rfl, fun _ => rfl, .bool true, APF l _, fun _ => ⟨List.Pairwise.nil, fun _ hm => (nomatch hm)⟩⟩, h2, h3, h4⟩
end Att
namespace L2
open PySem PySem.Spec PyProof.Rows
theorem AHY : ∀ {vs : List Value} {ns : List Int}, IntsAre vs ns → Vals (ns.map V.int) vs
 | _, _, .nil => .nil
 | _, _, .cons n t h => .cons ⟨t, rfl⟩ (AHY h)
def Only (H : Hp) : Prop := ∀ b, H b = none ∨ ∃ o xs, H b = some (.frz o (.lst xs))
theorem ARQ {P : Program} {w : World} {K : PySem.W.Frag} {mg mb : Str → Option Value} {CX : CXT} {k : Nat} {fa a : Addr} {fd : FuncData} {x : Str} {sp : Sp} {s₁ : Shared} {vs : List Value} {ns : List Int}
  (KX : K.In s₁.heap) (hns : s₁.heap.Ns mainGlobals mg) (hb : s₁.heap.Ns builtinsNs mb) (hbb : ∀ x : Str, x ≠ "__name__" → mb x = bootBuiltins x) (hlim : s₁.heap.NoLimit) (hg : s₁.gens = #[])
  (ha : s₁.heap.get? a = some { cls := .type "list", data := .seq vs.toArray }) (hi : IntsAre vs ns) (hl : ns.length ≤ sizeLine) (hr : Room k callerA)
  (F : ∀ base : Heap, K.In base → base.Ns mainGlobals mg → FnOk P w K mg base CX k fa fd [x] sp) (hbind : ∀ (s : Shared) (u : Value), BindsTo s fd ⟨[u], []⟩ [(x, u)])
  (hsp : ∀ H : Hp, Only H → SqL K H a (ns.map V.int) → sp [.ref a] H (fun v _ => v = .bl true) fun _ _ _ => False)
  (hCX : ∀ H e s', CX [] H s₁ (fun _ _ _ => False) e s' → False) :
  codeAny (model P w) callerA (.call (.ref fa) ⟨[.ref a], []⟩) (fun r s' => r = .ok (.ret (.bool true)) ∧ OldK s₁.heap s'.heap ∧ s'.os = s₁.os ∧ AllBare s'.gens) s₁ := by
 have rv := AHY hi
 have lenV := hi.length
 have core : ∀ H : Hp, Only H → SqL K H a (ns.map V.int) → HOk P w H s₁.heap → (∀ b, H b ≠ none → b = a) → (H a ≠ none → K.lookup a = none) →
   codeAny (model P w) callerA (.call (.ref fa) ⟨[.ref a], []⟩) (fun r s' => r = .ok (.ret (.bool true)) ∧ OldK s₁.heap s'.heap ∧ s'.os = s₁.os ∧ AllBare s'.gens) s₁ := by
  intro H hO hS hok hA hK
  have base_of : ∀ {b : Addr} {o : Obj}, s₁.heap.get? b = some o → H b = none → (AQL s₁.heap H).get? b = some o := fun e n => ARB e n
  have noA : ∀ {b : Addr} {o : Obj} {es : Array DictEntry} {ep : Nat}, s₁.heap.get? b = some o → o.data = .dict es ep → H b = none := fun {b o es ep} e d => by
   cases q : H b with
   | none => rfl
   | some u =>
    have e' : b = a := hA b (by rw [q]; simp)
    subst e'
    rw [ha] at e; cases e
    have d' : Data.seq vs.toArray _ = Data.dict es ep := d
    cases d'
  have nsK : ∀ {b : Addr} {m : Str → Option Value}, s₁.heap.Ns b m → (AQL s₁.heap H).Ns b m := fun {b m} ⟨o, es, ep, e, d, r⟩ => ⟨o, es, ep, base_of e (noA e d), d, r⟩
  have hKb : K.In (AQL s₁.heap H) := fun b o e => base_of (KX b o e) (by
   cases q : H b with
   | none => rfl
   | some u =>
    have e' : b = a := hA b (by rw [q]; simp)
    subst e'
    rw [hK (by rw [q]; simp)] at e; cases e)
  have hM : Mod K mg (AQL s₁.heap H) := ⟨hKb, nsK hns, ⟨mb, nsK hb, hbb⟩, let ⟨mc, h1, h2⟩ := hlim; ⟨mc, nsK h1, h2⟩⟩
  have e0 : Env0 P w K mg (AQL s₁.heap H) callerA [] s₁ H := ⟨rfl, hM, fun b o e => AU1 e, Nat.le_of_eq (AQ0 _ _), trivial, fun b hb => absurd (show b ∈ ([] : List Addr) from hb) (by simp), hok, .of_eq hg⟩
  refine codeAny_mono ((F _ hKb (nsK hns)).run callerA [] s₁ H ⟨[.ref a], []⟩ [.ref a] [.ref a] _ _ hr e0 (hbind s₁ (.ref a)) (.cons rfl .nil) (hsp H hO hS)) fun r s' h => ?_
  cases r with
  | error e => exact (hCX H e s' h).elim
  | ok fl =>
   cases fl with
   | next => exact False.elim h
   | brk => exact False.elim h
   | cont => exact False.elim h
   | ret u =>
    obtain ⟨v, H', os, bare, un, hok', r', q⟩ := h
    have q' : v = .bl true := q
    subst q'
    obtain rfl : u = Value.bool true := r'
    refine ⟨rfl, OldK.of_keep fun b o e => ?_, os, bare⟩
    cases q : H b with
    | none => exact un.keep b o e q (by intro z; exact absurd (show b ∈ ([] : List Addr) from z) (by simp)) (by simp)
    | some u =>
     rcases hO b with z | ⟨ob, xs, z⟩
     ·rw [q] at z; cases z
     ·have z2 := un.frzs b ob _ z
      obtain ⟨e1, _⟩ := hok b _ z
      obtain ⟨e2, _⟩ := hok' b _ z2
      rw [e] at e1; cases e1
      exact e2
 cases hk : K.lookup a with
 | some o =>
  have e := KX a o hk
  rw [ha] at e
  cases e
  refine core (fun _ => none) (fun _ => .inl rfl) (.inr ⟨_, vs.toArray, _, hk, rfl, rfl, rfl, by rw [List.size_toArray, lenV]; exact hl, by simpa using rv⟩) (fun b u z => by have z' : (none : Option HO) = some u := z; cases z') (fun b z => absurd rfl z) fun z => absurd rfl z
 | none =>
  refine core (fun b => if b = a then some (.frz { cls := .type "list", data := .seq vs.toArray } (.lst (ns.map V.int))) else none) (fun b => ?_) (.inl (.inr ⟨{ cls := .type "list", data := .seq vs.toArray }, if_pos rfl⟩)) (fun b u z => ?_) (fun b z => ?_) fun _ => hk
  ·by_cases hb : b = a
   ·exact .inr ⟨_, _, if_pos hb⟩
   ·exact .inl (if_neg hb)
  ·by_cases hb : b = a
   ·have z' := (if_pos hb).symm.trans z
    cases z'
    subst hb
    exact ⟨ha, by rw [List.length_map]; exact hl, vs, _, rv, ha⟩
   ·have z' := (if_neg hb).symm.trans z
    cases z'
  ·by_cases hb : b = a
   ·exact hb
   ·exact absurd (if_neg hb) z
theorem walk_of {l : PySem.W.OpenLaw} {n k : Nat} {q : Program} {loose : List Str} {XP : (Str → Option Value) → Heap → Prop} {YP : World → Heap → Prop} {d : DefRec} {K : Params → PySem.W.Frag} {CX : World → CXT} {sp : World → Sp} {x : Str}
  (hn : l.most = some n) (hn2 : n ≤ sizeLine) (hdf : d.params.defaults = []) (hr : Room k callerA)
  (hY : ∀ (w : World) (h : Heap), YP w h → (K w.params).In h)
  (F : ∀ (w : World) (mg : Str → Option Value) (fa : Addr) (h : Heap), (K w.params).In h → h.Ns mainGlobals mg → mg d.name = some (.ref fa) →
   ∃ fd : FuncData, (∀ (s : Shared) (u : Value), BindsTo s fd ⟨[u], []⟩ [(x, u)]) ∧
    ∀ base : Heap, (K w.params).In base → base.Ns mainGlobals mg → FnOk l.prog w (K w.params) mg base (CX w) k fa fd [x] (sp w))
  (hsp : ∀ (w : World) (H : Hp) (a : Addr) (ns : List Int), ns.length ≤ n → Only H → SqL (K w.params) H a (ns.map V.int) → sp w [.ref a] H (fun v _ => v = .bl true) fun _ _ _ => False)
  (hCX : ∀ (w : World) (H : Hp) (s : Shared) (e : Value) (s' : Shared), CX w [] H s (fun _ _ _ => False) e s' → False) :
  PySem.W.WalkO q loose XP YP l.row.toRowW d [] (fun f vs => PySem.call f vs) := by
 refine Att.attach_call hn hdf fun w s₀ s₁ mg mb fa o pm cd doc a vs ns G Y ho hd hcd hmg hobj hints hlen hg => ?_
 have KX := hY w _ Y
 obtain ⟨fd, hb, hF⟩ := F w mg fa _ KX G.T.g hmg
 exact ARQ KX G.T.g G.T.b G.T.builtins G.T.nolimit hg hobj hints (Nat.le_trans hlen hn2) hr hF hb (fun H hO hS => hsp w H a ns hlen hO hS) fun H e s' => hCX w H s₁ e s'
def AC7 (s : Stmt) : Arguments := match s with
 | .FunctionDef _ a _ _ _ _ _ _ _ _ => a
 | _ => { posonlyargs := [], args := [], vararg := none, kwonlyargs := [], kw_defaults := [], kwarg := none, defaults := [] }
def B8 (s : Stmt) : List Stmt := match s with
 | .FunctionDef _ _ b _ _ _ _ _ _ _ => b
 | _ => []
def A6 (s : Stmt) : Scope := match s with
 | .FunctionDef _ _ _ _ _ _ sc _ _ _ => sc
 | _ => { kind := .function, names := [], isGenerator := false, isCoroutine := false }
abbrev CX0 : CXT := fun _ _ _ _ _ _ => False
abbrev E0 : XK := fun _ _ _ => False
structure Fun (K : PySem.W.Frag) (x qual : Str) (st : Stmt) (f : Addr) (fd : FuncData) : Prop where
 ex : ∃ (oc : Value) (od : Option Addr) (kV doc pm : Value) (an : Option Addr) (cdv ct : Value) (osl : Array (Option Value)),
  fd = PySem.W.fnOf x qual (AC7 st) (B8 st) (A6 st) .none kV doc pm an cdv ct ∧ K.lookup f = some ⟨oc, od, .func fd, osl⟩ ∧ PySem.W.codeIn K cdv qual = true
 kp : PySem.W.keepIn K (.ref f) = true
section
variable {P : Program} {w : World} {K : PySem.W.Frag} {mg : Str → Option Value} {base : Heap}
theorem Fun.binds {x qual : Str} {st : Stmt} {f : Addr} {fd : FuncData} {ps : List Str} (F : Fun K x qual st f fd)
  (h : ∀ (kV doc pm : Value) (an : Option Addr) (cdv ct : Value) (us : List Value), us.length = ps.length → bindArgs (PySem.W.fnOf x qual (AC7 st) (B8 st) (A6 st) .none kV doc pm an cdv ct) ⟨us, []⟩ = pure (ps.zip us)) : Binds K fd ps [] := by
 obtain ⟨oc, od, kV, doc, pm, an, cdv, ct, osl, rfl, lk, hcd⟩ := F.ex
 exact .all (h kV doc pm an cdv ct)
theorem D6 {x qual : Str} {st : Stmt} {f : Addr} {oc : Value} {od an : Option Addr} {osl : Array (Option Value)} {kV doc pm cdv ct : Value} (l : K.lookup f = some ⟨oc, od, .func (PySem.W.fnOf x qual (AC7 st) (B8 st) (A6 st) .none kV doc pm an cdv ct), osl⟩)
  (c : PySem.W.codeIn K cdv qual = true) (k : PySem.W.keepIn K (.ref f) = true) : Fun K x qual st f (PySem.W.fnOf x qual (AC7 st) (B8 st) (A6 st) .none kV doc pm an cdv ct) := ⟨⟨oc, od, kV, doc, pm, an, cdv, ct, osl, rfl, l, c⟩, k⟩
end
def Same (H H' : Hp) : Prop := ∀ b o, H b = some o → H' b = some o
theorem Same.refl (H : Hp) : Same H H := fun _ _ h => h
theorem Same.trans {H H1 H2 : Hp} (a : Same H H1) (b : Same H1 H2) : Same H H2 := fun c o h => b c o (a c o h)
end L2
end
section
namespace Tr
open PySem
abbrev T := PyData
inductive R (α : Type) where
 | ok (a : α)
 | ex (c : Str) (fs : List (Str × T))
 | bad
@[inline] def R.bind {α β : Type} (r : R α) (f : α → R β) : R β := match r with
 | .ok a => f a
 | .ex c fs => .ex c fs
 | .bad => .bad
def R.of {α : Type} : Option α → R α
 | some a => .ok a
 | none => .bad
abbrev Ev := List (Option T)
abbrev FE := Ev → R T
abbrev FT := Ev → R Bool
abbrev FA := Ev → R (List T)
abbrev FG := T → Ev → Option Ev
inductive SR where
 | nx (ρ : Ev)
 | rt (t : T)
 | bk (ρ : Ev)
 | ct (ρ : Ev)
 | ex (c : Str) (fs : List (Str × T))
 | bad
abbrev FS := Ev → SR
def A3 (i : Nat) : FE := fun ρ => match ρ[i]? with
 | some (some t) => .ok t
 | _ => .bad
def eC (t : T) : FE := fun _ => .ok t
def e1 (f : T → Option T) (a : FE) : FE := fun ρ => (a ρ).bind fun x => .of (f x)
def e2 (f : T → T → Option T) (a b : FE) : FE := fun ρ => (a ρ).bind fun x => (b ρ).bind fun y => .of (f x y)
def B2 : FA := fun _ => .ok []
def A0 (a : FE) (r : FA) : FA := fun ρ => (a ρ).bind fun x => (r ρ).bind fun xs => .ok (x :: xs)
def eN (f : List T → Option T) (a : FA) : FE := fun ρ => (a ρ).bind fun xs => .of (f xs)
def eF (f : List T → R T) (a : FA) : FE := fun ρ => (a ρ).bind f
def eIf (c : FT) (a b : FE) : FE := fun ρ => (c ρ).bind fun k => if k = true then a ρ else b ρ
def N8 : T → Option Bool
 | .none => some false
 | .bool b => some b
 | .int i => some (decide (i ≠ 0))
 | .str x => some (decide (x.length ≠ 0))
 | .list xs => some (!xs.isEmpty)
 | .tuple xs => some (!xs.isEmpty)
 | .dict _ => none
def bV (a : FE) : FT := fun ρ => (a ρ).bind fun x => .of (N8 x)
def x9 (a b : FT) : FT := fun ρ => (a ρ).bind fun k => if k = true then b ρ else .ok false
def bOr (a b : FT) : FT := fun ρ => (a ρ).bind fun k => if k = true then .ok true else b ρ
def Y3 (a : FT) : FT := fun ρ => (a ρ).bind fun k => .ok (!k)
def AAT (a b : FE) : FE := fun ρ => (a ρ).bind fun x => match x with
 | .bool true => b ρ
 | .bool false => .ok (.bool false)
 | _ => .bad
def eOr (a b : FE) : FE := fun ρ => (a ρ).bind fun x => match x with
 | .bool true => .ok (.bool true)
 | .bool false => b ρ
 | _ => .bad
def APZ (f g : T → T → Option T) (a b c : FE) : FE := fun ρ => (a ρ).bind fun x => (b ρ).bind fun y => (R.of (f x y)).bind fun z => match z with
 | .bool true => (c ρ).bind fun w => .of (g y w)
 | .bool false => .ok (.bool false)
 | _ => .bad
def C6 : FS := .nx
def C4 (s u : FS) : FS := fun ρ => match s ρ with
 | .nx ρ' => u ρ'
 | r => r
def M4 {α : Type} (r : R α) (f : α → SR) : SR := match r with
 | .ok a => f a
 | .ex c fs => .ex c fs
 | .bad => .bad
def sIf (c : FT) (s u : FS) : FS := fun ρ => M4 (c ρ) fun k => if k = true then s ρ else u ρ
def E7 (g : FG) (e : FE) : FS := fun ρ => M4 (e ρ) fun t => match g t ρ with
 | some ρ' => .nx ρ'
 | none => .bad
def G5 (e : FE) : FS := fun ρ => M4 (e ρ) .rt
def U4 : FS := fun _ => .rt .none
def ADQ (e : FE) : FS := fun ρ => M4 (e ρ) fun _ => .nx ρ
def K5 : FS := fun _ => .bad
def gName (i : Nat) : FG := fun t ρ => some (ρ.set i (some t))
def AMS : List FG → List T → Ev → Option Ev
 | [], [], ρ => some ρ
 | g :: gs, t :: ts, ρ => (g t ρ).bind fun ρ' => AMS gs ts ρ'
 | _, _, _ => none
def gTup (gs : List FG) : FG := fun t ρ => match t with
 | .tuple ts => AMS gs ts ρ
 | _ => none
def AHH (g : FG) (body : FS) : List T → Ev → SR
 | [], ρ => .nx ρ
 | t :: ts, ρ => match g t ρ with
  | none => .bad
  | some ρ1 => match body ρ1 with
   | .nx ρ2 => AHH g body ts ρ2
   | .ct ρ2 => AHH g body ts ρ2
   | .bk ρ2 => .nx ρ2
   | r => r
def L4 (c : FT) (body : FS) : Nat → Ev → Option SR
 | 0, _ => none
 | n + 1, ρ => match c ρ with
  | .ok true => match body ρ with
   | .nx ρ2 => L4 c body n ρ2
   | .ct ρ2 => L4 c body n ρ2
   | .bk ρ2 => some (.nx ρ2)
   | r => some r
  | .ok false => some (.nx ρ)
  | .ex c fs => some (.ex c fs)
  | .bad => some .bad
theorem ACE {c : FT} {b : FS} : ∀ {n : Nat} {ρ : Ev} {r : SR}, L4 c b n ρ = some r → L4 c b (n + 1) ρ = some r
 | 0, _, _, h => by simp [L4] at h
 | n + 1, ρ, r, h => by
  rw [L4] at h ⊢
  cases hc : c ρ with
  | ok k =>
   cases k with
   | true =>
    simp only [hc] at h ⊢
    cases hb : b ρ with
    | nx ρ2 => simp only [hb] at h ⊢; exact ACE h
    | ct ρ2 => simp only [hb] at h ⊢; exact ACE h
    | bk ρ2 => simp only [hb] at h ⊢; exact h
    | rt t => simp only [hb] at h ⊢; exact h
    | ex c fs => simp only [hb] at h ⊢; exact h
    | bad => simp only [hb] at h ⊢; exact h
   | false => simp only [hc] at h ⊢; exact h
  | ex c fs => simp only [hc] at h ⊢; exact h
  | bad => simp only [hc] at h ⊢; exact h
theorem AIN {c : FT} {b : FS} {ρ : Ev} {r : SR} {n m : Nat} (hnm : n ≤ m) (h : L4 c b n ρ = some r) : L4 c b m ρ = some r := by
 induction hnm with
 | refl => exact h
 | step _ ih => exact ACE ih
open Classical in
noncomputable def ABJ (c : FT) (b : FS) : FS := fun ρ => if h : ∃ r n, L4 c b n ρ = some r then Classical.choose h else .bad
theorem ADC {c : FT} {b : FS} {ρ : Ev} {r : SR} {n : Nat} (h : L4 c b n ρ = some r) : ABJ c b ρ = r := by
 have hh : ∃ r n, L4 c b n ρ = some r := ⟨r, n, h⟩
 unfold ABJ
 rw [dif_pos hh]
 obtain ⟨m, hm⟩ := Classical.choose_spec hh
 have h1 := AIN (Nat.le_max_left n m) h
 have h2 := AIN (Nat.le_max_right n m) hm
 rw [h1] at h2
 exact (Option.some.inj h2).symm
theorem AN9 {c : FT} {b : FS} {ρ : Ev} (h : ∀ r n, L4 c b n ρ ≠ some r) : ABJ c b ρ = .bad := by
 unfold ABJ
 rw [dif_neg (fun ⟨r, n, e⟩ => h r n e)]
def fin : SR → R T
 | .nx _ => .ok .none
 | .rt t => .ok t
 | .ex c fs => .ex c fs
 | _ => .bad
def O4 (n : Nat) (ts : List T) : Ev := ts.map some ++ List.replicate (n - ts.length) none
def run (n : Nat) (b : FS) (ts : List T) : R T := fin (b (O4 n ts))
def O6 (g : FG) (test : FT) (elt : FE) (ρ : Ev) : List T → R (List T)
 | [] => .ok []
 | t :: ts => match g t ρ with
  | none => .bad
  | some ρ1 => match test ρ1 with
   | .ok true => match elt ρ1 with
    | .ok x => (O6 g test elt ρ ts).bind fun xs => .ok (x :: xs)
    | _ => .bad
   | .ok false => O6 g test elt ρ ts
   | _ => .bad
end Tr
end
section
namespace Tr
open PySem hiding start
open PyProof.Rows hiding St
open L2 PySem.Spec
section
variable {α : Type} {P : List α → Prop}
theorem AWO (h : P []) : ∀ us : List α, us.length = 0 → P us
 | [], _ => h
theorem AJX {n : Nat} (h : ∀ a us, us.length = n → P (a :: us)) : ∀ us : List α, us.length = n + 1 → P us
 | a :: us, e => h a us (Nat.succ.inj e)
theorem AGT (h : ∀ a, P [a]) : ∀ us : List α, us.length = 1 → P us := AJX fun a => AWO (h a)
theorem AFR (h : ∀ a b, P [a, b]) : ∀ us : List α, us.length = 2 → P us := AJX fun a => AJX fun b => AWO (h a b)
theorem AZ6 (h : ∀ a b c, P [a, b, c]) : ∀ us : List α, us.length = 3 → P us := AJX fun a => AJX fun b => AJX fun c => AWO (h a b c)
theorem AZ8 (h : ∀ a b c d, P [a, b, c, d]) : ∀ us : List α, us.length = 4 → P us := AJX fun a => AJX fun b => AJX fun c => AJX fun d => AWO (h a b c d)
end
def okR {α : Type} : R α → Bool
 | .ex _ _ => false
 | _ => true
theorem AUL {r : R T} (k : okR r = true) {c : Str} {fs : List (Str × T)} (e : r = .ex c fs) : fs = [] := by
 rw [e] at k
 cases k
def AcI (C a : Addr) : HO := HO.ext fun h => ∃ oe vs, h.get? a = some oe ∧ oe.cls = .ref C ∧ oe.dict = none ∧ oe.data = .fields vs
def ANJ (K : PySem.W.Frag) (c : Str) (C : Addr) : Prop := PySem.W.nsIn K mainGlobals c = some (some (.ref C))
def AYH (K : PySem.W.Frag) (H : Hp) (kvs : List (PyData × PyData)) (v : V) : Prop :=
 (∃ c a C, kvs = [(.str c, .none)] ∧ v = .ref a ∧ ANJ K c C ∧ H a = some (AcI C a)) ∨ ∃ a : Nat, kvs = [(.int a, .none)] ∧ v = .ref a
mutual
def Rep (K : PySem.W.Frag) (H : Hp) : T → V → Prop
 | .none, v => v = .non
 | .bool b, v => v = .bl b
 | .int i, v => v = .int i
 | .str x, v => v = .str x ∧ x.length ≤ sizeLine
 | .list ts, v => ∃ a vs, v = .ref a ∧ SqL K H a vs ∧ RepL K H ts vs
 | .tuple ts, v => ∃ a vs, v = .ref a ∧ SqT K H a vs ∧ RepL K H ts vs
 | .dict kvs, v => AYH K H kvs v
def RepL (K : PySem.W.Frag) (H : Hp) : List T → List V → Prop
 | [], vs => vs = []
 | t :: ts, vs => ∃ v r, vs = v :: r ∧ Rep K H t v ∧ RepL K H ts r
end
theorem ANU {H H' : Hp} (e : Same H H') {a : Addr} {u : HO} (h : Rd H a u) : Rd H' a u := by
 rcases h with h | ⟨o, h⟩
 ·exact .inl (e _ _ h)
 ·exact .inr ⟨o, e _ _ h⟩
theorem d4 {K : PySem.W.Frag} {H H' : Hp} (e : Same H H') {a : Addr} {xs : List V} (h : SqL K H a xs) : SqL K H' a xs := by
 rcases h with h | h
 ·exact .inl (ANU e h)
 ·exact .inr h
theorem S1 {K : PySem.W.Frag} {H H' : Hp} (e : Same H H') {a : Addr} {xs : List V} (h : SqT K H a xs) : SqT K H' a xs := by
 rcases h with h | h
 ·exact .inl (ANU e h)
 ·exact .inr h
mutual
theorem Rep.mono {K : PySem.W.Frag} {H H' : Hp} (e : Same H H') : ∀ (t : T) (v : V), Rep K H t v → Rep K H' t v
 | .none, _, h => by unfold Rep at h ⊢; exact h
 | .bool _, _, h => by unfold Rep at h ⊢; exact h
 | .int _, _, h => by unfold Rep at h ⊢; exact h
 | .str _, _, h => by unfold Rep at h ⊢; exact h
 | .list ts, _, h => by
  unfold Rep at h ⊢
  obtain ⟨a, vs, r, q, l⟩ := h
  exact ⟨a, vs, r, d4 e q, RepL.mono e ts vs l⟩
 | .tuple ts, _, h => by
  unfold Rep at h ⊢
  obtain ⟨a, vs, r, q, l⟩ := h
  exact ⟨a, vs, r, S1 e q, RepL.mono e ts vs l⟩
 | .dict _, _, h => by
  unfold Rep at h ⊢
  rcases h with ⟨c, a, C, h1, h2, h3, h4⟩ | h
  ·exact .inl ⟨c, a, C, h1, h2, h3, e _ _ h4⟩
  ·exact .inr h
theorem RepL.mono {K : PySem.W.Frag} {H H' : Hp} (e : Same H H') : ∀ (ts : List T) (vs : List V), RepL K H ts vs → RepL K H' ts vs
 | [], _, h => by unfold RepL at h ⊢; exact h
 | t :: ts, _, h => by
  unfold RepL at h ⊢
  obtain ⟨v, r, h1, h2, h3⟩ := h
  exact ⟨v, r, h1, Rep.mono e t v h2, RepL.mono e ts r h3⟩
end
theorem RepL.length {K : PySem.W.Frag} {H : Hp} : ∀ {ts : List T} {vs : List V}, RepL K H ts vs → vs.length = ts.length
 | [], _, h => by unfold RepL at h; subst h; rfl
 | t :: ts, _, h => by
  unfold RepL at h
  obtain ⟨v, r, rfl, _, h3⟩ := h
  rw [List.length_cons, List.length_cons, RepL.length h3]
theorem RepL.get {K : PySem.W.Frag} {H : Hp} : ∀ {ts : List T} {vs : List V} {i : Nat} {t : T}, RepL K H ts vs → ts[i]? = some t → ∃ v, vs[i]? = some v ∧ Rep K H t v
 | [], _, _, _, _, e => by simp at e
 | x :: xs, _, 0, t, h, e => by
  unfold RepL at h
  obtain ⟨v, r, rfl, h2, _⟩ := h
  simp at e; subst e
  exact ⟨v, rfl, h2⟩
 | x :: xs, _, i + 1, t, h, e => by
  unfold RepL at h
  obtain ⟨v, r, rfl, _, h3⟩ := h
  obtain ⟨u, e1, e2⟩ := RepL.get (i := i) h3 (by simpa using e)
  exact ⟨u, by simpa using e1, e2⟩
theorem RepL.append {K : PySem.W.Frag} {H : Hp} : ∀ {ts us : List T} {vs ws : List V}, RepL K H ts vs → RepL K H us ws → RepL K H (ts ++ us) (vs ++ ws)
 | [], _, _, _, h, q => by unfold RepL at h; subst h; exact q
 | t :: ts, us, _, ws, h, q => by
  unfold RepL at h
  obtain ⟨v, r, rfl, h2, h3⟩ := h
  show RepL K H (t :: (ts ++ us)) (v :: (r ++ ws))
  unfold RepL
  exact ⟨v, r ++ ws, rfl, h2, RepL.append h3 q⟩
theorem G6 {K : PySem.W.Frag} {H : Hp} : RepL K H [] [] := by unfold RepL; rfl
theorem B7 {K : PySem.W.Frag} {H : Hp} {t : T} {v : V} {ts : List T} {vs : List V} (h : Rep K H t v) (q : RepL K H ts vs) : RepL K H (t :: ts) (v :: vs) := by
 unfold RepL; exact ⟨v, vs, rfl, h, q⟩
theorem D3 {K : PySem.W.Frag} {H : Hp} {i : Int} : Rep K H (.int i) (.int i) := by unfold Rep; rfl
theorem L7 {K : PySem.W.Frag} {H : Hp} {b : Bool} : Rep K H (.bool b) (.bl b) := by unfold Rep; rfl
theorem AH3 {K : PySem.W.Frag} {H : Hp} : Rep K H .none .non := by unfold Rep; rfl
theorem ADE {K : PySem.W.Frag} {H : Hp} {x : Str} (h : x.length ≤ sizeLine) : Rep K H (.str x) (.str x) := by unfold Rep; exact ⟨rfl, h⟩
def W0 (a : Nat) : T := .dict [(.int a, .none)]
theorem APT {K : PySem.W.Frag} {H : Hp} {a : Nat} {v : V} (h : Rep K H (W0 a) v) : v = .ref a := by
 unfold W0 Rep at h
 rcases h with ⟨c, a', C, h1, _⟩ | ⟨a', h1, h2⟩
 ·cases h1
 ·have h3 : (a : Int) = (a' : Int) := by injection h1 with h1 _; injection h1 with h1 _; injection h1
  have h4 : a = a' := Int.ofNat.inj h3
  rw [h4]; exact h2
theorem ARA {K : PySem.W.Frag} {H : Hp} {a : Nat} : Rep K H (W0 a) (.ref a) := by
 unfold W0 Rep
 exact .inr ⟨a, rfl, rfl⟩
structure RepEnv (K : PySem.W.Frag) (H : Hp) (ρ : Ev) (σ : St) : Prop where
 len : ρ.length = σ.length
 get : ∀ (i : Nat) (t : T), ρ[i]? = some (some t) → ∃ v, σ[i]? = some (some v) ∧ Rep K H t v
theorem RepEnv.mono {K : PySem.W.Frag} {H H' : Hp} (e : Same H H') {ρ : Ev} {σ : St} (h : RepEnv K H ρ σ) : RepEnv K H' ρ σ :=
 ⟨h.len, fun i t q => let ⟨v, e1, e2⟩ := h.get i t q; ⟨v, e1, Rep.mono e t v e2⟩⟩
theorem RepEnv.set {K : PySem.W.Frag} {H : Hp} {ρ : Ev} {σ : St} (h : RepEnv K H ρ σ) (i : Nat) {t : T} {v : V} (r : Rep K H t v) : RepEnv K H (ρ.set i (some t)) (σ.set i (some v)) := by
 refine ⟨by rw [List.length_set, List.length_set, h.len], fun j u q => ?_⟩
 by_cases hj : i = j
 ·subst hj
  by_cases hl : i < ρ.length
  ·rw [List.getElem?_set_self hl] at q
   have q' := Option.some.inj (Option.some.inj q)
   subst q'
   exact ⟨v, List.getElem?_set_self (by rw [← h.len]; exact hl), r⟩
  ·rw [List.getElem?_eq_none (by rw [List.length_set]; omega)] at q; cases q
 ·rw [List.getElem?_set_ne hj] at q ⊢
  exact h.get j u q
theorem AE1 {K : PySem.W.Frag} {H : Hp} {ts : List T} {vs : List V} (N : List Str) (h : RepL K H ts vs) : RepEnv K H (O4 N.length ts) (start N vs) := by
 have hl := h.length
 refine ⟨by unfold O4 start; simp only [List.length_append, List.length_map, List.length_replicate]; omega, fun i t q => ?_⟩
 unfold O4 at q
 by_cases hi : i < ts.length
 ·rw [List.getElem?_append_left (by simpa using hi), List.getElem?_map] at q
  cases e : ts[i]? with
  | none => rw [e] at q; cases q
  | some u =>
   rw [e] at q
   have q' : u = t := Option.some.inj (Option.some.inj q)
   subst q'
   obtain ⟨v, e1, e2⟩ := h.get e
   refine ⟨v, ?_, e2⟩
   unfold start
   rw [List.getElem?_append_left (by simp; omega), List.getElem?_map, e1]; rfl
 ·rw [List.getElem?_append_right (by simpa using hi), List.getElem?_replicate] at q
  split at q <;> cases q
abbrev EK := Str → List (Str × T) → Hp → Prop
def wR {α : Type} (Ek : EK) (H : Hp) (r : R α) (k : α → Prop) : Prop := match r with
 | .ok a => k a
 | .ex c fs => ∀ H', Same H H' → Ek c fs H'
 | .bad => False
theorem C7 {α β : Type} {Ek : EK} {H : Hp} {r : R α} {f : α → R β} {k : β → Prop} (h : wR Ek H (r.bind f) k) : wR Ek H r fun a => wR Ek H (f a) k := by
 cases r <;> exact h
theorem D0 {α : Type} {Ek : EK} {H H' : Hp} {r : R α} {k k' : α → Prop} (e : Same H H') (i : ∀ a, k a → k' a) (h : wR Ek H r k) : wR Ek H' r k' := by
 cases r with
 | ok a => exact i a h
 | ex c fs => exact fun H2 q => h H2 (e.trans q)
 | bad => exact h
theorem ACB {α : Type} {Ek : EK} {H : Hp} {o : Option α} {k : α → Prop} (h : wR Ek H (R.of o) k) : ∃ a, o = some a ∧ k a := by
 cases o with
 | none => exact h.elim
 | some a => exact ⟨a, rfl, h⟩
def lE (K : PySem.W.Frag) (Ek : EK) (t : FE) : TE := fun σ H Q => ∃ ρ, RepEnv K H ρ σ ∧ wR Ek H (t ρ) fun a => ∀ v H', Same H H' → Rep K H' a v → Q v H'
def lT (K : PySem.W.Frag) (Ek : EK) (t : FT) : TT := fun σ H Q => ∃ ρ, RepEnv K H ρ σ ∧ wR Ek H (t ρ) fun b => ∀ H', Same H H' → Q b H'
def lA (K : PySem.W.Frag) (Ek : EK) (t : FA) : TA := fun σ H Q => ∃ ρ, RepEnv K H ρ σ ∧ wR Ek H (t ρ) fun ts => ∀ vs H', Same H H' → RepL K H' ts vs → Q vs H'
def lSR (K : PySem.W.Frag) (Ek : EK) (D : Ends) (H : Hp) : SR → Prop
 | .nx ρ => ∀ σ H', Same H H' → RepEnv K H' ρ σ → D.nx σ H'
 | .rt a => ∀ v H', Same H H' → Rep K H' a v → D.rt v H'
 | .bk ρ => ∀ σ H', Same H H' → RepEnv K H' ρ σ → D.bk σ H'
 | .ct ρ => ∀ σ H', Same H H' → RepEnv K H' ρ σ → D.ct σ H'
 | .ex c fs => ∀ H', Same H H' → Ek c fs H'
 | .bad => False
def lS (K : PySem.W.Frag) (Ek : EK) (t : FS) : TS := fun D σ H => ∃ ρ, RepEnv K H ρ σ ∧ lSR K Ek D H (t ρ)
def lG (K : PySem.W.Frag) (g : FG) : TG := fun v σ H Q => ∃ t ρ ρ', Rep K H t v ∧ RepEnv K H ρ σ ∧ g t ρ = some ρ' ∧ ∀ σ', RepEnv K H ρ' σ' → Q σ' H
def lGs (K : PySem.W.Frag) (gs : List FG) : TGs := fun vs σ H Q => ∃ ts ρ ρ', RepL K H ts vs ∧ RepEnv K H ρ σ ∧ AMS gs ts ρ = some ρ' ∧ ∀ σ', RepEnv K H ρ' σ' → Q σ' H
theorem S0 {K : PySem.W.Frag} {Ek : EK} {D : Ends} {H H' : Hp} (e : Same H H') : ∀ {r : SR}, lSR K Ek D H r → lSR K Ek D H' r
 | .nx _, h => fun σ H2 q => h σ H2 (e.trans q)
 | .rt _, h => fun σ H2 q => h σ H2 (e.trans q)
 | .bk _, h => fun σ H2 q => h σ H2 (e.trans q)
 | .ct _, h => fun σ H2 q => h σ H2 (e.trans q)
 | .ex _ _, h => fun H2 q => h H2 (e.trans q)
 | .bad, h => h
theorem Z8 {α : Type} {K : PySem.W.Frag} {Ek : EK} {D : Ends} {H : Hp} {r : R α} {f : α → SR} (h : lSR K Ek D H (M4 r f)) : wR Ek H r fun a => lSR K Ek D H (f a) := by
 cases r <;> exact h
section
variable {X : Cx} {Ek : EK}
abbrev JE (X : Cx) (Ek : EK) (e : Expr) (t : FE) : Prop := PE X e (lE X.K Ek t)
abbrev JT (X : Cx) (Ek : EK) (e : Expr) (t : FT) : Prop := PT X e (lT X.K Ek t)
abbrev JW (X : Cx) (Ek : EK) (e : Expr) (t : FT) : Prop := PW X e (lT X.K Ek t)
abbrev JA (X : Cx) (Ek : EK) (es : List Expr) (t : FA) : Prop := PA X es (lA X.K Ek t)
abbrev JS (X : Cx) (Ek : EK) (s : Stmt) (t : FS) : Prop := PS X s (lS X.K Ek t)
abbrev JSs (X : Cx) (Ek : EK) (s : List Stmt) (t : FS) : Prop := PSs X s (lS X.K Ek t)
abbrev JG (X : Cx) (e : Expr) (g : FG) : Prop := PG X e (lG X.K g)
abbrev JGs (X : Cx) (es : List Expr) (gs : List FG) : Prop := PGs X es (lGs X.K gs)
theorem PE.weak {e : Expr} {t t' : TE} (h : PE X e t) (w : ∀ σ H Q, t' σ H Q → t σ H Q) : PE X e t' := fun pins s σ H Q I q => h pins s σ H Q I (w σ H Q q)
theorem PT.weak {e : Expr} {t t' : TT} (h : PT X e t) (w : ∀ σ H Q, t' σ H Q → t σ H Q) : PT X e t' := fun pins s σ H Q I q => h pins s σ H Q I (w σ H Q q)
theorem PW.weak {e : Expr} {t t' : TT} (h : PW X e t) (w : ∀ σ H Q, t' σ H Q → t σ H Q) : PW X e t' := fun wh pins s σ H Q I q => h wh pins s σ H Q I (w σ H Q q)
theorem PA.weak {e : List Expr} {t t' : TA} (h : PA X e t) (w : ∀ σ H Q, t' σ H Q → t σ H Q) : PA X e t' := fun pos pins s σ H Q I q => h pos pins s σ H Q I (w σ H Q q)
theorem PS.weak {e : Stmt} {t t' : TS} (h : PS X e t) (w : ∀ D σ H, t' D σ H → t D σ H) : PS X e t' := fun pins s σ H D I q => h pins s σ H D I (w D σ H q)
theorem PSs.weak {e : List Stmt} {t t' : TS} (h : PSs X e t) (w : ∀ D σ H, t' D σ H → t D σ H) : PSs X e t' := fun pins s σ H D I q => h pins s σ H D I (w D σ H q)
theorem PG.weak {e : Expr} {t t' : TG} (h : PG X e t) (w : ∀ v σ H Q, t' v σ H Q → t v σ H Q) : PG X e t' := fun pins s σ H v u Q I r q => h pins s σ H v u Q I r (w v σ H Q q)
theorem PGs.weak {e : List Expr} {t t' : TGs} (h : PGs X e t) (w : ∀ v σ H Q, t' v σ H Q → t v σ H Q) : PGs X e t' := fun pins s σ H v u Q I r q => h pins s σ H v u Q I r (w v σ H Q q)
theorem AY1 (i : Nat) {x : Str} {pos : Pos} (hN : X.N[i]? = some x) (hv : Vis X.env.scope x) (hd : (x == ("__debug__" : Str)) = false) (hcd : (x == ("__classdict__" : Str)) = false) : JE X Ek (.Name x pos) (A3 i) := by
 refine PE.weak (ASU hN hv hd hcd) fun σ H Q h => ?_
 obtain ⟨ρ, r, h⟩ := h
 unfold A3 at h
 cases e : ρ[i]? with
 | none => rw [e] at h; exact h.elim
 | some o =>
  rw [e] at h
  cases o with
  | none => exact h.elim
  | some t =>
   obtain ⟨v, e1, e2⟩ := r.get i t e
   exact ⟨v, e1, h v H (Same.refl H) e2⟩
theorem AD7 {t : T} {v : V} (hr : ∀ H, Rep X.K H t v) : ∀ (σ : St) (H : Hp) (Q : VK), lE X.K Ek (eC t) σ H Q → tC v σ H Q := fun σ H Q h => by
 obtain ⟨ρ, r, h⟩ := h
 exact h v H (Same.refl H) (hr H)
theorem A7 {i j pos} : JE X Ek (.Constant (.int i) j pos) (eC (.int i)) := PE.weak AWN (AD7 fun _ => D3)
theorem L3 {b j pos} : JE X Ek (.Constant (.bool b) j pos) (eC (.bool b)) := PE.weak AZY (AD7 fun _ => L7)
theorem i9 {j pos} : JE X Ek (.Constant .none j pos) (eC .none) := PE.weak AXA (AD7 fun _ => AH3)
theorem AAA {x j pos} (h : x.length ≤ sizeLine) : JE X Ek (.Constant (.str x) j pos) (eC (.str x)) := PE.weak AXQ (AD7 fun _ => ADE h)
theorem ATS {x : Str} {t : T} {v : V} {u : Value} {pos : Pos} (hg : Gl X x) (hm : X.mg x = some u) (r : RelV v u) (hr : ∀ H, Rep X.K H t v) (hd : (x == ("__debug__" : Str)) = false) : JE X Ek (.Name x pos) (eC t) :=
 PE.weak (AVF hg hm r hd) (AD7 hr)
def ACL (K : PySem.W.Frag) (r : R2) (f : T → T → Option T) : Prop := ∀ (x y : V) (tx ty a : T) (H : Hp) (Q : VK), Rep K H tx x → Rep K H ty y → f tx ty = some a → (∀ v H', Same H H' → Rep K H' a v → Q v H') → r x y H Q
def AbH (K : PySem.W.Frag) (r : V → Hp → VK → Prop) (f : T → Option T) : Prop := ∀ (x : V) (tx a : T) (H : Hp) (Q : VK), Rep K H tx x → f tx = some a → (∀ v H', Same H H' → Rep K H' a v → Q v H') → r x H Q
def ASP (K : PySem.W.Frag) (r : List V → Hp → VK → Prop) (f : List T → Option T) : Prop := ∀ (xs : List V) (ts : List T) (a : T) (H : Hp) (Q : VK), RepL K H ts xs → f ts = some a → (∀ v H', Same H H' → Rep K H' a v → Q v H') → r xs H Q
theorem ALF {K : PySem.W.Frag} {r : R2} {f : T → T → Option T} (hr : ACL K r f) {ta tb : FE} (σ : St) (H : Hp) (Q : VK) (h : lE K Ek (e2 f ta tb) σ H Q) : tOp r (lE K Ek ta) (lE K Ek tb) σ H Q := by
 obtain ⟨ρ, R, h⟩ := h
 refine ⟨ρ, R, D0 (Same.refl H) (fun x hx => ?_) (C7 h)⟩
 intro v H1 s1 rx
 refine ⟨ρ, R.mono s1, D0 s1 (fun y hy => ?_) (C7 hx)⟩
 intro u H2 s2 ry
 obtain ⟨a, ha, q⟩ := ACB hy
 exact hr v u x y a H2 Q (Rep.mono s2 x v rx) ry ha fun w' H3 s3 => q w' H3 (s1.trans (s2.trans s3))
theorem B5 {op : Operator} {r : R2} {f : T → T → Option T} {a b : Expr} {ta tb : FE} {pos : Pos} (ho : OpR X (binaryOp op) r) (hr : ACL X.K r f) (ha : JE X Ek a ta) (hb : JE X Ek b tb) : JE X Ek (.BinOp a op b pos) (e2 f ta tb) :=
 PE.weak (AaK ho ha hb) (ALF hr)
theorem x2 {op : CmpOp} {r : R2} {f : T → T → Option T} {a b : Expr} {ta tb : FE} {pos : Pos} (ho : OpR X (compareOp op) r) (hr : ACL X.K r f) (ha : JE X Ek a ta) (hb : JE X Ek b tb) (hm : behindInMarks op b = false) : JE X Ek (.Compare a [op] [b] pos) (e2 f ta tb) :=
 PE.weak (AV2 ho ha hb hm) (ALF hr)
theorem J4 {op : CmpOp} {r : R2} {f : T → T → Option T} {a b : Expr} {ta tb : FE} {pos : Pos} (ho : OpR X (compareOp op) r) (hr : ACL X.K r f) (hf : ∀ x y c, f x y = some c → ∃ k, c = .bool k) (ha : JE X Ek a ta) (hb : JE X Ek b tb) (hm : behindInMarks op b = false) : JT X Ek (.Compare a [op] [b] pos) (bV (e2 f ta tb)) := by
 refine PT.weak (AV9 ho ha hb hm) fun σ H Q h => ?_
 obtain ⟨ρ, R, h⟩ := h
 refine ALF (Ek := Ek) hr σ H _ ⟨ρ, R, ?_⟩
 have h' := C7 h
 cases e : e2 f ta tb ρ with
 | bad => rw [e] at h'; exact h'
 | ex c fs => rw [e] at h'; exact h'
 | ok c =>
  rw [e] at h'
  have hb : ∃ k, c = .bool k := by
   unfold e2 at e
   cases e1 : ta ρ with
   | bad => rw [e1] at e; cases e
   | ex c fs => rw [e1] at e; cases e
   | ok x =>
    rw [e1] at e
    cases e2 : tb ρ with
    | bad => rw [e2] at e; cases e
    | ex c fs => rw [e2] at e; cases e
    | ok y =>
     rw [e2] at e
     cases e3 : f x y with
     | none =>
      have e' : Tr.R.of (f x y) = Tr.R.ok c := e
      rw [e3] at e'; cases e'
     | some d =>
      have e' : Tr.R.of (f x y) = Tr.R.ok c := e
      rw [e3] at e'
      have e'' : d = c := by cases e'; rfl
      subst e''
      exact hf x y d e3
  obtain ⟨k, rfl⟩ := hb
  intro v H1 s1 rv
  unfold Rep at rv
  subst rv
  have h2 : ∀ H', Same H H' → Q k H' := h'
  exact ⟨k, rfl, h2 H1 s1⟩
theorem AHN {op : UnaryOp} {r : V → Hp → VK → Prop} {f : T → Option T} {a : Expr} {ta : FE} {pos : Pos} (ho : UnR X (unaryOp op) r) (hr : AbH X.K r f) (ha : JE X Ek a ta) : JE X Ek (.UnaryOp op a pos) (e1 f ta) := by
 refine PE.weak (AaJ ho ha) fun σ H Q h => ?_
 obtain ⟨ρ, R, h⟩ := h
 refine ⟨ρ, R, D0 (Same.refl H) (fun x hx => ?_) (C7 h)⟩
 intro v H1 s1 rx
 obtain ⟨a, ha, q⟩ := ACB hx
 exact hr v x a H1 Q rx ha fun w' H3 s3 => q w' H3 (s1.trans s3)
theorem w5 : JA X Ek [] B2 := PA.weak AM1 fun σ H Q h => by
 obtain ⟨ρ, R, h⟩ := h
 exact h [] H (Same.refl H) G6
theorem C3 {e : Expr} {es : List Expr} {t : FE} {ts : FA} (ha : JE X Ek e t) (hr : JA X Ek es ts) (hs : starEach (e :: es) X.env = (false, eval e X.env) :: starEach es X.env) : JA X Ek (e :: es) (A0 t ts) := by
 refine PA.weak (AHB ha hr hs) fun σ H Q h => ?_
 obtain ⟨ρ, R, h⟩ := h
 refine ⟨ρ, R, D0 (Same.refl H) (fun x hx => ?_) (C7 h)⟩
 intro v H1 s1 rx
 refine ⟨ρ, R.mono s1, D0 s1 (fun y hy => ?_) (C7 hx)⟩
 intro vs H2 s2 ry
 exact hy (v :: vs) H2 (s1.trans s2) (B7 (Rep.mono s2 x v rx) ry)
end
section
variable {X : Cx} {Ek : EK}
theorem E6 {H : Hp} {p : Addr} (h : H p = none) (o : HO) : Same H (upd H p o) := fun b u q => by rw [C0 (G9 q h)]; exact q
def O5 (n : Nat) : Bool := decide (n ≤ 1000)
theorem AEE {n : Nat} (h : O5 n = true) : n ≤ sizeLine := Nat.le_trans (of_decide_eq_true h) (by decide)
def J3 (a : FA) : FE := fun ρ => (a ρ).bind fun xs => if O5 xs.length then .ok (.tuple xs) else .bad
def ABC (a : FA) : FE := fun ρ => (a ρ).bind fun xs => if O5 xs.length then .ok (.list xs) else .bad
theorem O2 {es : List Expr} {k : Nat} {t : FA} {pos : Pos} (h : JA X Ek es t) : JE X Ek (.Tuple es k pos) (J3 t) := by
 refine PE.weak (AXC h) fun σ H Q h => ?_
 obtain ⟨ρ, R, h⟩ := h
 refine ⟨ρ, R, D0 (Same.refl H) (fun xs hx => ?_) (C7 h)⟩
 intro vs H1 s1 rx
 by_cases hs : O5 xs.length = true
 ·rw [if_pos hs] at hx
  have hx' : ∀ v H', Same H H' → Rep X.K H' (.tuple xs) v → Q v H' := hx
  refine ⟨by rw [rx.length]; exact AEE hs, fun p hp => hx' _ _ (s1.trans (E6 hp _)) ?_⟩
  unfold Rep
  exact ⟨p, vs, rfl, SqT.of D9, RepL.mono (E6 hp _) xs vs rx⟩
 ·rw [if_neg hs] at hx; exact hx.elim
theorem AG6 {es : List Expr} {t : FA} {pos : Pos} (h : JA X Ek es t) : JE X Ek (.List es pos) (ABC t) := by
 refine PE.weak (ASW h) fun σ H Q h => ?_
 obtain ⟨ρ, R, h⟩ := h
 refine ⟨ρ, R, D0 (Same.refl H) (fun xs hx => ?_) (C7 h)⟩
 intro vs H1 s1 rx
 by_cases hs : O5 xs.length = true
 ·rw [if_pos hs] at hx
  have hx' : ∀ v H', Same H H' → Rep X.K H' (.list xs) v → Q v H' := hx
  refine ⟨by rw [rx.length]; exact AEE hs, fun p hp => hx' _ _ (s1.trans (E6 hp _)) ?_⟩
  unfold Rep
  exact ⟨p, vs, rfl, SqL.of D9, RepL.mono (E6 hp _) xs vs rx⟩
 ·rw [if_neg hs] at hx; exact hx.elim
theorem ATY {K : PySem.W.Frag} {H : Hp} : ∀ {t : T} {v : V} {k : Bool}, Rep K H t v → N8 t = some k → AaG K v H k
 | .none, v, k, r, e => by unfold Rep at r; subst r; cases e; rfl
 | .bool b, v, k, r, e => by unfold Rep at r; subst r; cases e; rfl
 | .int i, v, k, r, e => by
  unfold Rep at r; subst r
  have e' : decide (i ≠ 0) = k := Option.some.inj e
  show k = (i != 0)
  rw [← e']
  by_cases h : i = 0 <;> simp [h]
 | .str x, v, k, r, e => by
  unfold Rep at r; obtain ⟨rfl, hz⟩ := r
  have e' : decide (x.length ≠ 0) = k := Option.some.inj e
  refine ⟨hz, ?_⟩
  rw [← e']
  by_cases h : x.length = 0
  ·simp [h]
  ·have h2 : ((x.length : Nat) : Int) ≠ 0 := by omega
   rw [decide_eq_true h]
   exact (bne_iff_ne.mpr h2).symm
 | .list ts, v, k, r, e => by
  unfold Rep at r; obtain ⟨a, vs, rfl, q, l⟩ := r
  have e' : (!ts.isEmpty) = k := Option.some.inj e
  refine .inl ⟨vs, q, ?_⟩
  rw [← e']
  have hl := l.length
  cases ts <;> cases vs <;> first | rfl | simp at hl
 | .tuple ts, v, k, r, e => by
  unfold Rep at r; obtain ⟨a, vs, rfl, q, l⟩ := r
  have e' : (!ts.isEmpty) = k := Option.some.inj e
  refine .inr (.inl ⟨vs, q, ?_⟩)
  rw [← e']
  have hl := l.length
  cases ts <;> cases vs <;> first | rfl | simp at hl
 | .dict _, _, _, _, e => by cases e
theorem D5 {a : Expr} {t : FE} (ha : JE X Ek a t) (he : ∀ whole, isTrue a X.env whole = (do let v ← whole; standAt a.pos; holding [v] (truthy v))) : JT X Ek a (bV t) := by
 refine PT.weak (ARU ha he) fun σ H Q h => ?_
 obtain ⟨ρ, R, h⟩ := h
 refine ⟨ρ, R, D0 (Same.refl H) (fun x hx => ?_) (C7 h)⟩
 intro v H1 s1 rx
 obtain ⟨k, hk, q⟩ := ACB hx
 exact ⟨k, ATY rx hk, q H1 s1⟩
theorem AJF {e : Expr} {t : FT} (h : JW X Ek e t) : JT X Ek e t := PW.pt h
theorem ADG {a : Expr} {t : FT} {pos : Pos} (h : JT X Ek a t) : JW X Ek (.BoolOp .And [a] pos) t := AUE h
theorem ABO {a : Expr} {t : FT} {pos : Pos} (h : JT X Ek a t) : JW X Ek (.BoolOp .Or [a] pos) t := AXW h
theorem AGM {a b : Expr} {R4 : List Expr} {t u : FT} {pos : Pos} (h1 : JT X Ek a t) (h2 : JW X Ek (.BoolOp .And (b :: R4) pos) u) : JW X Ek (.BoolOp .And (a :: b :: R4) pos) (x9 t u) := by
 refine PW.weak (AX1 h1 h2) fun σ H Q h => ?_
 obtain ⟨ρ, R, h⟩ := h
 refine ⟨ρ, R, D0 (Same.refl H) (fun k hk => ?_) (C7 h)⟩
 intro H1 s1
 cases k with
 | true => exact ⟨ρ, R.mono s1, D0 s1 (fun b hb H2 s2 => hb H2 (s1.trans s2)) hk⟩
 | false => exact hk H1 s1
theorem ADP {a b : Expr} {R4 : List Expr} {t u : FT} {pos : Pos} (h1 : JT X Ek a t) (h2 : JW X Ek (.BoolOp .Or (b :: R4) pos) u) : JW X Ek (.BoolOp .Or (a :: b :: R4) pos) (bOr t u) := by
 refine PW.weak (AaF h1 h2) fun σ H Q h => ?_
 obtain ⟨ρ, R, h⟩ := h
 refine ⟨ρ, R, D0 (Same.refl H) (fun k hk => ?_) (C7 h)⟩
 intro H1 s1
 cases k with
 | false => exact ⟨ρ, R.mono s1, D0 s1 (fun b hb H2 s2 => hb H2 (s1.trans s2)) hk⟩
 | true => exact hk H1 s1
theorem W8 {a : Expr} {t : FT} {pos : Pos} (h1 : JT X Ek a t) : JT X Ek (.UnaryOp .Not a pos) (Y3 t) := by
 refine PT.weak (AXI h1) fun σ H Q h => ?_
 obtain ⟨ρ, R, h⟩ := h
 exact ⟨ρ, R, D0 (Same.refl H) (fun k hk H1 s1 => hk H1 s1) (C7 h)⟩
theorem ACK {c a b : Expr} {tc : FT} {ta tb : FE} {pos : Pos} (hc : JT X Ek c tc) (ha : JE X Ek a ta) (hb : JE X Ek b tb) : JE X Ek (.IfExp c a b pos) (eIf tc ta tb) := by
 refine PE.weak (AQQ hc ha hb) fun σ H Q h => ?_
 obtain ⟨ρ, R, h⟩ := h
 refine ⟨ρ, R, D0 (Same.refl H) (fun k hk => ?_) (C7 h)⟩
 intro H1 s1
 cases k with
 | true => exact ⟨ρ, R.mono s1, D0 s1 (fun x hx v H2 s2 => hx v H2 (s1.trans s2)) hk⟩
 | false => exact ⟨ρ, R.mono s1, D0 s1 (fun x hx v H2 s2 => hx v H2 (s1.trans s2)) hk⟩
theorem AES {op} {a : Expr} {t : FE} {pos : Pos} (h : JE X Ek a t) : JE X Ek (.BoolOp op [a] pos) t := AXB h
theorem AF4 {a b : Expr} {R4 : List Expr} {t u : FE} {pos : Pos} (h1 : JE X Ek a t) (h2 : JE X Ek (.BoolOp .And (b :: R4) pos) u) : JE X Ek (.BoolOp .And (a :: b :: R4) pos) (AAT t u) := by
 refine PE.weak (AWS h1 h2) fun σ H Q h => ?_
 obtain ⟨ρ, R, h⟩ := h
 refine ⟨ρ, R, D0 (Same.refl H) (fun x hx => ?_) (C7 h)⟩
 intro v H1 s1 rx
 cases x with
 | bool k =>
  unfold Rep at rx; subst rx
  refine ⟨k, rfl, ?_⟩
  cases k with
  | true => exact ⟨ρ, R.mono s1, D0 s1 (fun x hx v H2 s2 => hx v H2 (s1.trans s2)) hx⟩
  | false => exact hx _ H1 s1 L7
 | _ => exact hx.elim
theorem AZI {a b : Expr} {R4 : List Expr} {t u : FE} {pos : Pos} (h1 : JE X Ek a t) (h2 : JE X Ek (.BoolOp .Or (b :: R4) pos) u) : JE X Ek (.BoolOp .Or (a :: b :: R4) pos) (eOr t u) := by
 refine PE.weak (AaM h1 h2) fun σ H Q h => ?_
 obtain ⟨ρ, R, h⟩ := h
 refine ⟨ρ, R, D0 (Same.refl H) (fun x hx => ?_) (C7 h)⟩
 intro v H1 s1 rx
 cases x with
 | bool k =>
  unfold Rep at rx; subst rx
  refine ⟨k, rfl, ?_⟩
  cases k with
  | false => exact ⟨ρ, R.mono s1, D0 s1 (fun x hx v H2 s2 => hx v H2 (s1.trans s2)) hx⟩
  | true => exact hx _ H1 s1 L7
 | _ => exact hx.elim
def AbG : T → Option T
 | .bool b => some (.bool (!b))
 | _ => none
theorem AXR {a : Expr} {t : FE} {pos : Pos} (h1 : JE X Ek a t) : JE X Ek (.UnaryOp .Not a pos) (e1 AbG t) := by
 refine PE.weak (AYM h1) fun σ H Q h => ?_
 obtain ⟨ρ, R, h⟩ := h
 refine ⟨ρ, R, D0 (Same.refl H) (fun x hx => ?_) (C7 h)⟩
 intro v H1 s1 rx
 obtain ⟨a, ha, q⟩ := ACB hx
 cases x with
 | bool k =>
  unfold Rep at rx; subst rx
  cases ha
  exact ⟨k, rfl, q _ H1 s1 L7⟩
 | _ => cases ha
theorem AaX {K : PySem.W.Frag} {r : List V → Hp → VK → Prop} {f : List T → Option T} (hr : ASP K r f) {ta : FA} (σ : St) (H : Hp) (Q : VK) (h : lE K Ek (eN f ta) σ H Q) : tCB r (lA K Ek ta) σ H Q := by
 obtain ⟨ρ, R, h⟩ := h
 refine ⟨ρ, R, D0 (Same.refl H) (fun x hx => ?_) (C7 h)⟩
 intro v H1 s1 rx
 obtain ⟨a, ha, q⟩ := ACB hx
 exact hr v x a H1 Q rx ha fun w' H3 s3 => q w' H3 (s1.trans s3)
def spM (K : PySem.W.Frag) (n : Nat) (m : List T → R T) : Sp := fun vs H Q E => ∃ ts, RepL K H ts vs ∧ ts.length = n ∧ match m ts with
 | .ok a => ∀ v H', Same H H' → Rep K H' a v → Q v H'
 | .ex c _ => ∀ H' C, Same H H' → ANJ K c C → E (.ref C) none H'
 | .bad => False
def AX7 (K : PySem.W.Frag) (Ek : EK) : XK := fun cv dx H => ∃ c C, cv = .ref C ∧ dx = none ∧ ANJ K c C ∧ Ek c [] H
def A5 (n : Nat) (ds : List T) (m : List T → R T) : List T → R T := fun ts => if ts.length + ds.length = n then m (ts ++ ds) else .bad
theorem Ac3 {K : PySem.W.Frag} {n : Nat} {m : List T → R T} {ds : List T} {dvs : List V} (hd : ∀ H, RepL K H ds dvs) (hex : ∀ ts c fs, m ts = .ex c fs → fs = []) {ta : FA} (σ : St) (H : Hp) (Q : VK) (h : lE K Ek (eF (A5 n ds m) ta) σ H Q) : AYF (spM K n m) dvs (AX7 K Ek) (lA K Ek ta) σ H Q := by
 obtain ⟨ρ, R, h⟩ := h
 refine ⟨ρ, R, D0 (Same.refl H) (fun x hx => ?_) (C7 h)⟩
 intro v H1 s1 rx
 unfold A5 at hx
 by_cases hl : x.length + ds.length = n
 ·rw [if_pos hl] at hx
  refine ⟨x ++ ds, rx.append (hd H1), by rw [List.length_append]; exact hl, ?_⟩
  cases e : m (x ++ ds) with
  | ok a => rw [e] at hx; exact fun w' H3 s3 => hx w' H3 (s1.trans s3)
  | bad => rw [e] at hx; exact hx
  | ex c fs =>
   rw [e] at hx
   have hf := hex _ _ _ e
   subst hf
   exact fun H' C s3 hC => ⟨c, C, rfl, rfl, hC, hx H' (s1.trans s3)⟩
 ·rw [if_neg hl] at hx; exact hx.elim
theorem D8 : JSs X Ek [] C6 := PSs.weak ATX fun D σ H h => by
 obtain ⟨ρ, R, h⟩ := h
 exact h σ H (Same.refl H) R
theorem A4 {st : Stmt} {R4 : List Stmt} {t u : FS} (h1 : JS X Ek st t) (h2 : JSs X Ek R4 u) : JSs X Ek (st :: R4) (C4 t u) := by
 refine PSs.weak (AE9 h1 h2) fun D σ H h => ?_
 obtain ⟨ρ, R, h⟩ := h
 refine ⟨ρ, R, ?_⟩
 unfold C4 at h
 cases e : t ρ with
 | nx ρ' =>
  rw [e] at h
  exact fun σ' H' s' R' => ⟨ρ', R', S0 s' h⟩
 | rt a => rw [e] at h; exact h
 | bk ρ' => rw [e] at h; exact h
 | ct ρ' => rw [e] at h; exact h
 | ex c fs => rw [e] at h; exact h
 | bad => rw [e] at h; exact h
theorem A8 {st : Stmt} {t : FS} (h1 : JS X Ek st t) : JSs X Ek [st] t := AQ9 h1
theorem N7 {c : Expr} {a b : List Stmt} {tc : FT} {t u : FS} {pos : Pos} (hc : JT X Ek c tc) (ha : JSs X Ek a t) (hb : JSs X Ek b u) : JS X Ek (.If c a b pos) (sIf tc t u) := by
 refine PS.weak (AZA hc ha hb) fun D σ H h => ?_
 obtain ⟨ρ, R, h⟩ := h
 refine ⟨ρ, R, D0 (Same.refl H) (fun k hk => ?_) (Z8 h)⟩
 intro H1 s1
 cases k with
 | true => rw [if_pos rfl]; exact ⟨ρ, R.mono s1, S0 s1 hk⟩
 | false => rw [if_neg Bool.false_ne_true]; exact ⟨ρ, R.mono s1, S0 s1 hk⟩
theorem C1 {e : Expr} {t : FE} {pos : Pos} (he : JE X Ek e t) : JS X Ek (.Return (some e) pos) (G5 t) := by
 refine PS.weak (AY4 he) fun D σ H h => ?_
 obtain ⟨ρ, R, h⟩ := h
 exact ⟨ρ, R, D0 (Same.refl H) (fun a ha => ha) (Z8 h)⟩
theorem AA2 {e : Expr} {t : FE} {pos : Pos} (he : JE X Ek e t) (hs : swapsWith e none pos.line X.env = pure false) : JS X Ek (.Expr e pos) (ADQ t) := by
 refine PS.weak (AOU he hs) fun D σ H h => ?_
 obtain ⟨ρ, R, h⟩ := h
 exact ⟨ρ, R, D0 (Same.refl H) (fun a ha v H1 s1 _ => ha σ H1 s1 (R.mono s1)) (Z8 h)⟩
theorem B0 {i : Nat} {x : Str} {pos : Pos} (hN : X.N.Nodup) (hi : X.N[i]? = some x) (hx : Loc X.env.scope x) (hf : X.fn x = true ∨ X.env.scope.names.lookup x = some .local) : JG X (.Name x pos) (gName i) := by
 refine PG.weak (AKZ hN hi hx hf) fun v σ H Q h => ?_
 obtain ⟨t, ρ, ρ', r, R, e, q⟩ := h
 have e' : ρ.set i (some t) = ρ' := Option.some.inj e
 subst e'
 exact q _ (R.set i r)
theorem E8 : JGs X [] [] := by
 refine PGs.weak AU8 fun vs σ H Q h => ?_
 obtain ⟨ts, ρ, ρ', r, R, e, q⟩ := h
 cases ts with
 | nil =>
  unfold RepL at r
  have e' : ρ = ρ' := Option.some.inj e
  subst e'
  exact ⟨r, q σ R⟩
 | cons a b => cases e
theorem A9 {e : Expr} {es : List Expr} {g : FG} {gs : List FG} (h1 : JG X e g) (h2 : JGs X es gs) (hs : (assignEach (e :: es) X.env).map (·.2) = assign e X.env :: (assignEach es X.env).map (·.2)) : JGs X (e :: es) (g :: gs) := by
 refine PGs.weak (ARR h1 h2 hs) fun vs σ H Q h => ?_
 obtain ⟨ts, ρ, ρ', r, R, e, q⟩ := h
 cases ts with
 | nil => cases e
 | cons a b =>
  unfold RepL at r
  obtain ⟨v, vr, rfl, r1, r2⟩ := r
  have e' : (g a ρ).bind (fun ρ1 => AMS gs b ρ1) = some ρ' := e
  cases e1 : g a ρ with
  | none => rw [e1] at e'; cases e'
  | some ρ1 =>
   rw [e1] at e'
   exact ⟨v, vr, rfl, a, ρ, ρ1, r1, R, e1, fun σ1 R1 => ⟨b, ρ1, ρ', r2, R1, e', q⟩⟩
theorem AC3 : ∀ {gs : List FG} {ts : List T} {ρ ρ' : Ev}, AMS gs ts ρ = some ρ' → ts.length = gs.length
 | [], [], _, _, _ => rfl
 | [], _ :: _, _, _, e => by cases e
 | _ :: _, [], _, _, e => by cases e
 | g :: gs, t :: ts, ρ, ρ', e => by
  have e' : (g t ρ).bind (fun ρ1 => AMS gs ts ρ1) = some ρ' := e
  cases e1 : g t ρ with
  | none => rw [e1] at e'; cases e'
  | some ρ1 =>
   rw [e1] at e'
   rw [List.length_cons, List.length_cons, AC3 e']
theorem K3 {es : List Expr} {k : Nat} {gs : List FG} {pos : Pos} (hc : X.calm = true) (h : JGs X es gs) (hn : (assignEach es X.env).length = gs.length) (hst : (assignEach es X.env).findIdx? (·.1) = none) : JG X (.Tuple es k pos) (Tr.gTup gs) := by
 refine PG.weak (AYD hc h hn hst) fun v σ H Q h => ?_
 obtain ⟨t, ρ, ρ', r, R, e, q⟩ := h
 cases t with
 | tuple ts =>
  unfold Rep at r
  obtain ⟨a, vs, rfl, hq, l⟩ := r
  have e' : AMS gs ts ρ = some ρ' := e
  exact ⟨a, vs, rfl, hq, by rw [l.length]; exact AC3 e', ts, ρ, ρ', l, R, e', q⟩
 | _ => cases e
theorem y9 {tg e : Expr} {t : FE} {g : FG} {pos : Pos} (he : JE X Ek e t) (hg : JG X tg g) (hs : swapsWithSole [tg] e pos.line X.env = pure false) (hw : swappedStores [tg] e X.env = pure none)
  (h1 : (assignEach [tg] X.env).map (·.2) = [assign tg X.env]) : JS X Ek (.Assign [tg] e pos) (E7 g t) := by
 refine PS.weak (AXP he hg hs hw h1) fun D σ H h => ?_
 obtain ⟨ρ, R, h⟩ := h
 refine ⟨ρ, R, D0 (Same.refl H) (fun a ha => ?_) (Z8 h)⟩
 intro v H1 s1 ra
 cases e1 : g a ρ with
 | none => rw [e1] at ha; exact ha.elim
 | some ρ' =>
  rw [e1] at ha
  exact ⟨a, ρ, ρ', ra, R.mono s1, e1, fun σ' R' => ha σ' H1 s1 R'⟩
theorem G1 {i : Nat} {x : Str} {e : Expr} {t : FE} {pos pos' : Pos} (hN : X.N.Nodup) (hi : X.N[i]? = some x) (hx : Loc X.env.scope x) (he : JE X Ek e t) (hs : swapsWith e (some (.Name x pos')) pos.line X.env = pure false) (hf : X.fn x = true ∨ X.env.scope.names.lookup x = some .local) :
  JS X Ek (.Assign [.Name x pos'] e pos) (E7 (gName i) t) := by
 refine PS.weak (ASR hN hi hx he hs hf) fun D σ H h => ?_
 obtain ⟨ρ, R, h⟩ := h
 refine ⟨ρ, R, D0 (Same.refl H) (fun a ha => ?_) (Z8 h)⟩
 intro v H1 s1 ra
 exact ha _ H1 s1 ((R.mono s1).set i ra)
def y8 (i j : Nat) (a : FA) : FS := fun ρ => M4 (a ρ) fun ts => match ts with
 | [x, y] => .nx ((ρ.set i (some x)).set j (some y))
 | _ => .bad
theorem AE3 {i j : Nat} {x y : Str} {a b : Expr} {ta : FA} {px py pt pos : Pos} {kt k2 pt2} (hc : X.calm = true) (hN : X.N.Nodup) (hi : X.N[i]? = some x) (hj : X.N[j]? = some y) (hij : i ≠ j)
  (hx : X.env.scope.names.lookup x = some .local) (hy : X.env.scope.names.lookup y = some .local) (ha : JA X Ek [a, b] ta)
  (hw : swappedStores [.Tuple [.Name x px, .Name y py] kt pt] (.Tuple [a, b] k2 pt2) X.env = pure (some [x, y]))
  (hs : swapsWithSole [.Tuple [.Name x px, .Name y py] kt pt] (.Tuple [a, b] k2 pt2) pos.line X.env = pure false) :
  JS X Ek (.Assign [.Tuple [.Name x px, .Name y py] kt pt] (.Tuple [a, b] k2 pt2) pos) (y8 i j ta) := by
 refine PS.weak (AYU hc hN hi hj hij hx hy ha hw hs) fun D σ H h => ?_
 obtain ⟨ρ, R, h⟩ := h
 refine ⟨ρ, R, D0 (Same.refl H) (fun ts hts => ?_) (Z8 h)⟩
 intro vs H1 s1 rl
 match ts, hts, rl with
 | [p, q], hts, rl =>
  unfold RepL at rl
  obtain ⟨v, r, rfl, r1, rl⟩ := rl
  unfold RepL at rl
  obtain ⟨u, r', rfl, r2, rl⟩ := rl
  unfold RepL at rl
  subst rl
  exact ⟨v, u, rfl, hts _ H1 s1 (((R.mono s1).set i r1).set j r2)⟩
theorem AHD {c : Expr} {body : List Stmt} {tc : FT} {tb : FS} {pos : Pos} (hp : PassesOwn (model X.prog X.w) X.A X.env X.xe) (hc : JT X Ek c tc) (hb : JSs X Ek body tb) : JS X Ek (.While c body [] pos) (ABJ tc tb) := by
 refine PS.weak (AR2 hp hc hb) fun D σ H h => ?_
 obtain ⟨ρ, R, h⟩ := h
 have ex : ∃ r n, L4 tc tb n ρ = some r := by
  by_cases q : ∃ r n, L4 tc tb n ρ = some r
  ·exact q
  ·rw [AN9 (fun r n e => q ⟨r, n, e⟩)] at h; exact h.elim
 obtain ⟨r, n, e⟩ := ex
 rw [ADC e] at h
 refine ⟨fun m σ H => ∃ ρ r, RepEnv X.K H ρ σ ∧ L4 tc tb m ρ = some r ∧ lSR X.K Ek D H r, ⟨n, ρ, r, R, e, h⟩, ?_⟩
 rintro m σ H ⟨ρ, r, R, e, h⟩
 cases m with
 | zero => simp [L4] at e
 | succ m =>
  refine ⟨ρ, R, ?_⟩
  rw [L4] at e
  cases ec : tc ρ with
  | bad =>
   simp only [ec] at e
   cases e
   exact h
  | ex c fs =>
   simp only [ec] at e
   cases e
   exact h
  | ok k =>
   intro H1 s1
   cases k with
   | false =>
    simp only [ec] at e
    cases e
    rw [if_neg Bool.false_ne_true]
    exact h σ H1 s1 (R.mono s1)
   | true =>
    simp only [ec] at e
    rw [if_pos rfl]
    refine ⟨fun σ' H' => ∃ ρ', RepEnv X.K H' ρ' σ' ∧ L4 tc tb m ρ' = some r ∧ lSR X.K Ek D H' r, fun σ' H' ⟨ρ', R', e', h'⟩ => ⟨m, Nat.lt_succ_self m, ρ', r, R', e', h'⟩, ρ, R.mono s1, ?_⟩
    cases eb : tb ρ with
    | nx ρ2 =>
     simp only [eb] at e
     exact fun σ2 H2 s2 R2 => ⟨ρ2, R2, e, S0 (s1.trans s2) h⟩
    | ct ρ2 =>
     simp only [eb] at e
     exact fun σ2 H2 s2 R2 => ⟨ρ2, R2, e, S0 (s1.trans s2) h⟩
    | bk ρ2 =>
     simp only [eb] at e
     cases e
     exact fun σ2 H2 s2 R2 => h σ2 H2 (s1.trans s2) R2
    | rt a =>
     simp only [eb] at e
     cases e
     exact fun σ2 H2 s2 R2 => h σ2 H2 (s1.trans s2) R2
    | ex c fs =>
     simp only [eb] at e
     cases e
     exact fun H2 s2 => h H2 (s1.trans s2)
    | bad =>
     simp only [eb] at e
     cases e
     exact h
end
abbrev FI := Ev → R (List T)
def AE0 (K : PySem.W.Frag) (J : It) (ts : List T) (H : Hp) : Prop :=
 ∀ (i : Nat) (H2 : Hp), Same H H2 → (∀ t, ts[i]? = some t → J.go i H2 ∧ ∀ x H3, J.yld i H2 x H3 → Same H2 H3 ∧ Rep K H3 t x) ∧ (ts.length ≤ i → J.stop i H2)
def lI (K : PySem.W.Frag) (Ek : EK) (t : FI) : TI := fun σ H R => ∃ ρ, RepEnv K H ρ σ ∧ wR Ek H (t ρ) fun ts => ∀ J H', Same H H' → AE0 K J ts H' → R J H'
abbrev JI (X : Cx) (Ek : EK) (tg iter : Expr) (t : FI) : Prop := PI X tg iter (lI X.K Ek t)
theorem PI.weak {X : Cx} {tg e : Expr} {t t' : TI} (h : PI X tg e t) (w : ∀ σ H Q, t' σ H Q → t σ H Q) : PI X tg e t' := fun pins s σ H Q I q => h pins s σ H Q I (w σ H Q q)
section
variable {X : Cx} {Ek : EK} {tg : Expr}
def V9 : T → Option (List T)
 | .list ts => some ts
 | _ => none
def G7 : T → Option (List T)
 | .tuple ts => some ts
 | _ => none
def iOf (f : T → Option (List T)) (e : FE) : FI := fun ρ => (e ρ).bind fun t => .of (f t)
theorem AF9 {l : Expr} {t : FE} (hl : JE X Ek l t) : JI X Ek tg l (iOf V9 t) := by
 refine PI.weak (APK hl) fun σ H Q h => ?_
 obtain ⟨ρ, R, h⟩ := h
 refine ⟨ρ, R, D0 (Same.refl H) (fun x hx => ?_) (C7 h)⟩
 intro v H1 s1 rx
 obtain ⟨ts, e, q⟩ := ACB hx
 cases x with
 | list xs =>
  have e' : xs = ts := Option.some.inj e
  subst e'
  unfold Rep at rx
  obtain ⟨a, vs, rfl, hq, l⟩ := rx
  refine ⟨a, rfl, ⟨vs, hq⟩, q _ H1 s1 fun i H2 s2 => ⟨fun t ht => ?_, fun hi => ⟨vs, d4 s2 hq, by rw [l.length]; exact hi⟩⟩⟩
  obtain ⟨v, e1, e2⟩ := l.get ht
  refine ⟨⟨vs, v, d4 s2 hq, e1⟩, fun x H3 y => ?_⟩
  obtain ⟨y1, y2⟩ := y
  have y3 := y2 vs (d4 s2 hq)
  rw [e1] at y3
  have y4 : v = x := Option.some.inj y3
  subst y4
  subst y1
  exact ⟨Same.refl _, Rep.mono s2 t v e2⟩
 | _ => cases e
theorem AA6 {l : Expr} {t : FE} (hl : JE X Ek l t) : JI X Ek tg l (iOf G7 t) := by
 refine PI.weak (ATG hl) fun σ H Q h => ?_
 obtain ⟨ρ, R, h⟩ := h
 refine ⟨ρ, R, D0 (Same.refl H) (fun x hx => ?_) (C7 h)⟩
 intro v H1 s1 rx
 obtain ⟨ts, e, q⟩ := ACB hx
 cases x with
 | tuple xs =>
  have e' : xs = ts := Option.some.inj e
  subst e'
  unfold Rep at rx
  obtain ⟨a, vs, rfl, hq, l⟩ := rx
  refine ⟨a, rfl, ⟨vs, hq⟩, q _ H1 s1 fun i H2 s2 => ⟨fun t ht => ?_, fun hi => ⟨vs, S1 s2 hq, by rw [l.length]; exact hi⟩⟩⟩
  obtain ⟨v, e1, e2⟩ := l.get ht
  refine ⟨⟨vs, v, S1 s2 hq, e1⟩, fun x H3 y => ?_⟩
  obtain ⟨y1, y2⟩ := y
  have y3 := y2 vs (S1 s2 hq)
  rw [e1] at y3
  have y4 : v = x := Option.some.inj y3
  subst y4
  subst y1
  exact ⟨Same.refl _, Rep.mono s2 t v e2⟩
 | _ => cases e
def AE4 (lo : Int) (n : Nat) : List T := (List.range n).map fun (i : Nat) => PyData.int (lo + (i : Int))
def ATV : List T → Option (List T)
 | [.int j] => if -100000 < j ∧ j < 100000 then some (AE4 0 j.toNat) else none
 | _ => none
def iN (f : List T → Option (List T)) (a : FA) : FI := fun ρ => (a ρ).bind fun t => .of (f t)
theorem AI0 {K : PySem.W.Frag} {lo : Int} {n : Nat} {H : Hp} : AE0 K (Itr lo n) (AE4 lo n) H := by
 intro i H2 _
 refine ⟨fun t ht => ?_, fun hi => ?_⟩
 ·unfold AE4 at ht
  rw [List.getElem?_map] at ht
  by_cases hi : i < n
  ·rw [List.getElem?_range hi] at ht
   have ht' : PyData.int (lo + (i : Int)) = t := Option.some.inj ht
   subst ht'
   refine ⟨hi, fun x H3 y => ?_⟩
   obtain ⟨y1, rfl⟩ := y
   subst y1
   exact ⟨Same.refl _, D3⟩
  ·rw [List.getElem?_eq_none (by simpa using hi)] at ht; cases ht
 ·unfold AE4 at hi
  rw [List.length_map, List.length_range] at hi
  exact hi
theorem ADD {a : Expr} {t : FA} {p pos : Pos} (hg : Gl X "range") (hm : X.mg "range" = none) (ha : JA X Ek [a] t) (hs : starEach [a] X.env = [(false, eval a X.env)]) : JI X Ek tg (.Call (.Name "range" p) [a] [] pos) (iN ATV t) := by
 refine PI.weak (AQH hg hm ha hs) fun σ H Q h => ?_
 obtain ⟨ρ, R, h⟩ := h
 refine ⟨ρ, R, D0 (Same.refl H) (fun x hx => ?_) (C7 h)⟩
 intro vs H1 s1 rx
 obtain ⟨ts, e, q⟩ := ACB hx
 match x, e, rx with
 | [.int j], e, rx =>
  unfold RepL at rx
  obtain ⟨v, r, rfl, r1, rx⟩ := rx
  unfold RepL at rx
  subst rx
  unfold Rep at r1
  subst r1
  have e' : (if -100000 < j ∧ j < 100000 then some (AE4 0 j.toNat) else none) = some ts := e
  by_cases hj : -100000 < j ∧ j < 100000
  ·rw [if_pos hj] at e'
   have e'' := Option.some.inj e'
   subst e''
   exact ⟨j, rfl, by omega, by omega, q _ H1 s1 AI0⟩
  ·rw [if_neg hj] at e'; cases e'
def AEP (it : FI) (g : FG) (body : FS) : FS := fun ρ => M4 (it ρ) fun ts => AHH g body ts ρ
theorem AJJ {iter : Expr} {body : List Stmt} {it : FI} {g : FG} {tb : FS} {pos : Pos} (hp : PassesOwn (model X.prog X.w) X.A X.env X.xe) (hc : X.calm = true) (hi : JI X Ek tg iter it) (hg : JG X tg g) (hb : JSs X Ek body tb)
  (hs : ∀ x, foldedSetIterable iter X.env x = pure x) : JS X Ek (.For tg iter body [] pos) (AEP it g tb) := by
 refine PS.weak (AOK hp hc hi hg hb hs) fun D σ H h => ?_
 obtain ⟨ρ, R, h⟩ := h
 refine ⟨ρ, R, D0 (Same.refl H) (fun ts hts => ?_) (Z8 h)⟩
 intro J H1 s1 it
 refine ⟨fun i m σ H => m = ts.length - i ∧ i ≤ ts.length ∧ Same H1 H ∧ ∃ ρ, RepEnv X.K H ρ σ ∧ lSR X.K Ek D H (AHH g tb (ts.drop i) ρ), ⟨ts.length, by simp, Nat.zero_le _, Same.refl H1, ρ, R.mono s1, by rw [List.drop_zero]; exact S0 s1 hts⟩, ?_⟩
 rintro i m σ H ⟨rfl, hi, sH, ρ, R, h⟩
 by_cases hlt : i < ts.length
 ·refine .inr ?_
  have ht : ts[i]? = some ts[i] := List.getElem?_eq_getElem hlt
  obtain ⟨go, yl⟩ := (it i H sH).1 _ ht
  refine ⟨go, fun σ' H' => Same H1 H' ∧ ∃ ρ', RepEnv X.K H' ρ' σ' ∧ lSR X.K Ek D H' (AHH g tb (ts.drop (i + 1)) ρ'), fun σ' H' ⟨q1, q2⟩ => ⟨ts.length - (i + 1), by omega, rfl, hlt, q1, q2⟩, fun x H' y => ?_⟩
  obtain ⟨sy, rx⟩ := yl x H' y
  rw [List.drop_eq_getElem_cons hlt] at h
  rw [AHH] at h
  cases e : g ts[i] ρ with
  | none => simp only [e] at h; exact h.elim
  | some ρ1 =>
   simp only [e] at h
   refine ⟨ts[i], ρ, ρ1, rx, R.mono sy, e, fun σ1 R1 => ⟨ρ1, R1, ?_⟩⟩
   cases eb : tb ρ1 with
   | nx ρ2 => simp only [eb] at h; exact fun σ2 H2 s2 R2 => ⟨sH.trans (sy.trans s2), ρ2, R2, S0 (sy.trans s2) h⟩
   | ct ρ2 => simp only [eb] at h; exact fun σ2 H2 s2 R2 => ⟨sH.trans (sy.trans s2), ρ2, R2, S0 (sy.trans s2) h⟩
   | bk ρ2 => simp only [eb] at h; exact S0 sy h
   | rt a => simp only [eb] at h; exact S0 sy h
   | ex c fs => simp only [eb] at h; exact S0 sy h
   | bad => simp only [eb] at h; exact h
 ·refine .inl ⟨(it i H sH).2 (by omega), ?_⟩
  rw [List.drop_eq_nil_of_le (by omega)] at h
  exact h σ H (Same.refl H) R
end
theorem AC5 {env : Env} : ∀ (names : List (Str × NameKind)) (acc : List (Str × Addr)), (∀ x, (x, NameKind.free) ∈ names → ∃ c, env.cells.lookup x = some c) →
  ∃ cl, (forIn (m := Sem) names acc fun y r => if (y.2 == NameKind.free) = true then (do let c ← cellOf env y.1; pure (ForInStep.yield ((y.1, c) :: r))) else pure (ForInStep.yield r)) = pure cl ∧
   (∀ x c, cl.lookup x = some c → acc.lookup x = some c ∨ env.cells.lookup x = some c) ∧ (∀ x, (x, NameKind.free) ∈ names → ∃ c, cl.lookup x = some c) ∧ ∀ x c, acc.lookup x = some c → ∃ d, cl.lookup x = some d
 | [], acc, _ => ⟨acc, rfl, fun _ _ h => .inl h, fun x h => by simp at h, fun x c h => ⟨c, h⟩⟩
 | (n, k) :: r, acc, h => by
  by_cases hk : k = NameKind.free
  ·subst hk
   obtain ⟨c, hc⟩ := h n List.mem_cons_self
   obtain ⟨cl, e, h1, h2, h3⟩ := AC5 r ((n, c) :: acc) fun x hx => h x (List.mem_cons_of_mem _ hx)
   refine ⟨cl, ?_, fun x d q => ?_, fun x hx => ?_, fun x d q => ?_⟩
   ·rw [List.forIn_cons, ← e]
    simp only [beq_self_eq_true, if_true, cellOf, hc]
    rfl
   ·rcases h1 x d q with z | z
    ·rw [List.lookup_cons] at z
     by_cases hx : x == n
     ·rw [hx] at z
      have z' : c = d := Option.some.inj z
      subst z'
      rw [eq_of_beq hx]
      exact .inr hc
     ·simp only [hx] at z
      exact .inl z
    ·exact .inr z
   ·rcases List.mem_cons.mp hx with z | z
    ·have z' : x = n := by cases z; rfl
     subst z'
     exact h3 x c (by simp [List.lookup_cons])
    ·exact h2 x z
   ·by_cases hx : x == n
    ·exact h3 x c (by rw [List.lookup_cons, hx])
    ·exact h3 x d (by rw [List.lookup_cons]; simp only [hx]; exact q)
  ·obtain ⟨cl, e, h1, h2, h3⟩ := AC5 r acc fun x hx => h x (List.mem_cons_of_mem _ hx)
   have hk' : (k == NameKind.free) = false := by simpa using hk
   refine ⟨cl, ?_, h1, fun x hx => ?_, h3⟩
   ·rw [List.forIn_cons, ← e]
    simp only [hk', Bool.false_eq_true, if_false]
    rfl
   ·rcases List.mem_cons.mp hx with z | z
    ·exact absurd (by cases z; rfl) hk
    ·exact h2 x z
theorem AGF {scope : Scope} {env : Env} (h : ∀ x, (x, NameKind.free) ∈ scope.names → ∃ c, env.cells.lookup x = some c) :
  ∃ cl, closureFor scope env = pure cl ∧ (∀ x c, cl.lookup x = some c → env.cells.lookup x = some c) ∧ ∀ x, (x, NameKind.free) ∈ scope.names → ∃ c, cl.lookup x = some c := by
 obtain ⟨cl, e, h1, h2, _⟩ := AC5 scope.names [] h
 refine ⟨cl, ?_, fun x c q => (h1 x c q).elim (fun z => by simp at z) id, h2⟩
 unfold closureFor
 simp only [bind_pure]
 exact e
def L5 (X : Cx) (scope : Scope) (cl : List (Str × Addr)) (C : Addr) (Nc : List Str) (s : Shared) (H : Hp) (fp : List Addr) : Cx :=
 { X with N := Nc, s₀ := s, H₀ := H, env := compEnvC scope cl C X.env, outer := X.stack, ex := fp, fn := fun _ => false, calm := true, pn := [], xe := fun _ _ => False }
abbrev Ek0 : EK := fun _ _ _ => False
def L6 {α : Type} (sel : List (Option Nat)) (σ : List (Option α)) : List (Option α) := sel.map fun o => o.bind fun j => (σ[j]?).join
def U5 (it : FI) (sel : List (Option Nat)) (g : FG) (test : FT) (te : FE) : FE := fun ρ => (it ρ).bind fun ts =>
 if ts.length ≤ 100000 then (O6 g test te (L6 sel ρ) ts).bind fun xs => .ok (.list xs) else .bad
theorem ABI {env : Env} : ∀ {names : List (Str × NameKind)} {x : Str}, names.lookup x = some .free →
  (names.map fun (n, k) => if (k == NameKind.free && env.scope.kind == .function && env.kindOf n == some .cell) then (n, NameKind.cell) else (n, k)).lookup x = some .cell ∨
  (names.map fun (n, k) => if (k == NameKind.free && env.scope.kind == .function && env.kindOf n == some .cell) then (n, NameKind.cell) else (n, k)).lookup x = some .free
 | [], _, h => by simp at h
 | (n, k) :: r, x, h => by
  have ih := @ABI env r x
  rw [List.map_cons]
  by_cases hx : (x == n) = true
  ·rw [List.lookup_cons, hx] at h
   have hk : k = .free := Option.some.inj h
   subst hk
   dsimp only
   split
   ·exact .inl (by rw [List.lookup_cons, hx])
   ·exact .inr (by rw [List.lookup_cons, hx])
  ·have hx' : (x == n) = false := by simpa using hx
   rw [List.lookup_cons, hx'] at h
   dsimp only
   split
   ·rw [List.lookup_cons, hx']; exact ih h
   ·rw [List.lookup_cons, hx']; exact ih h
theorem i6 {env : Env} : ∀ {names : List (Str × NameKind)} {x : Str} {k' : NameKind}, (k' = .cell ∨ k' = .free) → (names.map fun (n, k) => if (k == NameKind.free && env.scope.kind == .function && env.kindOf n == some .cell) then (n, NameKind.cell) else (n, k)).lookup x = some k' →
  (x, NameKind.cell) ∈ names ∨ (x, NameKind.free) ∈ names
 | [], _, _, _, h => by simp at h
 | (n, k) :: r, x, k', hk, h => by
  have ih := @i6 env r x k' hk
  rw [List.map_cons] at h
  by_cases hx : (x == n) = true
  ·have hxn : x = n := eq_of_beq hx
   subst hxn
   dsimp only at h
   split at h
   ·rename_i hc
    have : k = .free := by
     have := (Bool.and_eq_true_iff.mp (Bool.and_eq_true_iff.mp hc).1).1
     simpa using this
    subst this
    exact .inr List.mem_cons_self
   ·rw [List.lookup_cons, hx] at h
    have hk2 : k = k' := Option.some.inj h
    subst hk2
    rcases hk with rfl | rfl
    ·exact .inl List.mem_cons_self
    ·exact .inr List.mem_cons_self
  ·have hx' : (x == n) = false := by simpa using hx
   have h' : (r.map fun (n, k) => if (k == NameKind.free && env.scope.kind == .function && env.kindOf n == some .cell) then (n, NameKind.cell) else (n, k)).lookup x = some k' := by
    dsimp only at h
    split at h
    ·rw [List.lookup_cons, hx'] at h; exact h
    ·rw [List.lookup_cons, hx'] at h; exact h
   exact (ih h').imp (List.mem_cons_of_mem _) (List.mem_cons_of_mem _)
theorem AG7 {fs ex : List Addr} {H H1 : Hp} {h h1 h2 : Heap} {C : Addr} (u : Un fs ex H H1 h h1) (hC : h.get? C = none) (k : ∀ b o, b ≠ C → h1.get? b = some o → h2.get? b = some o) : Un fs ex H H1 h h2 := by
 have ne : ∀ b o, h.get? b = some o → b ≠ C := fun b o e z => by rw [z, hC] at e; cases e
 exact ⟨fun b o e n hb hx => k b o (ne b o e) (u.keep b o e n hb hx), fun b o e n hb hx => let ⟨sl, q⟩ := u.slot b o e n hb hx; ⟨sl, k b _ (ne b o e) q⟩, u.free, fun b o e hx => let ⟨o', q⟩ := u.there b o e hx; ⟨o', k b o' (ne b o e) q⟩, u.tups, u.frzs, u.tbls⟩
def JTs (X : Cx) (Ek : EK) (ifs : List Expr) (t : FT) : Prop :=
 ∀ (pins : List (Addr × Obj)) (s : Shared) (σ : St) (H : Hp) (Q : Bool → Hp → Prop), Inv X pins σ H s → lT X.K Ek t σ H Q →
  wpAny (model X.prog X.w) X.A (forIn ifs true fun c r => if r = true then do let ok ← isTrue c X.env (eval c X.env); pure (ForInStep.yield ok) else pure (ForInStep.yield r)) (TP X pins σ Q) X.xe s
theorem O8 {X : Cx} {Ek : EK} : JTs X Ek [] (fun _ => .ok true) := fun pins s σ H Q I h => by
 obtain ⟨ρ, R, h⟩ := h
 exact wpAny_tests_nil ⟨H, I, h H (Same.refl H)⟩
theorem ATO {X : Cx} {Ek : EK} {c : Expr} {t : FT} (h : JT X Ek c t) : JTs X Ek [c] t := fun pins s σ H Q I q => wpAny_tests_one (h pins s σ H Q I q)
theorem AP1 {prog : Program} {w : World} {A : Around} {R : Result → Shared → Prop} {s : Shared} {elt target iter : Expr} {ifs : List Expr} {scope : Scope} {pos : Pos} {it acc : Value} {env : Env} (I : Nat → Shared → Prop)
  (turn : ∀ n s, I n s → ∃ E0 : Value → Shared → Prop, (∀ e s', E0 e s' → False) ∧ wpAny (model prog w) A (pyNext it) (fun r s₁ => match r with
   | none => R (.ok .next) s₁
   | some v => wpAny (model prog w) A (letOwnedTupleGo target it v) (fun _ s₁' => wpAny (model prog w) A (assign target env v) (fun _ s₂ =>
     wpAny (model prog w) A (forIn ifs true fun c r => if r = true then do let ok ← isTrue c env (eval c env); pure (ForInStep.yield ok) else pure (ForInStep.yield r)) (fun ok s₃ =>
      if ok = true then wpAny (model prog w) A (eval elt env) (fun x s₄ => wpAny (model prog w) A (call (.builtin "list.append") [acc, x]) (fun _ s₅ => ∃ m, m < n ∧ I m s₅) E0 s₄) E0 s₃
      else ∃ m, m < n ∧ I m s₃) E0 s₂) E0 s₁') E0 s₁) E0 s)
  (n : Nat) (h : I n s) : codeAny (model prog w) A (.compLoop (.ListComp elt [⟨target, iter, ifs, 0⟩] scope pos) 0 it acc env) R s := by
 refine codeAny_loop rfl I (fun n s hI => ?_) n h
 obtain ⟨E0, no, tn⟩ := turn n s hI
 show wpAny _ A ((compTurn (.ListComp elt [⟨target, iter, ifs, 0⟩] scope pos) 0 it acc env).onRaise (fun x => do noteFrame x env; theTreesLotGoes x)) _ _ s
 have fl : ∀ {E1 : Value → Shared → Prop} (e : Value) (s' : Shared), E0 e s' → E1 e s' := fun e s' z => (no e s' z).elim
 refine wpAny_noted ?_
 rw [compTurn_list]
 refine wpAny_bind (wpAny_standAt (wpAny_bind (wpAny_mono tn (fun r s₁ h₁ => ?_) fl)))
 cases r with
 | none => exact wpAny_pure h₁
 | some v =>
  refine wpAny_bind (wpAny_mono h₁ (fun _ s₁' h₁' => wpAny_bind (wpAny_mono h₁' (fun _ s₂ h₂ => wpAny_bind (wpAny_mono h₂ (fun ok s₃ h₃ => ?_) fl)) fl)) fl)
  cases ok with
  | false => exact wpAny_pure ⟨rfl, h₃⟩
  | true => exact wpAny_bind (wpAny_bind (wpAny_mono h₃ (fun x s₄ h₄ => wpAny_bind (wpAny_mono h₄ (fun _ s₅ h₅ => wpAny_pure (wpAny_pure ⟨rfl, h₅⟩)) fl)) fl))
section
variable {X : Cx} {Ek : EK}
def AcQ (X : Cx) (pins : List (Addr × Obj)) (σ : St) (Q : VK) (use : Option (Value → Sem Unit)) (QQ : Value → Shared → Prop) : Prop :=
 ∀ (acc : Value) (C : Addr) (s' : Shared), X.env.locals ≠ C → (∀ x c, X.env.cells.lookup x = some c → c ≠ C) → (∃ m, s'.heap.Ns C m ∧ ∀ h', Heap.SameBut C s'.heap h' → EP X pins σ Q acc { s' with heap := h' }) → compPost (model X.prog X.w) X.A X.xe use QQ acc C (.ok .next) s'
def JCt (X : Cx) (elt : Expr) (gens : List Comprehension) (scope : Scope) (pos : Pos) (te : TE) : Prop :=
 ∀ (p0 : Pos) (use : Option (Value → Sem Unit)) (QQ : Value → Shared → Prop) (pins : List (Addr × Obj)) (s : Shared) (σ : St) (H : Hp) (Q : VK), Inv X pins σ H s → te σ H Q → AcQ X pins σ Q use QQ →
  wpAny (model X.prog X.w) X.A (comprehension (.ListComp elt gens scope pos) scope X.env p0 (newList []) (firstAsync gens) (firstIter gens X.env) use) QQ X.xe s
abbrev JC (X : Cx) (Ek : EK) (elt : Expr) (gens : List Comprehension) (scope : Scope) (pos : Pos) (t : FE) : Prop := JCt X elt gens scope pos (lE X.K Ek t)
def AYR (K : PySem.W.Frag) (H : Hp) (Q : VK) : T → Prop
 | .list xs => ∀ p H0 vs, Same H H0 → H0 p = none → RepL K H0 xs vs → Q (.ref p) (upd H0 p (.lst vs))
 | _ => False
def lEF (K : PySem.W.Frag) (Ek : EK) (t : FE) : TE := fun σ H Q => ∃ ρ, RepEnv K H ρ σ ∧ wR Ek H (t ρ) (AYR K H Q)
theorem AZT {elt : Expr} {gens : List Comprehension} {scope : Scope} {pos : Pos} {t : FE} (h : JCt X elt gens scope pos (lEF X.K Ek t)) (hl : ∀ ρ a, t ρ = .ok a → ∃ xs, a = .list xs) : JC X Ek elt gens scope pos t := fun p0 use QQ pins s σ H Q I q u => by
 obtain ⟨ρ, R, q⟩ := q
 refine h p0 use QQ pins s σ H Q I ⟨ρ, R, ?_⟩ u
 cases e : t ρ with
 | bad => rw [e] at q; exact q
 | ex c fs => rw [e] at q; exact q
 | ok a =>
  rw [e] at q
  obtain ⟨xs, rfl⟩ := hl ρ a e
  intro p H0 vs s0 n r
  have sm := E6 n (.lst vs)
  refine q _ _ (s0.trans sm) ?_
  unfold Rep
  exact ⟨p, vs, rfl, SqL.of D9, RepL.mono sm xs vs r⟩
theorem AaC {elt : Expr} {gens : List Comprehension} {scope : Scope} {pos : Pos} {t : FE} (h : JC X Ek elt gens scope pos t) : JE X Ek (.ListComp elt gens scope pos) t := by
 intro pins s σ H Q I q
 rw [eval_ListComp]
 exact h _ none _ pins s σ H Q I q fun _ _ _ _ _ z => z
inductive CLoop (Xc : Cx) (tn : Nat → Heap → Prop) (D : Addr) (fp : List Addr) (H2 : Hp) (ρc : Ev) (len : Nat) (W : Nat → List T → Prop) (n : Nat) (s' : Shared) : Prop
 | mk (i : Nat) (Hs : Hp) (σs : St) (xs : List T) (ys : List V) (its : List Value) (hi : i ≤ len) (hn : n = len + 1 - i) (I : Inv Xc [] σs Hs s') (st : tn i s'.heap) (fr : ∀ b ∈ D :: fp, Hs b = none)
   (pl : s'.heap.PlainList D its.toArray) (hv : Vals ys its) (rl : RepL Xc.K Hs xs ys) (sm : Same H2 Hs) (Rs : RepEnv Xc.K Hs ρc σs) (hw : W i xs) : CLoop Xc tn D fp H2 ρc len W n s'
theorem AS7 {elt tg iter : Expr} {ifs : List Expr} {scope : Scope} {pos : Pos} {Nc : List Str} {it : FI} {sel : List (Option Nat)} {g : FG} {test : FT} {te : FE}
  (hcalm : X.calm = true) (hi : JI X Ek tg iter it)
  (hfree : ∀ x, (x, NameKind.free) ∈ scope.names → X.env.kindOf x = some .cell ∨ X.env.kindOf x = some .free)
  (hcell : ∀ y ∈ scope.names, y.2 ≠ .cell) (hkind : scope.kind = .function)
  (hnames : ∀ y ∈ scope.names, y.2 = .local → scope.names.lookup y.1 = some .local)
  (hlen : sel.length = Nc.length)
  (hsel : ∀ i j : Nat, sel[i]? = some (some j) → ∃ x, Nc[i]? = some x ∧ X.N[j]? = some x ∧ scope.names.lookup x = some .free)
  (hkeep : ∀ t ρ ρ1, g t ρ = some ρ1 → ρ1.length = ρ.length ∧ ∀ i j : Nat, sel[i]? = some (some j) → ρ1[i]? = ρ[i]?)
  (hg : ∀ cl C s H fp, JG (L5 X scope cl C Nc s H fp) tg g)
  (ht : ∀ cl C s H fp, JTs (L5 X scope cl C Nc s H fp) Ek0 ifs test)
  (he : ∀ cl C s H fp, JE (L5 X scope cl C Nc s H fp) Ek0 elt te)
  (hs : ∀ x, foldedSetIterable iter X.env x = pure x) :
  JCt X elt [⟨tg, iter, ifs, 0⟩] scope pos (lEF X.K Ek (U5 it sel g test te)) := by
 intro p0 use QQ pins s σ H Q I h hfin
 obtain ⟨ρ, R0, h⟩ := h
 have kindL : ∀ x, X.env.kindOf x = X.env.scope.names.lookup x := fun x => rfl
 obtain ⟨cl, hclos, hcl1, hcl2⟩ := AGF (scope := scope) (env := X.env) fun x hx => I.ok.has x (hfree x hx)
 refine wpAny_comprehension_free (use := use) rfl hs hclos hkind hnames ?_
 refine thn (hi pins s σ H _ I ⟨ρ, R0, D0 (Same.refl H) (fun ts hts J H' sH iO => (⟨sH, ts, iO, hts⟩ : Same H H' ∧ ∃ ts, AE0 X.K J ts H' ∧ _)) (C7 h)⟩) fun v s1 h1 => thn h1 fun itv s2 h2 => ?_
 obtain ⟨it', fp, tn, J, H2, rfl, I2, TT, st2, f2, sH, ts, iO, h⟩ := h2
 by_cases hts : ts.length ≤ 100000
 ·rw [if_pos hts] at h
  have R2 : RepEnv X.K H2 ρ σ := R0.mono sH
  refine wpAny_newObj_type (wpAny_newFunctionEnv hcell (by intro y hy; simp at hy) (fun h₁ hns₁ hsb₁ => ?_) hkind)
  dsimp only at hns₁ hsb₁ ⊢
  generalize hP : s2.heap.push { cls := .type "list", dict := none, data := .seq ([] : List Value).toArray } = P2 at hns₁ hsb₁ ⊢
  have hC : P2.objs.size = s2.heap.objs.size + 1 := by rw [← hP, Heap.size_push]
  have hDC : s2.heap.objs.size < P2.objs.size := by rw [hC]; exact Nat.lt_succ_self _
  have old : ∀ b o, s2.heap.get? b = some o → h₁.get? b = some o := fun b o e => by
   have hb := Heap.lt_size e
   exact hsb₁.extBut b o (Nat.ne_of_lt (by rw [hC]; exact Nat.lt_succ_of_lt hb)) (Heap.get?_push_of_some _ (hP ▸ Heap.get?_push_of_some _ e))
  have hD : h₁.get? s2.heap.objs.size = some { cls := .type "list", dict := none, data := .seq ([] : List Value).toArray } :=
   hsb₁.extBut _ _ (Nat.ne_of_lt hDC) (Heap.get?_push_of_some _ (hP ▸ Heap.get?_push_size _ rfl))
  have freshD : H2 s2.heap.objs.size = none := I2.hok.fresh (Nat.le_refl _)
  have freshC : H2 P2.objs.size = none := I2.hok.fresh (by omega)
  have noC : s2.heap.get? P2.objs.size = none := Heap.get?_none_of_le (by omega)
  let Xc := L5 X scope cl P2.objs.size Nc s2 H2 fp
  have okc : Xc.Ok := by
   refine ⟨I2.ok.mod, by show (relabel scope X.env).kind = _; exact hkind, I2.ok.glob, I2.ok.blt, by show s2.heap.objs.size ≤ P2.objs.size; omega, fun x y c h1 h2 => I2.ok.inj x y c (hcl1 x c h1) (hcl1 y c h2), fun x hx => ?_, fun x c h _ => (Bool.false_ne_true h).elim, fun _ => I2.ok.hd hcalm, I2.ok.frames, .inl rfl, fun b hb => ⟨?_, fun x c e z => ?_⟩, I2.bs, Nat.le_trans I2.ok.bsz I2.sz, fun b o e hb => ?_, fun b hb z => ?_, I2.stack, I2.stkFree⟩
   ·have hx' : (relabel scope X.env).names.lookup x = some .cell ∨ (relabel scope X.env).names.lookup x = some .free := hx
    have hm : (x, NameKind.cell) ∈ scope.names ∨ (x, NameKind.free) ∈ scope.names := by
     rcases hx' with q | q
     ·exact i6 (.inl rfl) q
     ·exact i6 (.inr rfl) q
    rcases hm with q | q
    ·exact absurd rfl (hcell _ q)
    ·exact hcl2 x q
   ·obtain ⟨o, e, _⟩ := TT.obj 0 _ st2 b hb
    exact Nat.ne_of_lt (Nat.lt_trans (Heap.lt_size e) hDC)
   ·exact (f2 b hb).2.2.2.2.1 x c (hcl1 x c e) z
   ·rcases (f2 b hb).2.2.2.1 with z | z
    ·exact I2.ok.noex b o e z
    ·exact absurd (Nat.lt_of_lt_of_le (Heap.lt_size e) (Nat.le_trans I2.ok.bsz z)) (Nat.lt_irrefl _)
   ·rcases List.mem_cons.mp (I2.stkSub b z) with q | q
    ·exact (f2 b hb).2.1 q
    ·exact (f2 b hb).2.2.1 q
  have Ic : Inv Xc [] (L6 sel σ) H2 { s2 with heap := h₁, toks := s2.toks + ([] : List (Str × Value)).length } := by
   refine ⟨okc, rfl, I2.bare, Un.kept old, ⟨_, hns₁, fun i x v e1 e2 e3 => ?_⟩, fun x c e => ?_, ?_, fun x c e => ?_, fun p hp => absurd (show p ∈ ([] : List (Addr × Obj)) from hp) (by simp), ?_, ?_⟩
   ·have e2' : (sel[i]?).map (fun o => o.bind fun j => (σ[j]?).join) = some (some v) := by
     rw [← List.getElem?_map]; exact e2
    cases es : sel[i]? with
    | none => rw [es] at e2'; cases e2'
    | some o =>
     rw [es] at e2'
     cases o with
     | none =>
      have : (none : Option V) = some v := Option.some.inj e2'
      cases this
     | some j =>
      obtain ⟨x', n1, n2, n3⟩ := hsel i j es
      have hxx : x' = x := by
       have e1' : Nc[i]? = some x := e1
       rw [n1] at e1'; exact Option.some.inj e1'
      subst hxx
      have hσ : σ[j]? = some (some v) := by
       have q : (σ[j]?).join = some v := Option.some.inj e2'
       cases z : σ[j]? with
       | none => rw [z] at q; cases q
       | some w' => rw [z] at q; have q' : w' = some v := q; rw [q']
      have kf := hfree x' (PySem.mem_of_lookup n3)
      obtain ⟨m, hn, hl⟩ := I2.loc
      obtain ⟨u, ru, lk⟩ := hl j x' v n2 hσ (kf.elim (fun z => .inr (.inl z)) fun z => .inr (.inr z))
      refine ⟨u, ru, .inr ?_⟩
      rcases lk with ⟨kl, _⟩ | ⟨_, c, hc, hcc⟩
      ·rcases kf with z | z <;> (rw [z] at kl; cases kl)
      ·obtain ⟨d, hd⟩ := hcl2 x' (PySem.mem_of_lookup n3)
       have hd' := hcl1 x' d hd
       rw [hc] at hd'
       have hcd : c = d := Option.some.inj hd'
       subst hcd
       refine ⟨?_, c, hd, ?_⟩
       ·exact ABI n3
       ·obtain ⟨o, e, q⟩ := hcc
        exact ⟨o, old c o e, q⟩
   ·obtain ⟨v, o, e', q⟩ := I2.cell x c (hcl1 x c e)
    exact ⟨v, o, old c o e', q⟩
   ·exact freshC
   ·exact I2.freeC x c (hcl1 x c e)
   ·exact I2.hok.kept old
   ·show (L6 sel σ).length = Nc.length
    unfold L6
    rw [List.length_map]; exact hlen
  have Rc : RepEnv X.K H2 (L6 sel ρ) (L6 sel σ) := by
   refine ⟨by unfold L6; rw [List.length_map, List.length_map], fun i t q => ?_⟩
   unfold L6 at q ⊢
   rw [List.getElem?_map] at q ⊢
   cases es : sel[i]? with
   | none => rw [es] at q; cases q
   | some o =>
    rw [es] at q
    cases o with
    | none =>
     have : (none : Option T) = some t := Option.some.inj q
     cases this
    | some j =>
     have q' : (ρ[j]?).join = some t := Option.some.inj q
     have hρ : ρ[j]? = some (some t) := by
      cases z : ρ[j]? with
      | none => rw [z] at q'; cases q'
      | some w' => rw [z] at q'; have q'' : w' = some t := q'; rw [q'']
     obtain ⟨v, e1, e2⟩ := R2.get j t hρ
     refine ⟨v, ?_, e2⟩
     show some ((σ[j]?).join) = some (some v)
     rw [e1]; rfl
  have ltD : ∀ b ∈ fp, b < s2.heap.objs.size := fun b hb => by
   obtain ⟨o, e, _⟩ := TT.obj 0 _ st2 b hb
   exact Heap.lt_size e
  have cellLt : ∀ x c, cl.lookup x = some c → c < s2.heap.objs.size := fun x c e => by
   obtain ⟨v, o, e', q⟩ := I2.cell x c (hcl1 x c e)
   exact Heap.lt_size e'
  have notStk : s2.heap.objs.size ∉ frs X.stack := fun z => by
   rcases List.mem_cons.mp (I2.stkSub _ z) with q | q
   ·exact absurd q (Nat.ne_of_gt I2.lt)
   ·exact I2.nofs (Nat.le_refl _) q
  have stat : ∀ {H' : Hp}, (∀ b ∈ s2.heap.objs.size :: fp, H' b = none) → ∀ b ∈ s2.heap.objs.size :: fp, AK0 Xc [] H' b := fun hn b hb => by
   refine ⟨hn b hb, ?_, fun z => ?_, ?_, fun x c e z => ?_, fun p hp => absurd (show p ∈ ([] : List (Addr × Obj)) from hp) (by simp)⟩
   ·show b ≠ P2.objs.size
    rcases List.mem_cons.mp hb with q | q
    ·rw [q]; exact Nat.ne_of_lt hDC
    ·exact Nat.ne_of_lt (Nat.lt_trans (ltD b q) hDC)
   ·rcases List.mem_cons.mp hb with q | q
    ·subst q; exact notStk z
    ·rcases List.mem_cons.mp (I2.stkSub b z) with y | y
     ·exact (f2 b q).2.1 y
     ·exact (f2 b q).2.2.1 y
   ·rcases List.mem_cons.mp hb with q | q
    ·exact .inr (by rw [q]; exact Nat.le_refl _)
    ·exact .inl q
   ·rcases List.mem_cons.mp hb with q | q
    ·rw [q] at z; exact absurd z (Nat.ne_of_lt (cellLt x c e))
    ·exact (f2 b q).2.2.2.2.1 x c (hcl1 x c e) z
  have loop : codeAny (model X.prog X.w) X.A (.compLoop (.ListComp elt [⟨tg, iter, ifs, 0⟩] scope pos) 0 (.ref it') (.ref s2.heap.objs.size) (compEnvC scope cl P2.objs.size X.env)) (compPost (model X.prog X.w) X.A X.xe use QQ (.ref s2.heap.objs.size) P2.objs.size)
    { s2 with heap := h₁, toks := s2.toks + ([] : List (Str × Value)).length } := by
   refine AP1 (CLoop Xc tn s2.heap.objs.size fp H2 (L6 sel ρ) ts.length fun i xs => xs.length ≤ i ∧ wR Ek H (O6 g test te (L6 sel ρ) (ts.drop i)) fun zs => AYR X.K H Q (.list (xs ++ zs))) ?_ (ts.length + 1)
    ⟨0, H2, L6 sel σ, [], [], [], Nat.zero_le _, rfl, Ic, TT.keep _ _ _ st2 fun b _ o e => old b o e, fun b hb => ?_, ⟨_, hD⟩, .nil, G6, Same.refl H2, Rc, Nat.le_refl _, C7 h⟩
   ·rintro n s' ⟨i, Hs, σs, xs, ys, its, hi', rfl, Is, st, fr, hpl, hv, rl, sHs, Rs, hxl, hw⟩
    refine ⟨fun _ _ => False, fun _ _ z => z, ?_⟩
    by_cases hlt : i < ts.length
    ·have ht' : ts[i]? = some ts[i] := List.getElem?_eq_getElem hlt
     obtain ⟨go, yl⟩ := (iO i Hs sHs).1 _ ht'
     have Is' := Is.pinned (fp := [s2.heap.objs.size]) (fun b hb => stat fr b (by simp at hb; subst hb; exact List.mem_cons_self)) (fun b hb => by
      simp at hb; subst hb
      obtain ⟨n, e⟩ := hpl
      exact ⟨_, e, fun v z => by cases z⟩)
     obtain ⟨nA, eA⟩ := id hpl
     refine thn (TT.item Xc rfl rfl rfl rfl i _ s' σs Hs (fun _ _ => False) Is' (fun b hb => ?_) st go) fun r s4 ⟨u, hr, h4⟩ => ?_
     ·obtain ⟨p1, p2, p3, p4, p5, p6⟩ := stat fr b (List.mem_cons_of_mem _ hb)
      refine ⟨p1, p2, p3, p4, p5, fun p hp z => ?_⟩
      have hp' : p ∈ U3 [s2.heap.objs.size] s'.heap := hp
      obtain ⟨q, _⟩ := d6 hp'
      have q' : p.1 = s2.heap.objs.size := by simpa using q
      exact absurd (z.symm.trans q') (Nat.ne_of_lt (ltD b hb))
     subst hr
     refine thn h4 fun _ s5 ⟨x, H5, I5, r5, y5, st5, fr5⟩ => ?_
     obtain ⟨sy5, rx⟩ := yl x H5 y5
     replace rl := RepL.mono sy5 xs ys rl
     replace Rs := Rs.mono sy5
     replace sHs := sHs.trans sy5
     have pinA := I5.pin (s2.heap.objs.size, _) (List.mem_append_right _ (List.mem_append_right _ (C9 (List.mem_singleton.mpr rfl) eA)))
     have fr5' : ∀ b ∈ s2.heap.objs.size :: fp, H5 b = none := fun b hb => by
      rcases List.mem_cons.mp hb with q | q
      ·rw [q]; exact pinA.2.1
      ·exact fr5 b q
     have I5' := I5.unpinned.pinned (stat fr5') (fun b hb => by
      rcases List.mem_cons.mp hb with q | q
      ·subst q; exact ⟨_, pinA.1, fun v z => by cases z⟩
      ·exact TT.obj _ _ st5 b q)
     rw [List.drop_eq_getElem_cons hlt, O6] at hw
     cases eg : g ts[i] (L6 sel ρ) with
     | none => simp only [eg] at hw; exact hw.elim
     | some ρ1 =>
      simp only [eg] at hw
      obtain ⟨kl, kk⟩ := hkeep _ _ _ eg
      refine thn (hg cl P2.objs.size s2 H2 fp _ s5 σs H5 x u (fun σ' H' => H' = H5 ∧ RepEnv X.K H5 ρ1 σ') I5' r5 ⟨ts[i], L6 sel ρ, ρ1, rx, Rs, eg, fun σ' R' => ⟨rfl, R'⟩⟩) fun _ s6 ⟨σ6, H6, I6, e6, R6⟩ => ?_
      subst e6
      cases et : test ρ1 with
      | bad => simp only [et] at hw; exact hw.elim
      | ex c fs => simp only [et] at hw; exact hw.elim
      | ok k =>
       refine thn (ht cl P2.objs.size s2 H2 fp _ s6 σ6 H6 (fun b H' => b = k ∧ Same H6 H') I6 ⟨ρ1, R6, by rw [et]; exact fun H' sm => ⟨rfl, sm⟩⟩) fun b s7 ⟨H7, I7, eb, s67⟩ => ?_
       subst eb
       have back : ∀ {H8 : Hp}, Same H6 H8 → RepEnv X.K H8 (L6 sel ρ) σ6 := fun {H8} sm => by
        refine ⟨by rw [← kl]; exact R6.len, fun a t q => ?_⟩
        have hsl : ∃ j, sel[a]? = some (some j) := by
         unfold L6 at q
         rw [List.getElem?_map] at q
         cases es : sel[a]? with
         | none => rw [es] at q; cases q
         | some o =>
          cases o with
          | none =>
           rw [es] at q
           have : (none : Option T) = some t := Option.some.inj q
           cases this
          | some j => exact ⟨j, rfl⟩
        obtain ⟨j, hj⟩ := hsl
        obtain ⟨v, e1, e2⟩ := R6.get a t (by rw [kk a j hj]; exact q)
        exact ⟨v, e1, Rep.mono sm t v e2⟩
       have keepA : ∀ {s8 : Shared} {H8 : Hp}, Inv Xc ([] ++ U3 (s2.heap.objs.size :: fp) s5.heap) σ6 H8 s8 → tn (i + 1) s8.heap ∧ (∀ b ∈ s2.heap.objs.size :: fp, H8 b = none) ∧ s8.heap.PlainList s2.heap.objs.size its.toArray := fun {s8 H8} I8 => by
        refine ⟨TT.keep _ _ _ st5 fun b hb o e => (I8.pin (b, o) (List.mem_append_right _ (List.mem_append_right _ (C9 (List.mem_cons_of_mem _ hb) e)))).1, fun b hb => ?_, nA, (I8.pin (s2.heap.objs.size, _) (List.mem_append_right _ (List.mem_append_right _ (C9 List.mem_cons_self pinA.1)))).1⟩
        rcases List.mem_cons.mp hb with q | q
        ·subst q; exact (I8.pin (s2.heap.objs.size, _) (List.mem_append_right _ (List.mem_append_right _ (C9 List.mem_cons_self pinA.1)))).2.1
        ·obtain ⟨o, e, d⟩ := TT.obj _ _ st5 b q
         exact (I8.pin (b, o) (List.mem_append_right _ (List.mem_append_right _ (C9 hb e)))).2.1
       cases b with
       | false =>
        rw [if_neg Bool.false_ne_true]
        simp only [et] at hw
        obtain ⟨k1, k2, k3⟩ := keepA I7
        exact ⟨ts.length + 1 - (i + 1), by omega, i + 1, H7, σ6, xs, ys, its, hlt, rfl, I7.unpinned, k1, k2, k3, hv, RepL.mono s67 xs ys rl, sHs.trans s67, back s67, by omega, hw⟩
       | true =>
        rw [if_pos rfl]
        simp only [et] at hw
        cases ee : te ρ1 with
        | bad => simp only [ee] at hw; exact hw.elim
        | ex c fs => simp only [ee] at hw; exact hw.elim
        | ok y =>
         simp only [ee] at hw
         refine thn (he cl P2.objs.size s2 H2 fp _ s7 σ6 H7 (fun v H' => Same H7 H' ∧ Rep X.K H' y v) I7 ⟨ρ1, R6.mono s67, by rw [ee]; exact fun v H' sm r => ⟨sm, r⟩⟩) fun u8 s8 ⟨v8, H8, I8, r8, s78, rp⟩ => ?_
         obtain ⟨k1, k2, k3⟩ := keepA I8
         have lens : its.length = xs.length := by rw [← hv.length, rl.length]
         refine wpAny_list_append_plain (hsz := by rw [List.size_toArray]; have : sizeLine = 16777216 := sizeLine_eq; omega) k3 fun h9 hl9 hs9 => ?_
         have I9 : Inv Xc [] σ6 H8 { s8 with heap := h9 } := by
          obtain ⟨p1, p2, p3, p4, p5, p6⟩ := stat k2 s2.heap.objs.size List.mem_cons_self
          exact I8.unpinned.turned (t' := s8.toks) (fun b o hb e => hs9.extBut b o hb e) p1 p2 p4 p5 p6
         refine ⟨ts.length + 1 - (i + 1), by omega, i + 1, H8, σ6, xs ++ [y], ys ++ [v8], its ++ [u8], hlt, rfl, I9, TT.keep _ _ _ k1 fun b hb o e => hs9.extBut b o (Nat.ne_of_lt (ltD b hb)) e, k2, by simpa using hl9, hv.append (.cons r8 .nil), (RepL.mono (s67.trans s78) xs ys rl).append (B7 rp G6), sHs.trans (s67.trans s78), back (s67.trans s78), by rw [List.length_append, List.length_singleton]; omega, ?_⟩
         refine D0 (Same.refl H) (fun zs hz => ?_) (C7 hw)
         have hz' : AYR X.K H Q (.list (xs ++ (y :: zs))) := hz
         show AYR X.K H Q (.list (xs ++ [y] ++ zs))
         rw [List.append_assoc]
         exact hz'
    ·have ei : i = ts.length := by omega
     have Is' := Is.pinned (fp := [s2.heap.objs.size]) (fun b hb => stat fr b (by simp at hb; subst hb; exact List.mem_cons_self)) (fun b hb => by
      simp at hb; subst hb
      obtain ⟨n, e⟩ := hpl
      exact ⟨_, e, fun v z => by cases z⟩)
     obtain ⟨nA, eA⟩ := id hpl
     refine thn (TT.done Xc rfl rfl rfl rfl i _ s' σs Hs (fun _ _ => False) Is' (fun b hb => ?_) st ((iO i Hs sHs).2 (by omega))) fun r s4 ⟨hr, I4⟩ => ?_
     ·obtain ⟨p1, p2, p3, p4, p5, p6⟩ := stat fr b (List.mem_cons_of_mem _ hb)
      refine ⟨p1, p2, p3, p4, p5, fun p hp z => ?_⟩
      have hp' : p ∈ U3 [s2.heap.objs.size] s'.heap := hp
      obtain ⟨q, _⟩ := d6 hp'
      have q' : p.1 = s2.heap.objs.size := by simpa using q
      exact absurd (z.symm.trans q') (Nat.ne_of_lt (ltD b hb))
     subst hr
     have pinA := I4.pin (s2.heap.objs.size, _) (List.mem_append_right _ (List.mem_append_right _ (C9 (List.mem_singleton.mpr rfl) eA)))
     obtain ⟨m, hn, _⟩ := I4.loc
     refine hfin _ _ _ (Nat.ne_of_lt (Nat.lt_trans I2.lt hDC)) (fun x c e => by
      obtain ⟨v, o, e', q⟩ := I2.cell x c e
      exact Nat.ne_of_lt (Nat.lt_trans (Heap.lt_size e') hDC)) ⟨m, hn, fun h' sb => ?_⟩
     have k : ∀ b o, b ≠ P2.objs.size → s4.heap.get? b = some o → h'.get? b = some o := fun b o hb e => sb.extBut b o hb e
     have un0 : Un (frs X.stack) fp H2 Hs s2.heap h' := AG7 I4.base noC k
     have freeC' : Hs P2.objs.size = none := I4.free
     have hok0 : HOk X.prog X.w Hs h' := fun b u e => by
      refine (I4.hok b u e).stay (fun c v hc q => k c v ?_ q) (fun _ q => q) fun _ _ q => q
      rcases hc with z | z
      ·rw [z]; intro y; rw [y, freeC'] at e; cases e
      ·intro y; rw [y, freeC'] at z; cases z
     have freeD : Hs s2.heap.objs.size = none := fr _ List.mem_cons_self
     have eD : h'.get? s2.heap.objs.size = some { cls := .type "list", data := .seq its.toArray nA } := k _ _ (Nat.ne_of_lt hDC) pinA.1
     have neD : ∀ b o, s2.heap.get? b = some o → b ≠ s2.heap.objs.size := fun b o e => Nat.ne_of_lt (Heap.lt_size e)
     have un1 : Un (frs X.stack) fp H2 (upd Hs s2.heap.objs.size (.lst ys)) s2.heap h' := by
      refine ⟨un0.keep, un0.slot, fun b o e n hx => by rw [C0 (neD b o e)]; exact un0.free b o e n hx, un0.there, fun b xs e => ?_, fun b o u e => ?_, fun b ps e => ?_⟩
      ·rw [C0 (G9 e freshD)]; exact un0.tups b xs e
      ·rw [C0 (G9 e freshD)]; exact un0.frzs b o u e
      ·rw [C0 (G9 e freshD)]; exact un0.tbls b ps e
     have lens : its.length = xs.length := by rw [← hv.length, rl.length]
     have hok1 : HOk X.prog X.w (upd Hs s2.heap.objs.size (.lst ys)) h' := fun b u e => by
      by_cases hb : b = s2.heap.objs.size
      ·subst hb
       rw [D9] at e
       cases e
       exact ⟨by rw [rl.length]; have : sizeLine = 16777216 := sizeLine_eq; omega, its, nA, hv, eD⟩
      ·rw [C0 hb] at e
       exact (hok0 b u e).stay (fun c v hc q => q) (fun c q => by rw [C0 (G9 q freeD)]; exact q) fun c o q => by rw [C0 (G9 q freeD)]; exact q
     obtain ⟨hh, gg, dd, tt, os'⟩ := s4
     obtain rfl : os' = s2.os := I4.os
     have I' := I2.call (ch := fp) (h' := h') (g' := gg) (t' := tt) (d' := dd) un1 hok1 I4.bare (fun b hb => ⟨(f2 b hb).2.2.2.1, (f2 b hb).2.1, (f2 b hb).2.2.2.2.1, (f2 b hb).2.2.2.2.2⟩)
     rw [List.drop_eq_nil_of_le (by omega), O6] at hw
     have hw2 : AYR X.K H Q (.list (xs ++ [])) := hw
     rw [List.append_nil] at hw2
     exact ⟨.ref s2.heap.objs.size, _, I', rfl, hw2 _ Hs ys (sH.trans sHs) freeD rl⟩
   ·rcases List.mem_cons.mp hb with q | q
    ·rw [q]; exact freshD
    ·exact (f2 b q).1
  exact codeAny_compStart_list loop (TT.self _ 0 _ _ _ (TT.keep _ _ _ st2 fun b _ o e => old b o e) loop)
 ·rw [if_neg hts] at h; exact h.elim
theorem AN2 {it : FI} {sel : List (Option Nat)} {g : FG} {test : FT} {te : FE} (ρ : Ev) (a : T) (h : U5 it sel g test te ρ = .ok a) : ∃ xs, a = .list xs := by
 unfold U5 at h
 cases e : it ρ with
 | bad => rw [e] at h; cases h
 | ex c fs => rw [e] at h; cases h
 | ok ts =>
  rw [e] at h
  have h' : (if ts.length ≤ 100000 then (O6 g test te (L6 sel ρ) ts).bind fun xs => R.ok (PyData.list xs) else .bad) = .ok a := h
  by_cases hl : ts.length ≤ 100000
  ·rw [if_pos hl] at h'
   cases ec : O6 g test te (L6 sel ρ) ts with
   | bad => rw [ec] at h'; cases h'
   | ex c fs => rw [ec] at h'; cases h'
   | ok xs =>
    rw [ec] at h'
    have h2 : R.ok (PyData.list xs) = R.ok a := h'
    injection h2 with h3
    exact ⟨xs, h3.symm⟩
  ·rw [if_neg hl] at h'; cases h'
end
mutual
theorem Z9 {X : Cx} {pins : List (Addr × Obj)} {σ : St} {H : Hp} {s : Shared} (I : Inv X pins σ H s) : ∀ (t : T) (v : V) (u : Value), Rep X.K H t v → RelV v u → t.canLay0 = true → ∃ as, Reads s.heap u t as
 | .none, v, u, r, q, _ => by unfold Rep at r; subst r; cases q; exact ⟨_, .none⟩
 | .bool b, v, u, r, q, _ => by unfold Rep at r; subst r; cases q; exact ⟨_, .bool b⟩
 | .int i, v, u, r, q, _ => by unfold Rep at r; subst r; obtain ⟨t, rfl⟩ := q; exact ⟨_, .int i t⟩
 | .str x, v, u, r, q, _ => by unfold Rep at r; obtain ⟨rfl, _⟩ := r; obtain ⟨t, rfl⟩ := q; exact ⟨_, .str x t⟩
 | .list ts, v, u, r, q, c => by
  unfold Rep at r
  obtain ⟨a, vs, rfl, hq, l⟩ := r
  cases q
  obtain ⟨its, rv, ⟨o, n, e, hc, _, hd⟩, _⟩ := I.list hq
  obtain ⟨as, ra⟩ := readsAll_of I ts vs its l rv (by unfold PyData.canLay0 at c; exact c)
  exact ⟨_, .list e hc hd ra⟩
 | .tuple ts, v, u, r, q, c => by
  unfold Rep at r
  obtain ⟨a, vs, rfl, hq, l⟩ := r
  cases q
  obtain ⟨its, rv, ⟨o, e, hc, n, hd⟩, _⟩ := I.tuple hq
  obtain ⟨as, ra⟩ := readsAll_of I ts vs its l rv (by unfold PyData.canLay0 at c; exact c)
  exact ⟨_, .tuple e hc hd ra⟩
 | .dict _, _, _, _, _, c => by unfold PyData.canLay0 at c; cases c
theorem readsAll_of {X : Cx} {pins : List (Addr × Obj)} {σ : St} {H : Hp} {s : Shared} (I : Inv X pins σ H s) : ∀ (ts : List T) (vs : List V) (us : List Value), RepL X.K H ts vs → Vals vs us → PyData.canLayAll0 ts = true → ∃ as, ReadsAll s.heap us ts as
 | [], vs, us, r, q, _ => by unfold RepL at r; subst r; cases q; exact ⟨_, .nil⟩
 | t :: ts, vs, us, r, q, c => by
  unfold RepL at r
  obtain ⟨v, vr, rfl, r1, r2⟩ := r
  cases q with
  | cons q1 q2 =>
   unfold PyData.canLayAll0 at c
   obtain ⟨c1, c2⟩ := Bool.and_eq_true_iff.mp c
   obtain ⟨as, h1⟩ := Z9 I t v _ r1 q1 c1
   obtain ⟨bs, h2⟩ := readsAll_of I ts vr _ r2 q2 c2
   exact ⟨_, .cons h1 h2⟩
end
def eqB : T → T → Option Bool
 | .str x, .str y => some (x == y)
 | a, b => if (SeqAt.shaped a && SeqAt.shaped b) = true then some (PyData.eqv a b) else none
def eqT (a b : T) : Option T := (eqB a b).map .bool
def neT (a b : T) : Option T := (eqB a b).map fun k => .bool (!k)
def AbN (K : PySem.W.Frag) : R2 := fun x y H Q => ∃ a b k, Rep K H a x ∧ Rep K H b y ∧ eqB a b = some k ∧ Q (.bl k) H
def AbO (K : PySem.W.Frag) : R2 := fun x y H Q => ∃ a b k, Rep K H a x ∧ Rep K H b y ∧ eqB a b = some k ∧ Q (.bl (!k)) H
section
variable {X : Cx} {Ek : EK}
theorem ADH (a b : T) : (∃ x y, a = .str x ∧ b = .str y) ∨ eqB a b = if (SeqAt.shaped a && SeqAt.shaped b) = true then some (PyData.eqv a b) else none := by
 cases a with
 | str x =>
  cases b with
  | str y => exact .inl ⟨x, y, rfl, rfl⟩
  | _ => exact .inr rfl
 | _ => exact .inr rfl
theorem AGE (hu : X.A.units + 64 < cLine) : OpR X (compareOp .Eq) (AbN X.K) := by
 intro pins s σ H x y v u Q I rx ry h
 obtain ⟨a, b, k, ra, rb, e, q⟩ := h
 rcases ADH a b with ⟨p, p', rfl, rfl⟩ | e'
 ·have e2 : (p == p') = k := Option.some.inj e
  unfold Rep at ra rb
  obtain ⟨rfl, _⟩ := ra
  obtain ⟨rfl, _⟩ := rb
  refine Aa5 pins s σ H _ _ v u Q I rx ry ⟨rfl, ?_⟩
  rw [AGZ, e2]; exact q
 ·rw [e'] at e
  by_cases hs : (SeqAt.shaped a && SeqAt.shaped b) = true
  ·rw [if_pos hs] at e
   have e2 := Option.some.inj e
   obtain ⟨h1, h2⟩ := Bool.and_eq_true_iff.mp hs
   obtain ⟨as, r1⟩ := Z9 I a x v ra rx (SeqAt.canLay_of_shaped h1)
   obtain ⟨bs, r2⟩ := Z9 I b y u rb ry (SeqAt.canLay_of_shaped h2)
   refine eq_dataH r1 r2 h1 h2 hu ?_
   rw [e2]
   exact ⟨.bl k, H, I, rfl, q⟩
  ·rw [if_neg hs] at e; cases e
theorem j7 (hu : X.A.units + 64 < cLine) : OpR X (compareOp .NotEq) (AbO X.K) := by
 intro pins s σ H x y v u Q I rx ry h
 obtain ⟨a, b, k, ra, rb, e, q⟩ := h
 rcases ADH a b with ⟨p, p', rfl, rfl⟩ | e'
 ·have e2 : (p == p') = k := Option.some.inj e
  unfold Rep at ra rb
  obtain ⟨rfl, _⟩ := ra
  obtain ⟨rfl, _⟩ := rb
  refine Aa1 pins s σ H _ _ v u Q I rx ry ⟨rfl, ?_⟩
  rw [AGZ, e2]; exact q
 ·rw [e'] at e
  by_cases hs : (SeqAt.shaped a && SeqAt.shaped b) = true
  ·rw [if_pos hs] at e
   have e2 := Option.some.inj e
   obtain ⟨h1, h2⟩ := Bool.and_eq_true_iff.mp hs
   obtain ⟨as, r1⟩ := Z9 I a x v ra rx (SeqAt.canLay_of_shaped h1)
   obtain ⟨bs, r2⟩ := Z9 I b y u rb ry (SeqAt.canLay_of_shaped h2)
   refine ne_dataH r1 r2 h1 h2 hu ?_
   rw [e2]
   exact ⟨.bl (!k), H, I, rfl, q⟩
  ·rw [if_neg hs] at e; cases e
theorem ADT {K : PySem.W.Frag} : ACL K (AbN K) eqT := fun x y tx ty a H Q rx ry e q => by
 unfold eqT at e
 cases h : eqB tx ty with
 | none => rw [h] at e; cases e
 | some k =>
  rw [h] at e
  have e' : PyData.bool k = a := Option.some.inj e
  subst e'
  exact ⟨tx, ty, k, rx, ry, h, q _ H (Same.refl H) L7⟩
theorem R5 {K : PySem.W.Frag} : ACL K (AbO K) neT := fun x y tx ty a H Q rx ry e q => by
 unfold neT at e
 cases h : eqB tx ty with
 | none => rw [h] at e; cases e
 | some k =>
  rw [h] at e
  have e' : PyData.bool (!k) = a := Option.some.inj e
  subst e'
  exact ⟨tx, ty, k, rx, ry, h, q _ H (Same.refl H) L7⟩
theorem ALP (x y c : T) (h : eqT x y = some c) : ∃ k, c = .bool k := by
 unfold eqT at h
 cases e : eqB x y with
 | none => rw [e] at h; cases h
 | some k => rw [e] at h; exact ⟨k, (Option.some.inj h).symm⟩
theorem M9 (x y c : T) (h : neT x y = some c) : ∃ k, c = .bool k := by
 unfold neT at h
 cases e : eqB x y with
 | none => rw [e] at h; cases h
 | some k => rw [e] at h; exact ⟨!k, (Option.some.inj h).symm⟩
def AE7 (f : Int → Int → Option T) : T → T → Option T
 | .int i, .int j => f i j
 | _, _ => none
theorem AD3 {K : PySem.W.Frag} {g : Int → Int → V} {f : Int → Int → Option T} (h : ∀ i j H, ∃ a, f i j = some a ∧ Rep K H a (g i j)) : ACL K (rI0 g) (AE7 f) := fun x y tx ty a H Q rx ry e q => by
 match tx, ty, e, rx, ry with
 | .int i, .int j, e, rx, ry =>
  unfold Rep at rx ry
  subst rx; subst ry
  obtain ⟨b, e1, r⟩ := h i j H
  have e' : f i j = some a := e
  rw [e1] at e'
  have e2 := Option.some.inj e'
  subst e2
  exact ⟨i, j, rfl, rfl, q _ H (Same.refl H) r⟩
theorem AEC {K : PySem.W.Frag} {C : Int → Int → Prop} {g : Int → Int → V} {f : Int → Int → Option T} (h : ∀ i j a, f i j = some a → C i j ∧ ∀ H, Rep K H a (g i j)) : ACL K (rI C g) (AE7 f) := fun x y tx ty a H Q rx ry e q => by
 match tx, ty, e, rx, ry with
 | .int i, .int j, e, rx, ry =>
  unfold Rep at rx ry
  subst rx; subst ry
  obtain ⟨c, r⟩ := h i j a e
  exact ⟨i, j, rfl, rfl, c, q _ H (Same.refl H) (r H)⟩
theorem K0 {f : Int → Int → Bool} (x y c : T) (h : AE7 (fun i j => some (.bool (f i j))) x y = some c) : ∃ k, c = .bool k := by
 match x, y, h with
 | .int i, .int j, h => exact ⟨_, (Option.some.inj h).symm⟩
def ltT := AE7 fun i j => some (.bool (decide (i < j)))
def leT := AE7 fun i j => some (.bool (decide (i ≤ j)))
def gtT := AE7 fun i j => some (.bool (decide (j < i)))
def geT := AE7 fun i j => some (.bool (decide (j ≤ i)))
def AC9 := AE7 fun i j => some (.int (i - j))
def ABS := AE7 fun i j => if j = 0 then none else some (.int (i.fmod j))
def AWX (_ j : Int) : Prop := j ≠ 0 ∧ j.natAbs.log2 < 9000
theorem Q4 {X : Cx} : OpR X (binaryOp .FloorDiv) (rI AWX fun i j => .int (i.fdiv j)) := opI fun _ _ _ _ _ _ _ hc q => floordiv_int hc.1 q (.inl (PyProof.noPylong_of_log2 hc.2))
def M7 := AE7 fun i j => if j = 0 ∨ ¬ j.natAbs.log2 < 9000 then none else some (.int (i.fdiv j))
def AJY := AE7 fun i j => if 0 ≤ j ∧ j ≤ 1000 ∧ i.natAbs < 2 ^ 64 then some (.int (i ^ j.toNat)) else none
def CMulG (i j : Int) : Prop := CMul i j ∨ (i.natAbs.log2 < 1000 ∧ j.natAbs.log2 < 1000)
theorem CMulG.ok {i j : Int} (h : CMulG i j) : IntMulOk i j := by
 rcases h with h | ⟨h1, h2⟩
 ·exact h.ok
 ·unfold IntMulOk
  have b1 : Builtin.Int.intBits i ≤ 1000 := by unfold Builtin.Int.intBits; split <;> omega
  have b2 : Builtin.Int.intBits j ≤ 1000 := by unfold Builtin.Int.intBits; split <;> omega
  have nt : Builtin.Int.intTooBig ((Builtin.Int.intBits i : Int) + (Builtin.Int.intBits j : Int)) = false := by
   unfold Builtin.Int.intTooBig
   have hb : (2000 : Int) ≤ bitsLine := by decide
   rw [decide_eq_false_iff_not]
   omega
  intro z
  have z2 := (Bool.and_eq_true_iff.mp z).2
  rw [nt] at z2
  cases z2
theorem op_mulG {X : Cx} : OpR X (binaryOp .Mult) (rI CMulG fun i j => .int (i * j)) := opI fun _ _ _ _ _ _ _ hc q => mul_int q hc.ok
instance {i j : Int} : Decidable (CMulG i j) := by unfold CMulG CMul; infer_instance
def AaA : Int → Int → Option T := fun i j => if CMulG i j then some (.int (i * j)) else none
theorem ADB {K : PySem.W.Frag} : ACL K (rI0 fun i j => .bl (decide (i < j))) ltT := AD3 fun _ _ _ => ⟨_, rfl, L7⟩
theorem AGC {K : PySem.W.Frag} : ACL K (rI0 fun i j => .bl (decide (i ≤ j))) leT := AD3 fun _ _ _ => ⟨_, rfl, L7⟩
theorem AGK {K : PySem.W.Frag} : ACL K (rI0 fun i j => .bl (decide (j < i))) gtT := AD3 fun _ _ _ => ⟨_, rfl, L7⟩
theorem AOD {K : PySem.W.Frag} : ACL K (rI0 fun i j => .bl (decide (j ≤ i))) geT := AD3 fun _ _ _ => ⟨_, rfl, L7⟩
theorem S7 {K : PySem.W.Frag} : ACL K (rI0 fun i j => .int (i - j)) AC9 := AD3 fun _ _ _ => ⟨_, rfl, D3⟩
theorem Y9 {K : PySem.W.Frag} : ACL K (rI (fun _ j => j ≠ 0) fun i j => .int (i.fmod j)) ABS := AEC fun i j a e => by
 by_cases h : j = 0
 ·simp only [h, if_true] at e; cases e
 ·simp only [h, if_false] at e
  have e' := Option.some.inj e
  subst e'
  exact ⟨h, fun _ => D3⟩
theorem Q2 {K : PySem.W.Frag} : ACL K (rI AWX fun i j => .int (i.fdiv j)) M7 := AEC fun i j a e => by
 by_cases h : j = 0 ∨ ¬ j.natAbs.log2 < 9000
 ·rw [if_pos h] at e; cases e
 ·rw [if_neg h] at e
  have e' := Option.some.inj e
  subst e'
  refine ⟨⟨fun z => h (.inl z), ?_⟩, fun _ => D3⟩
  by_cases q : j.natAbs.log2 < 9000
  ·exact q
  ·exact absurd (.inr q) h
theorem AAW {K : PySem.W.Frag} : ACL K (rI AbP fun i j => .int (i ^ j.toNat)) AJY := AEC fun i j a e => by
 by_cases h : 0 ≤ j ∧ j ≤ 1000 ∧ i.natAbs < 2 ^ 64
 ·rw [if_pos h] at e
  have e' := Option.some.inj e
  subst e'
  exact ⟨⟨h.1, by omega, h.2.2⟩, fun _ => D3⟩
 ·rw [if_neg h] at e; cases e
def AEH : T → Option T
 | .int i => some (.int (-i))
 | _ => none
theorem AB3 {K : PySem.W.Frag} : AbH K (rU fun i => .int (-i)) AEH := fun x tx a H Q rx e q => by
 match tx, e, rx with
 | .int i, e, rx =>
  unfold Rep at rx; subst rx
  have e' := Option.some.inj e
  subst e'
  exact ⟨i, rfl, q _ H (Same.refl H) D3⟩
def isB : T → T → Option Bool
 | .none, .none => some true
 | .bool a, .bool b => some (a == b)
 | .none, .bool _ => some false
 | .bool _, .none => some false
 | .int _, .none => some false
 | .str _, .none => some false
 | .list _, .none => some false
 | .tuple _, .none => some false
 | .int _, .bool _ => some false
 | .str _, .bool _ => some false
 | .list _, .bool _ => some false
 | .tuple _, .bool _ => some false
 | _, _ => none
def isT (a b : T) : Option T := (isB a b).map .bool
theorem ACT (x y c : T) (h : isT x y = some c) : ∃ k, c = .bool k := by
 unfold isT at h
 cases e : isB x y with
 | none => rw [e] at h; cases h
 | some k => rw [e] at h; exact ⟨k, (Option.some.inj h).symm⟩
end
section
variable {X : Cx} {Ek : EK}
def AbD (K : PySem.W.Frag) : R2 := fun x y H Q => ∃ a b k, Rep K H a x ∧ Rep K H b y ∧ isB a b = some k ∧ Q (.bl k) H
theorem AZK {K : PySem.W.Frag} {H : Hp} : ∀ {a b : T} {x y : V} {v u : Value} {k : Bool}, Rep K H a x → Rep K H b y → RelV x v → RelV y u → isB a b = some k →
  compareOp .Is v u = pure (.bool k) ∧ compareOp .IsNot v u = pure (.bool (!k)) := by
 intro a b x y v u k ra rb rv ru e
 have hb : (b = .none) ∨ ∃ c, b = .bool c := by
  cases b with
  | none => exact .inl rfl
  | bool c => exact .inr ⟨c, rfl⟩
  | _ => cases a <;> cases e
 rcases hb with rfl | ⟨c, rfl⟩
 ·unfold Rep at rb; subst rb; cases ru
  cases a with
  | none => unfold Rep at ra; subst ra; cases rv; cases e; exact ⟨rfl, rfl⟩
  | bool d => unfold Rep at ra; subst ra; cases rv; cases e; exact ⟨rfl, rfl⟩
  | int i => unfold Rep at ra; subst ra; obtain ⟨t, rfl⟩ := rv; cases e; exact ⟨rfl, rfl⟩
  | str i => unfold Rep at ra; obtain ⟨rfl, _⟩ := ra; obtain ⟨t, rfl⟩ := rv; cases e; exact ⟨rfl, rfl⟩
  | list i => unfold Rep at ra; obtain ⟨p, _, rfl, _⟩ := ra; cases rv; cases e; exact ⟨rfl, rfl⟩
  | tuple i => unfold Rep at ra; obtain ⟨p, _, rfl, _⟩ := ra; cases rv; cases e; exact ⟨rfl, rfl⟩
  | dict i => cases e
 ·unfold Rep at rb; subst rb; cases ru
  cases a with
  | none => unfold Rep at ra; subst ra; cases rv; cases e; exact ⟨rfl, rfl⟩
  | bool d =>
   unfold Rep at ra; subst ra; cases rv; cases e
   cases d <;> cases c <;> exact ⟨rfl, rfl⟩
  | int i => unfold Rep at ra; subst ra; obtain ⟨t, rfl⟩ := rv; cases e; exact ⟨rfl, rfl⟩
  | str i => unfold Rep at ra; obtain ⟨rfl, _⟩ := ra; obtain ⟨t, rfl⟩ := rv; cases e; exact ⟨rfl, rfl⟩
  | list i => unfold Rep at ra; obtain ⟨p, _, rfl, _⟩ := ra; cases rv; cases e; exact ⟨rfl, rfl⟩
  | tuple i => unfold Rep at ra; obtain ⟨p, _, rfl, _⟩ := ra; cases rv; cases e; exact ⟨rfl, rfl⟩
  | dict i => cases e
theorem AXE {K : PySem.W.Frag} {H : Hp} {a b : T} {x y : V} {v u : Value} {k : Bool} (ra : Rep K H a x) (rb : Rep K H b y) (rv : RelV x v) (ru : RelV y u) (e : isB a b = some k) :
  (∀ (M : Model) (A : Around) (Q : Value → Shared → Prop) (E : Value → Shared → Prop) (s : Shared), Q (.bool k) s → wpAny M A (compareOp .Is v u) Q E s) ∧
  (∀ (M : Model) (A : Around) (Q : Value → Shared → Prop) (E : Value → Shared → Prop) (s : Shared), Q (.bool (!k)) s → wpAny M A (compareOp .IsNot v u) Q E s) := by
 obtain ⟨h1, h2⟩ := AZK ra rb rv ru e
 rw [h1, h2]
 exact ⟨fun M A Q E s q => wpAny_pure q, fun M A Q E s q => wpAny_pure q⟩
theorem AJG : OpR X (compareOp .Is) (AbD X.K) := by
 intro pins s σ H x y v u Q I rx ry h
 obtain ⟨a, b, k, ra, rb, e, q⟩ := h
 exact (AXE ra rb rx ry e).1 _ _ _ _ _ ⟨.bl k, H, I, rfl, q⟩
theorem AEQ {K : PySem.W.Frag} : ACL K (AbD K) isT := fun x y tx ty a H Q rx ry e q => by
 unfold isT at e
 cases h : isB tx ty with
 | none => rw [h] at e; cases e
 | some k =>
  rw [h] at e
  have e' : PyData.bool k = a := Option.some.inj e
  subst e'
  exact ⟨tx, ty, k, rx, ry, h, q _ H (Same.refl H) L7⟩
def t9 : T → T → Option T
 | .int i, .int j => some (.int (i + j))
 | .str x, .str y => if x.length + y.length ≤ 1000000 then some (.str (x ++ y)) else none
 | .list xs, .list ys => if O5 (xs.length + ys.length) = true then some (.list (xs ++ ys)) else none
 | _, _ => none
def AXL (K : PySem.W.Frag) : R2 := fun x y H Q => ∃ l b xs zs, x = .ref l ∧ y = .ref b ∧ SqL K H l xs ∧ SqL K H b zs ∧ xs.length + zs.length ≤ sizeLine ∧ ∀ p, H p = none → Q (.ref p) (upd H p (.lst (xs ++ zs)))
theorem ATJ : OpR X (binaryOp .Add) (AXL X.K) := by
 intro pins s σ H x y v u Q I rx ry h
 obtain ⟨l, b, xs, zs, rfl, rfl, hH, hB, hz, q⟩ := h
 cases rx
 cases ry
 obtain ⟨its, r, ⟨⟨c1, d1, dt1, sl1⟩, n, e, hc, hd, hs⟩, z⟩ := I.list hH
 obtain ⟨its2, r2, ⟨⟨c2, d2, dt2, sl2⟩, n2, e2, hc2, hd2, hs2⟩, z2⟩ := I.list hB
 simp only at hc hd hs hc2 hd2 hs2
 subst hc hd hs hc2 hd2 hs2
 have hl := r.length
 have hl2 := r2.length
 have ea : its.toArray ++ its2.toArray = (its ++ its2).toArray := by simp
 have hz2 : its.toArray.size + its2.toArray.size ≤ sizeLine := by rw [List.size_toArray, List.size_toArray, ← hl, ← hl2]; exact hz
 refine concat_meets ⟨_, e, rfl⟩ ⟨_, e2, rfl⟩ noFill_list_add seq_list_add PySem.F.slot_list_add PySem.F.entry_list_add (PySem.F.args_list_add_2 _ _) (list_addW l b its.toArray its2.toArray n n2 none none sl1 sl2 hz2) ⟨e, e2, ?_⟩
 rw [ea]
 exact ⟨.ref _, _, I.lnew (t' := s.toks) (r.append r2) (by rw [List.length_append]; omega), rfl, q _ I.fresh⟩
def AV1 (K : PySem.W.Frag) : R2 := fun x y H Q => rI0 (fun i j => .int (i + j)) x y H Q ∨ (∃ i j, x = .str i ∧ y = .str j ∧ i.length + j.length ≤ sizeLine ∧ Q (.str (i ++ j)) H) ∨ AXL K x y H Q
theorem op_addT : OpR X (binaryOp .Add) (AV1 X.K) := op_add.or (op_add_str.or ATJ)
theorem E3 {K : PySem.W.Frag} : ACL K (AV1 K) t9 := fun x y tx ty a H Q rx ry e q => by
 match tx, ty, e, rx, ry with
 | .int i, .int j, e, rx, ry =>
  unfold Rep at rx ry; subst rx; subst ry
  have e' := Option.some.inj e
  subst e'
  exact .inl ⟨i, j, rfl, rfl, q _ H (Same.refl H) D3⟩
 | .str i, .str j, e, rx, ry =>
  unfold Rep at rx ry
  obtain ⟨rfl, h1⟩ := rx
  obtain ⟨rfl, h2⟩ := ry
  have e' : (if i.length + j.length ≤ 1000000 then some (PyData.str (i ++ j)) else none) = some a := e
  by_cases hl : i.length + j.length ≤ 1000000
  ·rw [if_pos hl] at e'
   have e2 := Option.some.inj e'
   subst e2
   have hz : i.length + j.length ≤ sizeLine := by have : sizeLine = 16777216 := sizeLine_eq; omega
   refine .inr (.inl ⟨i, j, rfl, rfl, hz, q _ H (Same.refl H) (ADE ?_)⟩)
   rw [size_cat]; exact hz
  ·rw [if_neg hl] at e'; cases e'
 | .list i, .list j, e, rx, ry =>
  unfold Rep at rx ry
  obtain ⟨p, vs, rfl, hp, l1⟩ := rx
  obtain ⟨p', vs', rfl, hp', l2⟩ := ry
  have e' : (if O5 (i.length + j.length) = true then some (PyData.list (i ++ j)) else none) = some a := e
  by_cases hl : O5 (i.length + j.length) = true
  ·rw [if_pos hl] at e'
   have e2 := Option.some.inj e'
   subst e2
   refine .inr (.inr ⟨p, p', vs, vs', rfl, rfl, hp, hp', by rw [l1.length, l2.length]; exact AEE hl, fun r hr => q _ _ (E6 hr _) ?_⟩)
   unfold Rep
   exact ⟨r, _, rfl, SqL.of D9, RepL.mono (E6 hr _) _ _ (l1.append l2)⟩
  ·rw [if_neg hl] at e'; cases e'
theorem ARL {K : PySem.W.Frag} : ACL K (rI CMulG fun i j => .int (i * j)) (AE7 AaA) := AEC fun i j a e => by
 unfold AaA at e
 by_cases h : CMulG i j
 ·rw [if_pos h] at e
  have e' := Option.some.inj e
  subst e'
  exact ⟨h, fun _ => D3⟩
 ·rw [if_neg h] at e; cases e
def ATE : List T → Option T
 | [.int i] => some (.int (if i < 0 then -i else i))
 | _ => none
theorem ATW {K : PySem.W.Frag} : ASP K (fun xs H Q => ∃ i, xs = [.int i] ∧ Q (.int (if i < 0 then -i else i)) H) ATE := fun xs ts a H Q r e q => by
 match ts, e, r with
 | [.int i], e, r =>
  unfold RepL at r
  obtain ⟨v, vr, rfl, r1, r⟩ := r
  unfold RepL at r; subst r
  unfold Rep at r1; subst r1
  have e' := Option.some.inj e
  subst e'
  exact ⟨i, rfl, q _ H (Same.refl H) D3⟩
def AFJ : List T → Option T
 | [.str x] => some (.int x.length)
 | [.list xs] => some (.int xs.length)
 | [.tuple xs] => some (.int xs.length)
 | _ => none
theorem AV6 {K : PySem.W.Frag} : ASP K (fun xs H Q => ∃ x n, xs = [x] ∧ Ab4 K x H n ∧ Q (.int n) H) AFJ := fun xs ts a H Q r e q => by
 match ts, e, r with
 | [.str x], e, r =>
  unfold RepL at r
  obtain ⟨v, vr, rfl, r1, r⟩ := r
  unfold RepL at r; subst r
  unfold Rep at r1; obtain ⟨rfl, hz⟩ := r1
  have e' := Option.some.inj e
  subst e'
  exact ⟨_, x.length, rfl, ⟨hz, rfl⟩, q _ H (Same.refl H) D3⟩
 | [.list x], e, r =>
  unfold RepL at r
  obtain ⟨v, vr, rfl, r1, r⟩ := r
  unfold RepL at r; subst r
  unfold Rep at r1; obtain ⟨p, vs, rfl, hp, l⟩ := r1
  have e' := Option.some.inj e
  subst e'
  refine ⟨_, vs.length, rfl, .inl ⟨vs, hp, rfl⟩, ?_⟩
  rw [l.length]
  exact q _ H (Same.refl H) D3
 | [.tuple x], e, r =>
  unfold RepL at r
  obtain ⟨v, vr, rfl, r1, r⟩ := r
  unfold RepL at r; subst r
  unfold Rep at r1; obtain ⟨p, vs, rfl, hp, l⟩ := r1
  have e' := Option.some.inj e
  subst e'
  refine ⟨_, vs.length, rfl, .inr ⟨vs, hp, rfl⟩, ?_⟩
  rw [l.length]
  exact q _ H (Same.refl H) D3
end
structure Dfn (CX : CXT) (P : Program) (w : World) (K : PySem.W.Frag) (mg : Str → Option Value) (base : Heap) (x : Str) (k n : Nat) (m : List T → R T) : Prop where
 ex : ∃ (f : Addr) (fd : FuncData) (ps : List Str), FnOk P w K mg base CX k f fd ps (spM K n m) ∧ mg x = some (.ref f) ∧ PySem.W.keepIn K (.ref f) = true ∧ Binds K fd ps []
 hex : ∀ ts c fs, m ts = .ex c fs → fs = []
 dbg : (x == ("__debug__" : Str)) = false
structure NB (N : List Str) : Prop where
 nd : N.Nodup
 no : ∀ x ∈ N, (x == ("__debug__" : Str)) = false ∧ (x == ("__classdict__" : Str)) = false
section
variable {X : Cx} {Ek : EK}
theorem AFB {N : List Str} (nb : NB N) (i : Nat) {x : Str} {pos : Pos} (hX : X.N = N) (hN : N[i]? = some x) (hv : Vis X.env.scope x) : JE X Ek (.Name x pos) (A3 i) := by
 subst hX
 have := nb.no x (List.mem_of_getElem? hN)
 exact AY1 i hN hv this.1 this.2
theorem B3 {CX : CXT} {x : Str} {k j n : Nat} {m : List T → R T} {e : Expr} {es : List Expr} {t : FA} {p pos : Pos} (D : Dfn CX X.prog X.w X.K X.mg X.base x j n m) (hr : Room k X.A) (hj : j ≤ k) (hx : AGH CX X (AX7 X.K Ek)) (hg : Gl X x) (ha : JA X Ek (e :: es) t)
  (he : starEach (e :: es) X.env = (false, eval e X.env) :: starEach es X.env) (hpl : (backTo pos (starEach es X.env)).any (·.1) = false) : JE X Ek (.Call (.Name x p) (e :: es) [] pos) (eF (A5 n [] m) t) := by
 obtain ⟨f, fd, ps, F, hm, hk, hb⟩ := D.ex
 exact PE.weak (AVK (F.mono hj) hr hg hm hk hb .nil hx ha D.dbg he hpl) (Ac3 (fun H => G6) D.hex)
theorem ALH {id : String} {x : Str} {r : List V → Hp → VK → Prop} {g : List T → Option T} {e : Expr} {es : List Expr} {t : FA} {p pos : Pos} (hc : AFX X (.builtin id) r) (hi : ASP X.K r g) (hv : bootBuiltins x = some (.builtin id)) (hn : x ≠ "__name__") (hd : (x == ("__debug__" : Str)) = false)
  (hm : X.mg x = none) (hg : Gl X x) (ha : JA X Ek (e :: es) t) (he : starEach (e :: es) X.env = (false, eval e X.env) :: starEach es X.env) (hpl : (backTo pos (starEach es X.env)).any (·.1) = false) : JE X Ek (.Call (.Name x p) (e :: es) [] pos) (eN g t) :=
 PE.weak (ALV hc hg hm hv ha hn hd he hpl) (AaX hi)
theorem AZP {id : String} {x : Str} {r : List V → Hp → VK → Prop} {g : List T → Option T} {e : Expr} {es : List Expr} {t : FA} {p pos : Pos} (hc : AFX X (.type id) r) (hi : ASP X.K r g) (hv : bootBuiltins x = some (.type id)) (hn : x ≠ "__name__") (hd : (x == ("__debug__" : Str)) = false)
  (hm : X.mg x = none) (hg : Gl X x) (ha : JA X Ek (e :: es) t) (he : starEach (e :: es) X.env = (false, eval e X.env) :: starEach es X.env) (hpl : (backTo pos (starEach es X.env)).any (·.1) = false) : JE X Ek (.Call (.Name x p) (e :: es) [] pos) (eN g t) :=
 PE.weak (AQJ hc hg hm hv ha hn hd he hpl) (AaX hi)
theorem ACZ {e : Expr} {t : FA} {p pos : Pos} (hm : X.mg "len" = none) (hg : Gl X "len") (ha : JA X Ek [e] t) (he : starEach [e] X.env = (false, eval e X.env) :: starEach [] X.env) : JE X Ek (.Call (.Name "len" p) [e] [] pos) (eN AFJ t) :=
 ALH AS8 AV6 PySem.boot_len (by decide +kernel) (by decide +kernel) hm hg ha he rfl
theorem AIB {e : Expr} {t : FA} {p pos : Pos} (hm : X.mg "abs" = none) (hg : Gl X "abs") (ha : JA X Ek [e] t) (he : starEach [e] X.env = (false, eval e X.env) :: starEach [] X.env) : JE X Ek (.Call (.Name "abs" p) [e] [] pos) (eN ATE t) :=
 ALH ARX ATW (by decide +kernel) (by decide +kernel) (by decide +kernel) hm hg ha he rfl
def AJ5 : T → Option String
 | .none => some "NoneType"
 | .bool _ => some "bool"
 | .int _ => some "int"
 | .str _ => some "str"
 | .list _ => some "list"
 | .tuple _ => some "tuple"
 | .dict _ => none
def AWQ (a b : String) : Bool := a == b || (a == "bool" && b == "int")
def AIC (c : String) : T → Option T := fun t => (AJ5 t).map fun n => .bool (AWQ n c)
def ixT : T → T → Option T
 | .list xs, .int i => atI xs i
 | .tuple xs, .int i => atI xs i
 | .str x, .int i => (atI x.cps.toList i).map fun c => .str ⟨#[c]⟩
 | _, _ => none
theorem AO9 {K : PySem.W.Frag} {H : Hp} {xs : List T} {vs : List V} {i : Int} {t : T} (l : RepL K H xs vs) (h : atI xs i = some t) : ∃ v, atI vs i = some v ∧ Rep K H t v := by
 unfold atI at h ⊢
 rw [l.length]
 cases e : ixN xs.length i with
 | none => rw [e] at h; cases h
 | some j =>
  rw [e] at h
  obtain ⟨v, e1, e2⟩ := l.get (i := j) h
  exact ⟨v, e1, e2⟩
theorem AW7 {K : PySem.W.Frag} : ACL K (rIx K) ixT := fun x y tx ty a H Q rx ry e q => by
 match tx, ty, e, rx, ry with
 | .list xs, .int i, e, rx, ry =>
  unfold Rep at rx ry; subst ry
  obtain ⟨p, vs, rfl, hp, l⟩ := rx
  obtain ⟨v, e1, e2⟩ := AO9 l e
  exact .inl ⟨p, vs, i, v, rfl, rfl, hp, e1, q _ H (Same.refl H) e2⟩
 | .tuple xs, .int i, e, rx, ry =>
  unfold Rep at rx ry; subst ry
  obtain ⟨p, vs, rfl, hp, l⟩ := rx
  obtain ⟨v, e1, e2⟩ := AO9 l e
  exact .inr (.inl ⟨p, vs, i, v, rfl, rfl, hp, e1, q _ H (Same.refl H) e2⟩)
 | .str z, .int i, e, rx, ry =>
  unfold Rep at rx ry; subst ry
  obtain ⟨rfl, hz⟩ := rx
  have e' : (atI z.cps.toList i).map (fun c => PyData.str ⟨#[c]⟩) = some a := e
  cases h : atI z.cps.toList i with
  | none => rw [h] at e'; cases e'
  | some c =>
   rw [h] at e'
   have e2 := Option.some.inj e'
   subst e2
   exact .inr (.inr ⟨z, i, c, rfl, rfl, hz, h, q _ H (Same.refl H) (ADE (by show 1 ≤ sizeLine; decide))⟩)
theorem J7 {a b : Expr} {ta tb : FE} {pos : Pos} (ha : JE X Ek a ta) (hb : JE X Ek b tb) (hs : AOB b) : JE X Ek (.Subscript a b pos) (e2 ixT ta tb) :=
 PE.weak (Aa2 AWB ha hb hs) (ALF AW7)
end
def N5 (K : PySem.W.Frag) (E : XK) : EK := fun c _ H => ∀ C, ANJ K c C → E (.ref C) none H
section
variable {CX : CXT} {P : Program} {w : World} {K : PySem.W.Frag} {mg : Str → Option Value} {base : Heap}
theorem Dfn.of {x : Str} {st : Stmt} {f : Addr} {fd : FuncData} {N ps : List Str} {k : Nat} {m : List T → R T} {t : FS} (F : Fun K x x st f fd) (S : FnScope N ps (A6 st)) (hmg : mg x = some (.ref f)) (hb : Binds K fd ps []) (hex : ∀ ts c fs, m ts = .ex c fs → fs = []) (dbg : (x == ("__debug__" : Str)) = false)
  (hbody : ∀ (cdv : Value) (A : Around) (outer : List Env) (s : Shared) (H : Hp) (E : XK), Room k (A.deeper (envOfC x (A6 st) s.heap.objs.size f cdv)) → JSs (AB5 CX P w K mg base N x (A6 st) f cdv A outer s H E) (N5 K E) (B8 st) t)
  (hm : ∀ ts, ts.length = ps.length → m ts ≠ .bad → run N.length t ts = m ts) : Dfn CX P w K mg base x (k + 1) ps.length m := by
 refine ⟨⟨f, fd, ps, ?_, hmg, F.kp, hb⟩, hex, dbg⟩
 obtain ⟨oc, od, kV, doc, pm, an, cdv, ct, osl, rfl, lk, hcd⟩ := F.ex
 refine AYC lk hcd S (fun vs H Q E h => ?_) fun A outer s H vs Q E hr hsp => ⟨lS K (N5 K E) t, hbody cdv A outer s H E hr, ?_⟩
 ·obtain ⟨ts, rl, hl, _⟩ := h
  rw [rl.length, hl]
 ·obtain ⟨ts, rl, hl, h⟩ := hsp
  refine ⟨O4 N.length ts, AE1 N rl, ?_⟩
  have nb : m ts ≠ .bad := fun e => by rw [e] at h; exact h
  have e := hm ts hl nb
  unfold run at e
  cases q : t (O4 N.length ts) with
  | nx ρ =>
   rw [q] at e
   rw [← e] at h
   exact fun σ H' s' _ => h .non H' s' AH3
  | rt a =>
   rw [q] at e
   rw [← e] at h
   exact h
  | bk ρ => rw [q] at e; exact absurd e.symm nb
  | ct ρ => rw [q] at e; exact absurd e.symm nb
  | bad => rw [q] at e; exact absurd e.symm nb
  | ex c fs =>
   rw [q] at e
   rw [← e] at h
   exact fun H' s' C hC => h H' C s' hC
end
def AGI (scope so : Scope) (N Nc : List Str) (sel : List (Option Nat)) : Bool :=
 (scope.names.all fun p => (p.2 != .cell) && (p.2 != .free || so.names.lookup p.1 == some .cell || so.names.lookup p.1 == some .free) && (p.2 != .local || scope.names.lookup p.1 == some .local)) &&
 (scope.kind == .function) && (sel.length == Nc.length) &&
 (List.range sel.length).all fun i => match sel[i]? with
  | some (some j) => match Nc[i]? with
   | some x => (N[j]? == some x) && (scope.names.lookup x == some .free)
   | none => false
  | _ => true
def AIY (sel : List (Option Nat)) (g : FG) : Prop := ∀ t ρ ρ1, g t ρ = some ρ1 → ρ1.length = ρ.length ∧ ∀ i j : Nat, sel[i]? = some (some j) → ρ1[i]? = ρ[i]?
theorem C2 {sel : List (Option Nat)} {k : Nat} (h : sel[k]? = some none) : AIY sel (gName k) := fun t ρ ρ1 e => by
 have e' : ρ.set k (some t) = ρ1 := Option.some.inj e
 subst e'
 refine ⟨List.length_set, fun i j hi => ?_⟩
 have : k ≠ i := fun z => by rw [z, hi] at h; cases h
 rw [List.getElem?_set_ne this]
theorem AJQ {sel : List (Option Nat)} : ∀ (gs : List FG), (∀ g ∈ gs, AIY sel g) → ∀ ts ρ ρ1, AMS gs ts ρ = some ρ1 → ρ1.length = ρ.length ∧ ∀ i j : Nat, sel[i]? = some (some j) → ρ1[i]? = ρ[i]?
 | [], _, [], ρ, ρ1, e => by
  have e' : ρ = ρ1 := Option.some.inj e
  subst e'
  exact ⟨rfl, fun _ _ _ => rfl⟩
 | [], _, _ :: _, _, _, e => by cases e
 | _ :: _, _, [], _, _, e => by cases e
 | g :: gs, h, t :: ts, ρ, ρ1, e => by
  have e' : (g t ρ).bind (fun ρ' => AMS gs ts ρ') = some ρ1 := e
  cases e1 : g t ρ with
  | none => rw [e1] at e'; cases e'
  | some ρ' =>
   rw [e1] at e'
   obtain ⟨a1, a2⟩ := h g List.mem_cons_self t ρ ρ' e1
   obtain ⟨b1, b2⟩ := AJQ gs (fun g' hg => h g' (List.mem_cons_of_mem _ hg)) ts ρ' ρ1 e'
   exact ⟨b1.trans a1, fun i j hi => (b2 i j hi).trans (a2 i j hi)⟩
theorem W7 {sel : List (Option Nat)} {gs : List FG} (h : ∀ g ∈ gs, AIY sel g) : AIY sel (Tr.gTup gs) := fun t ρ ρ1 e => by
 cases t with
 | tuple ts => exact AJQ gs h ts ρ ρ1 e
 | _ => cases e
section
variable {X : Cx} {Ek : EK}
theorem AIH {elt tg iter : Expr} {ifs : List Expr} {scope so : Scope} {pos : Pos} {N Nc : List Str} {it : FI} {sel : List (Option Nat)} {g : FG} {test : FT} {te : FE}
  (hcalm : X.calm = true) (hso : X.env.scope = so) (hXN : X.N = N) (hok : AGI scope so N Nc sel = true) (hkeep : AIY sel g) (hi : JI X Ek tg iter it)
  (hg : ∀ cl C s H fp, JG (L5 X scope cl C Nc s H fp) tg g)
  (ht : ∀ cl C s H fp, JTs (L5 X scope cl C Nc s H fp) Ek0 ifs test)
  (he : ∀ cl C s H fp, JE (L5 X scope cl C Nc s H fp) Ek0 elt te)
  (hs : ∀ x, foldedSetIterable iter X.env x = pure x) : JCt X elt [⟨tg, iter, ifs, 0⟩] scope pos (lEF X.K Ek (U5 it sel g test te)) := by
 unfold AGI at hok
 obtain ⟨hok, h4⟩ := Bool.and_eq_true_iff.mp hok
 obtain ⟨hok, h3⟩ := Bool.and_eq_true_iff.mp hok
 obtain ⟨h1, h2⟩ := Bool.and_eq_true_iff.mp hok
 have h1' := List.all_eq_true.mp h1
 have h4' := List.all_eq_true.mp h4
 refine AS7 hcalm hi (fun x hx => ?_) (fun y hy => ?_) (by simpa using h2) (fun y hy hl => ?_) (by simpa using h3) (fun i j hij => ?_) hkeep hg ht he hs
 ·have q := h1' _ hx
  have q2 := (Bool.and_eq_true_iff.mp (Bool.and_eq_true_iff.mp q).1).2
  show X.env.scope.names.lookup x = _ ∨ X.env.scope.names.lookup x = _
  rw [hso]
  simp only [bne_self_eq_false, Bool.false_or, Bool.or_eq_true, beq_iff_eq] at q2
  exact q2
 ·have q := (Bool.and_eq_true_iff.mp (Bool.and_eq_true_iff.mp (h1' _ hy)).1).1
  intro z
  rw [z] at q
  simp at q
 ·have q := (Bool.and_eq_true_iff.mp (h1' _ hy)).2
  rw [hl] at q
  simpa using q
 ·have hlt : i < sel.length := by
   by_cases z : i < sel.length
   ·exact z
   ·rw [List.getElem?_eq_none (by omega)] at hij; cases hij
  have q := h4' i (List.mem_range.mpr hlt)
  rw [hij] at q
  cases e : Nc[i]? with
  | none => rw [e] at q; cases q
  | some x =>
   rw [e] at q
   have q' : ((N[j]? == some x) && (scope.names.lookup x == some .free)) = true := q
   obtain ⟨a, b⟩ := Bool.and_eq_true_iff.mp q'
   exact ⟨x, rfl, by rw [hXN]; exact eq_of_beq a, eq_of_beq b⟩
theorem AL3 {elt tg iter : Expr} {ifs : List Expr} {scope so : Scope} {pos : Pos} {N Nc : List Str} {it : FI} {sel : List (Option Nat)} {g : FG} {test : FT} {te : FE}
  (hcalm : X.calm = true) (hso : X.env.scope = so) (hXN : X.N = N) (hok : AGI scope so N Nc sel = true) (hkeep : AIY sel g) (hi : JI X Ek tg iter it)
  (hg : ∀ cl C s H fp, JG (L5 X scope cl C Nc s H fp) tg g)
  (ht : ∀ cl C s H fp, JTs (L5 X scope cl C Nc s H fp) Ek0 ifs test)
  (he : ∀ cl C s H fp, JE (L5 X scope cl C Nc s H fp) Ek0 elt te)
  (hs : ∀ x, foldedSetIterable iter X.env x = pure x) : JC X Ek elt [⟨tg, iter, ifs, 0⟩] scope pos (U5 it sel g test te) :=
 AZT (AIH hcalm hso hXN hok hkeep hi hg ht he hs) AN2
theorem E5 {elt tg iter : Expr} {ifs : List Expr} {scope so : Scope} {pos : Pos} {N Nc : List Str} {it : FI} {sel : List (Option Nat)} {g : FG} {test : FT} {te : FE}
  (hcalm : X.calm = true) (hso : X.env.scope = so) (hXN : X.N = N) (hok : AGI scope so N Nc sel = true) (hkeep : AIY sel g) (hi : JI X Ek tg iter it)
  (hg : ∀ cl C s H fp, JG (L5 X scope cl C Nc s H fp) tg g)
  (ht : ∀ cl C s H fp, JTs (L5 X scope cl C Nc s H fp) Ek0 ifs test)
  (he : ∀ cl C s H fp, JE (L5 X scope cl C Nc s H fp) Ek0 elt te)
  (hs : ∀ x, foldedSetIterable iter X.env x = pure x) : JE X Ek (.ListComp elt [⟨tg, iter, ifs, 0⟩] scope pos) (U5 it sel g test te) :=
 AaC (AL3 hcalm hso hXN hok hkeep hi hg ht he hs)
end
structure GlobC (K : PySem.W.Frag) (mg : Str → Option Value) (x : Str) (t : T) : Prop where
 ex : ∃ (u : Value) (v : V), mg x = some u ∧ RelV v u ∧ ∀ H, Rep K H t v
 dbg : (x == ("__debug__" : Str)) = false
structure Blt (mg : Str → Option Value) : Prop where
 len : mg "len" = none
 abs : mg "abs" = none
 str : mg "str" = none
 int : mg "int" = none
 bool : mg "bool" = none
 tuple : mg "tuple" = none
 list : mg "list" = none
 range : mg "range" = none
 isinstance : mg "isinstance" = none
 all : mg "all" = none
 max : mg "max" = none
 sum : mg "sum" = none
 zip : mg "zip" = none
section
variable {X : Cx} {Ek : EK}
theorem AEI {x : Str} {t : T} {pos : Pos} (g : GlobC X.K X.mg x t) (hg : Gl X x) : JE X Ek (.Name x pos) (eC t) := by
 obtain ⟨u, v, h1, h2, h3⟩ := g.ex
 exact ATS hg h1 h2 h3 g.dbg
theorem AWL {pins : List (Addr × Obj)} {σ : St} {H : Hp} {s : Shared} {t : T} {x : V} {u : Value} {n : String} (I : Inv X pins σ H s) (r : Rep X.K H t x) (ru : RelV x u) (e : AJ5 t = some n) :
  ∃ Hq, PySem.W.KitX X.K u (.type n) Hq ∧ Hq s.heap ∧ u ≠ .builtin "__main__.__loader__#opaque" := by
 cases t with
 | none => unfold Rep at r; subst r; cases ru; cases e; exact ⟨_, PySem.W.kitx_none, True.intro, fun z => nomatch z⟩
 | bool b => unfold Rep at r; subst r; cases ru; cases e; exact ⟨_, PySem.W.kitx_bool, True.intro, fun z => nomatch z⟩
 | int i => unfold Rep at r; subst r; obtain ⟨t, rfl⟩ := ru; cases e; exact ⟨_, PySem.W.kitx_int, True.intro, fun z => nomatch z⟩
 | str i => unfold Rep at r; obtain ⟨rfl, _⟩ := r; obtain ⟨t, rfl⟩ := ru; cases e; exact ⟨_, PySem.W.kitx_str, True.intro, fun z => nomatch z⟩
 | list ts =>
  unfold Rep at r; obtain ⟨a, vs, rfl, hq, _⟩ := r; cases ru; cases e
  obtain ⟨its, rv, ⟨o, n, e1, hc, _, hd⟩, _⟩ := I.list hq
  exact ⟨_, PySem.W.kitx_list, ⟨o, e1, hc⟩, fun z => nomatch z⟩
 | tuple ts =>
  unfold Rep at r; obtain ⟨a, vs, rfl, hq, _⟩ := r; cases ru; cases e
  obtain ⟨its, rv, ⟨o, e1, hc, n, hd⟩, _⟩ := I.tuple hq
  exact ⟨_, PySem.W.kitx_tuple, ⟨o, e1, hc⟩, fun z => nomatch z⟩
 | dict _ => cases e
def Ac9 (K : PySem.W.Frag) (c : String) : List V → Hp → VK → Prop := fun xs H Q => ∃ x t n b, xs = [x, .ty c] ∧ Rep K H t x ∧ AJ5 t = some n ∧ PySem.W.kitOne K (.type n) (.type c) = some b ∧ Q (.bl b) H
theorem AR1 {c : String} : AFX X (.builtin "isinstance") (Ac9 X.K c) := by
 intro pins s σ H xs us Q I r h
 obtain ⟨x, t, n, b, rfl, rt, hn, hk, q⟩ := h
 obtain ⟨u, u2, rfl, r1, r2⟩ := AZC r
 cases r2
 obtain ⟨Hq, kx, hh, hne⟩ := AWL I rt r1 hn
 exact PySem.W.kia_one kx I.kIn hh hk hne fun tk => ⟨.bl b, H, I.tok _, rfl, q⟩
theorem ATR (K : PySem.W.Frag) : ∀ n ∈ ["NoneType", "bool", "int", "str", "list", "tuple"], ∀ c ∈ ["bool", "int", "str", "list", "tuple"], PySem.W.kitOne K (.type n) (.type c) = some (AWQ n c) := by
 intro n hn c hc
 simp only [List.mem_cons, List.not_mem_nil, or_false] at hn hc
 rcases hn with rfl | rfl | rfl | rfl | rfl | rfl <;> rcases hc with rfl | rfl | rfl | rfl | rfl <;> with_unfolding_all rfl
theorem AM9 {t : T} {n : String} (h : AJ5 t = some n) : n ∈ ["NoneType", "bool", "int", "str", "list", "tuple"] := by
 cases t <;> cases h <;> simp
theorem AOF {c : Str} {cn : String} {a : Expr} {ta : FE} {p p2 pos : Pos} (hc : cn ∈ ["bool", "int", "str", "list", "tuple"]) (hv : bootBuiltins c = some (.type cn)) (hcn : c ≠ "__name__") (hcd : (c == ("__debug__" : Str)) = false) (hm1 : X.mg "isinstance" = none) (hm2 : X.mg c = none)
  (hg1 : Gl X "isinstance") (hg2 : Gl X c) (ha : JE X Ek a ta) (he : starEach [a, .Name c p2] X.env = (false, eval a X.env) :: starEach [.Name c p2] X.env) :
  JE X Ek (.Call (.Name "isinstance" p) [a, .Name c p2] [] pos) (e1 (AIC cn) ta) := by
 have hA : PA X [a, .Name c p2] (AU6 (lE X.K Ek ta) (AU6 (tC (.ty cn)) Ab3)) := AHB ha (AHB (AUS hg2 hm2 hv rfl hcn hcd) AM1 rfl) he
 refine PE.weak (ALV (AR1 (c := cn)) hg1 hm1 (by decide +kernel) hA (by decide +kernel) (by decide +kernel) he rfl) fun σ H Q h => ?_
 obtain ⟨ρ, R0, h⟩ := h
 refine ⟨ρ, R0, D0 (Same.refl H) (fun t ht => ?_) (C7 h)⟩
 intro v H1 s1 rt
 obtain ⟨b, eb, q⟩ := ACB ht
 unfold AIC at eb
 cases en : AJ5 t with
 | none => rw [en] at eb; cases eb
 | some n =>
  rw [en] at eb
  have eb' := Option.some.inj eb
  subst eb'
  exact ⟨v, t, n, _, rfl, rt, en, ATR X.K n (AM9 en) cn hc, q _ H1 s1 L7⟩
theorem AMW {a : Expr} {ta : FE} {p p2 pos : Pos} (B : Blt X.mg) (hg1 : Gl X "isinstance") (hg2 : Gl X "int") (ha : JE X Ek a ta) (he : starEach [a, .Name "int" p2] X.env = (false, eval a X.env) :: starEach [.Name "int" p2] X.env) : JE X Ek (.Call (.Name "isinstance" p) [a, .Name "int" p2] [] pos) (e1 (AIC "int") ta) :=
 AOF (by simp) (by decide +kernel) (by decide +kernel) (by decide +kernel) B.isinstance B.int hg1 hg2 ha he
theorem AF1 {a : Expr} {ta : FE} {p p2 pos : Pos} (B : Blt X.mg) (hg1 : Gl X "isinstance") (hg2 : Gl X "bool") (ha : JE X Ek a ta) (he : starEach [a, .Name "bool" p2] X.env = (false, eval a X.env) :: starEach [.Name "bool" p2] X.env) : JE X Ek (.Call (.Name "isinstance" p) [a, .Name "bool" p2] [] pos) (e1 (AIC "bool") ta) :=
 AOF (by simp) (by decide +kernel) (by decide +kernel) (by decide +kernel) B.isinstance B.bool hg1 hg2 ha he
theorem T0 {a : Expr} {ta : FE} {p p2 pos : Pos} (B : Blt X.mg) (hg1 : Gl X "isinstance") (hg2 : Gl X "tuple") (ha : JE X Ek a ta) (he : starEach [a, .Name "tuple" p2] X.env = (false, eval a X.env) :: starEach [.Name "tuple" p2] X.env) : JE X Ek (.Call (.Name "isinstance" p) [a, .Name "tuple" p2] [] pos) (e1 (AIC "tuple") ta) :=
 AOF (by simp) (by decide +kernel) (by decide +kernel) (by decide +kernel) B.isinstance B.tuple hg1 hg2 ha he
def J0 : T → T → Option T
 | .int i, .int j => AaA i j
 | .str x, .int n => if 0 ≤ n ∧ n ≤ 10000 ∧ x.length ≤ 1000 then some (.str (Txt.mul x n)) else none
 | _, _ => none
def AXD : R2 := fun x y H Q => ∃ z n, x = .str z ∧ y = .int n ∧ MulOk z n ∧ Q (.str (Txt.mul z n)) H
theorem ATP : OpR X (binaryOp .Mult) AXD := by
 intro pins s σ H x y v u Q I rx ry h
 obtain ⟨z, n, rfl, rfl, ok, q⟩ := h
 obtain ⟨t, rfl⟩ := rx
 obtain ⟨t', rfl⟩ := ry
 exact SB.mul ok fun t' k => ⟨.str _, H, I.tok _, ⟨_, rfl⟩, q⟩
theorem AVV {x : Str} {n : Int} (h0 : 0 ≤ n) (h1 : n ≤ 10000) (hx : x.length ≤ 1000) : (Txt.mul x n).length ≤ sizeLine := by
 have hs : sizeLine = 16777216 := sizeLine_eq
 unfold Txt.mul
 split
 ·rw [hs]; decide
 ·split
  ·omega
  ·have e : ∀ (k : Nat) (acc : Array Nat), ((List.replicate k x.cps).foldl (· ++ ·) acc).size = acc.size + k * x.cps.size := by
    intro k
    induction k with
    | zero => intro acc; simp
    | succ k ih => intro acc; rw [List.replicate_succ, List.foldl_cons, ih, Array.size_append, Nat.succ_mul]; omega
   show ((List.replicate n.toNat x.cps).foldl (· ++ ·) #[]).size ≤ sizeLine
   rw [e, hs]
   have hx' : x.cps.size ≤ 1000 := hx
   have hn : n.toNat ≤ 10000 := by omega
   have := Nat.mul_le_mul hn hx'
   simp only [List.size_toArray, List.length_nil]
   omega
def AWI : R2 := fun x y H Q => rI CMulG (fun i j => .int (i * j)) x y H Q ∨ AXD x y H Q
theorem B9 : OpR X (binaryOp .Mult) AWI := op_mulG.or ATP
theorem B6 {K : PySem.W.Frag} : ACL K AWI J0 := fun x y tx ty a H Q rx ry e q => by
 match tx, ty, e, rx, ry with
 | .int i, .int j, e, rx, ry => exact .inl (ARL x y (.int i) (.int j) a H Q rx ry e q)
 | .str i, .int n, e, rx, ry =>
  unfold Rep at rx ry
  obtain ⟨rfl, h1⟩ := rx
  subst ry
  have e' : (if 0 ≤ n ∧ n ≤ 10000 ∧ i.length ≤ 1000 then some (PyData.str (Txt.mul i n)) else none) = some a := e
  by_cases hl : 0 ≤ n ∧ n ≤ 10000 ∧ i.length ≤ 1000
  ·rw [if_pos hl] at e'
   have e2 := Option.some.inj e'
   subst e2
   exact .inr ⟨i, n, rfl, rfl, mulOk_of 1000 10000 hl.2.2 (by have := hl.2.1; omega) (by have := hl.1; omega) (by decide) (by decide), q _ H (Same.refl H) (ADE (AVV hl.1 hl.2.1 hl.2.2))⟩
  ·rw [if_neg hl] at e'; cases e'
end
def M5 : T → Bool
 | .str _ => true
 | _ => false
def eM (f : T → List T → Option T) (o : FE) (a : FA) : FE := fun ρ => (o ρ).bind fun x => if M5 x = true then (a ρ).bind fun ts => .of (f x ts) else .bad
section
variable {X : Cx} {Ek : EK}
def r1 (C : Str → Str → Prop) (g : Str → Str → V) : V → List V → Hp → VK → Prop := fun x xs H Q => ∃ z y, x = .str z ∧ xs = [.str y] ∧ z.length ≤ sizeLine ∧ C z y ∧ Q (g z y) H
abbrev FO := Option FE
def AZ0 (o : FO) (ρ : Ev) : R (Option Int) := match o with
 | none => .ok none
 | some e => (e ρ).bind fun t => match t with
  | .int i => .ok (some i)
  | _ => .bad
def lO (K : PySem.W.Frag) (Ek : EK) (o : FO) : TO := fun σ H Q => ∃ ρ, RepEnv K H ρ σ ∧ wR Ek H (AZ0 o ρ) fun i => ∀ H', Same H H' → Q i H'
abbrev JO (X : Cx) (Ek : EK) (e : Option Expr) (o : FO) : Prop := PO X e (lO X.K Ek o)
theorem AC8 : JO X Ek none none := fun pins s σ H Q I h => AU9 pins s σ H Q I (by
 obtain ⟨ρ, R0, h⟩ := h
 exact h H (Same.refl H))
theorem ABH {e : Expr} {t : FE} (he : JE X Ek e t) : JO X Ek (some e) (some t) := fun pins s σ H Q I h => AVW he pins s σ H Q I (by
 obtain ⟨ρ, R0, h⟩ := h
 refine ⟨ρ, R0, D0 (Same.refl H) (fun x hx => ?_) (C7 h)⟩
 intro v H1 s1 rx
 cases x with
 | int i =>
  unfold Rep at rx
  exact ⟨i, rx, hx H1 s1⟩
 | _ => exact hx.elim)
end
mutual
def AGD : Nat → Expr → Option T
 | 0, _ => none
 | n + 1, e => match e with
  | .Constant .none _ _ => some .none
  | .Constant (.bool b) _ _ => some (.bool b)
  | .Constant (.int i) _ _ => some (.int i)
  | .Constant (.str x) _ _ => if x.length ≤ 100000 then some (.str x) else none
  | .Tuple es _ _ => (litEs n es).bind fun ts => if O5 ts.length = true then some (.tuple ts) else none
  | .List es _ => (litEs n es).bind fun ts => if O5 ts.length = true then some (.list ts) else none
  | .UnaryOp .USub a _ => (AGD n a).bind AEH
  | .BinOp a .Pow b _ => (AGD n a).bind fun x => (AGD n b).bind fun y => AJY x y
  | .BinOp a .Sub b _ => (AGD n a).bind fun x => (AGD n b).bind fun y => AC9 x y
  | _ => none
def litEs : Nat → List Expr → Option (List T)
 | 0, _ => none
 | n + 1, es => match es with
  | [] => some []
  | e :: r => (AGD n e).bind fun t => (litEs n r).bind fun ts => some (t :: ts)
end
section
variable {X : Cx} {Ek : EK}
theorem AMJ : ∀ {n : Nat} {e : Expr} {t : T} (es : List Expr), AGD n e = some t → starEach (e :: es) X.env = (false, eval e X.env) :: starEach es X.env
 | 0, _, _, _, h => nomatch (show (none : Option T) = some _ from h)
 | n + 1, e, t, es, h => by
  cases e with
  | Starred v p => exact nomatch (show (none : Option T) = some _ from h)
  | _ => rfl
theorem ANQ {K : PySem.W.Frag} {a b : FE} (h : ∀ ρ, a ρ = b ρ) : lE K Ek a = lE K Ek b := by
 have : a = b := funext h
 rw [this]
mutual
theorem y6 : ∀ (n : Nat) (e : Expr) (t : T), AGD n e = some t → JE X Ek e (eC t)
 | 0, _, _, h => nomatch (show (none : Option T) = some _ from h)
 | n + 1, e, t, h => by
  cases e with
  | Constant c k pos =>
   cases c with
   | none => have h' : some PyData.none = some t := h; cases h'; exact i9
   | bool b => have h' : some (PyData.bool b) = some t := h; cases h'; exact L3
   | int i => have h' : some (PyData.int i) = some t := h; cases h'; exact A7
   | str x =>
    replace h : (if x.length ≤ 100000 then some (PyData.str x) else none) = some t := h
    by_cases hl : x.length ≤ 100000
    ·rw [if_pos hl] at h; cases h
     exact AAA (Nat.le_trans hl (by decide))
    ·rw [if_neg hl] at h; cases h
   | _ => exact nomatch (show (none : Option T) = some _ from h)
  | Tuple es k pos =>
   replace h : ((litEs n es).bind fun ts => if O5 ts.length = true then some (PyData.tuple ts) else none) = some t := h
   cases hs : litEs n es with
   | none => rw [hs] at h; cases h
   | some ts =>
    rw [hs] at h
    have h' : (if O5 ts.length = true then some (PyData.tuple ts) else none) = some t := h
    by_cases hl : O5 ts.length = true
    ·rw [if_pos hl] at h'; cases h'
     have q := O2 (k := k) (pos := pos) (ja_lit n es ts hs)
     rw [show JE X Ek (.Tuple es k pos) (eC (.tuple ts)) = JE X Ek (.Tuple es k pos) (J3 fun _ => .ok ts) from by
      unfold JE; rw [ANQ (Ek := Ek) (K := X.K) (a := eC (.tuple ts)) (b := J3 fun _ => .ok ts) fun ρ => by unfold J3 eC; show _ = (if O5 ts.length then _ else _); rw [if_pos hl]]]
     exact q
    ·rw [if_neg hl] at h'; cases h'
  | List es pos =>
   replace h : ((litEs n es).bind fun ts => if O5 ts.length = true then some (PyData.list ts) else none) = some t := h
   cases hs : litEs n es with
   | none => rw [hs] at h; cases h
   | some ts =>
    rw [hs] at h
    have h' : (if O5 ts.length = true then some (PyData.list ts) else none) = some t := h
    by_cases hl : O5 ts.length = true
    ·rw [if_pos hl] at h'; cases h'
     have q := AG6 (pos := pos) (ja_lit n es ts hs)
     rw [show JE X Ek (.List es pos) (eC (.list ts)) = JE X Ek (.List es pos) (ABC fun _ => .ok ts) from by
      unfold JE; rw [ANQ (Ek := Ek) (K := X.K) (a := eC (.list ts)) (b := ABC fun _ => .ok ts) fun ρ => by unfold ABC eC; show _ = (if O5 ts.length then _ else _); rw [if_pos hl]]]
     exact q
    ·rw [if_neg hl] at h'; cases h'
  | UnaryOp op a pos =>
   cases op with
   | USub =>
    replace h : (AGD n a).bind AEH = some t := h
    cases ha : AGD n a with
    | none => rw [ha] at h; cases h
    | some x =>
     rw [ha] at h
     have h' : AEH x = some t := h
     have q := AHN (pos := pos) AD4 AB3 (y6 n a x ha)
     rw [show JE X Ek (.UnaryOp .USub a pos) (eC t) = JE X Ek (.UnaryOp .USub a pos) (e1 AEH (eC x)) from by
      unfold JE; rw [ANQ (Ek := Ek) (K := X.K) (a := eC t) (b := e1 AEH (eC x)) fun ρ => by unfold e1 eC; show _ = R.of (AEH x); rw [h']; rfl]]
     exact q
   | _ => exact nomatch (show (none : Option T) = some _ from h)
  | BinOp a op b pos =>
   cases op with
   | Pow =>
    replace h : ((AGD n a).bind fun x => (AGD n b).bind fun y => AJY x y) = some t := h
    cases ha : AGD n a with
    | none => rw [ha] at h; cases h
    | some x =>
     cases hb : AGD n b with
     | none => rw [ha, hb] at h; cases h
     | some y =>
      rw [ha, hb] at h
      have h' : AJY x y = some t := h
      have q := B5 (pos := pos) ACR AAW (y6 n a x ha) (y6 n b y hb)
      rw [show JE X Ek (.BinOp a .Pow b pos) (eC t) = JE X Ek (.BinOp a .Pow b pos) (e2 AJY (eC x) (eC y)) from by
       unfold JE; rw [ANQ (Ek := Ek) (K := X.K) (a := eC t) (b := e2 AJY (eC x) (eC y)) fun ρ => by unfold e2 eC; show _ = R.of (AJY x y); rw [h']; rfl]]
      exact q
   | Sub =>
    replace h : ((AGD n a).bind fun x => (AGD n b).bind fun y => AC9 x y) = some t := h
    cases ha : AGD n a with
    | none => rw [ha] at h; cases h
    | some x =>
     cases hb : AGD n b with
     | none => rw [ha, hb] at h; cases h
     | some y =>
      rw [ha, hb] at h
      have h' : AC9 x y = some t := h
      have q := B5 (pos := pos) v1 S7 (y6 n a x ha) (y6 n b y hb)
      rw [show JE X Ek (.BinOp a .Sub b pos) (eC t) = JE X Ek (.BinOp a .Sub b pos) (e2 AC9 (eC x) (eC y)) from by
       unfold JE; rw [ANQ (Ek := Ek) (K := X.K) (a := eC t) (b := e2 AC9 (eC x) (eC y)) fun ρ => by unfold e2 eC; show _ = R.of (AC9 x y); rw [h']; rfl]]
      exact q
   | _ => exact nomatch (show (none : Option T) = some _ from h)
  | _ => exact nomatch (show (none : Option T) = some _ from h)
theorem ja_lit : ∀ (n : Nat) (es : List Expr) (ts : List T), litEs n es = some ts → JA X Ek es (fun _ => .ok ts)
 | 0, _, _, h => nomatch (show (none : Option (List T)) = some _ from h)
 | n + 1, [], ts, h => by
  have h' : some [] = some ts := h
  cases h'
  exact w5
 | n + 1, e :: r, ts, h => by
  replace h : ((AGD n e).bind fun t => (litEs n r).bind fun ts => some (t :: ts)) = some ts := h
  cases ha : AGD n e with
  | none => rw [ha] at h; cases h
  | some x =>
   cases hb : litEs n r with
   | none => rw [ha, hb] at h; cases h
   | some y =>
    rw [ha, hb] at h
    have h' : some (x :: y) = some ts := h
    cases h'
    exact C3 (y6 n e x ha) (ja_lit n r y hb) (AMJ r ha)
end
end
section
variable {CX : CXT} {P : Program} {w : World} {K : PySem.W.Frag} {mg : Str → Option Value} {base : Heap}
theorem Dfn.fnOk {x : Str} {st : Stmt} {f : Addr} {fd : FuncData} {N ps : List Str} {k : Nat} {m : List T → R T} {t : FS} (F : Fun K x x st f fd) (S : FnScope N ps (A6 st))
  (hbody : ∀ (cdv : Value) (A : Around) (outer : List Env) (s : Shared) (H : Hp) (E : XK), Room k (A.deeper (envOfC x (A6 st) s.heap.objs.size f cdv)) → JSs (AB5 CX P w K mg base N x (A6 st) f cdv A outer s H E) (N5 K E) (B8 st) t)
  (hm : ∀ ts, ts.length = ps.length → m ts ≠ .bad → run N.length t ts = m ts) : FnOk P w K mg base CX (k + 1) f fd ps (spM K ps.length m) := by
 obtain ⟨oc, od, kV, doc, pm, an, cdv, ct, osl, rfl, lk, hcd⟩ := F.ex
 refine AYC lk hcd S (fun vs H Q E h => ?_) fun A outer s H vs Q E hr hsp => ⟨lS K (N5 K E) t, hbody cdv A outer s H E hr, ?_⟩
 ·obtain ⟨ts, rl, hl, _⟩ := h
  rw [rl.length, hl]
 ·obtain ⟨ts, rl, hl, h⟩ := hsp
  refine ⟨O4 N.length ts, AE1 N rl, ?_⟩
  have nb : m ts ≠ .bad := fun e => by rw [e] at h; exact h
  have e := hm ts hl nb
  unfold run at e
  cases q : t (O4 N.length ts) with
  | nx ρ =>
   rw [q] at e
   rw [← e] at h
   exact fun σ H' s' _ => h .non H' s' AH3
  | rt a =>
   rw [q] at e
   rw [← e] at h
   exact h
  | bk ρ => rw [q] at e; exact absurd e.symm nb
  | ct ρ => rw [q] at e; exact absurd e.symm nb
  | bad => rw [q] at e; exact absurd e.symm nb
  | ex c fs =>
   rw [q] at e
   rw [← e] at h
   exact fun H' s' C hC => h H' C s' hC
end
theorem AIE {K : PySem.W.Frag} {H : Hp} : ∀ ns : List Int, RepL K H (ns.map PyData.int) (ns.map V.int)
 | [] => G6
 | n :: r => B7 D3 (AIE r)
theorem AWJ {K : PySem.W.Frag} {H : Hp} {a : Addr} {ns : List Int} {m : List T → R T} {b : Nat} (h : ∀ ns : List Int, ns.length ≤ b → m [.list (ns.map PyData.int)] = .ok (.bool true)) (hl : ns.length ≤ b) (hS : SqL K H a (ns.map V.int)) : spM K 1 m [.ref a] H (fun v _ => v = .bl true) fun _ _ _ => False := by
 refine ⟨[.list (ns.map PyData.int)], B7 ?_ G6, rfl, ?_⟩
 ·unfold Rep; exact ⟨a, ns.map V.int, rfl, hS, AIE ns⟩
 ·rw [h ns hl]
  intro v H' _ r
  unfold Rep at r
  exact r
structure Only (fs ex : List Addr) (h h' : Heap) : Prop where
 keep : ∀ b o, h.get? b = some o → b ∉ fs → b ∉ ex → h'.get? b = some o
 slot : ∀ b o, h.get? b = some o → b ∈ fs → b ∉ ex → ∃ sl, h'.get? b = some { o with slots := sl }
theorem Only.mono {fs ex ex' : List Addr} {h h' : Heap} (x : Only fs ex h h') (i : ∀ b, b ∈ ex → b ∈ ex') : Only fs ex' h h' :=
 ⟨fun b o e n m => x.keep b o e n fun q => m (i b q), fun b o e n m => x.slot b o e n fun q => m (i b q)⟩
theorem Only.trans {fs ex : List Addr} {h h1 h2 : Heap} (x : Only fs ex h h1) (y : Only fs ex h1 h2) : Only fs ex h h2 :=
 ⟨fun b o e n m => y.keep b o (x.keep b o e n m) n m, fun b o e n m => by
  obtain ⟨sl, e1⟩ := x.slot b o e n m
  obtain ⟨sl2, e2⟩ := y.slot b _ e1 n m
  exact ⟨sl2, e2⟩⟩
theorem AVR (o : Obj) (g : Array Value → Array Value) : (o.mapFields g).dict = o.dict := by
 obtain ⟨c, d, dt, sl⟩ := o
 cases dt <;> rfl
structure ExcAt (h : Heap) (e : Addr) (cls a0 : Value) (T : Addr) (fl : Value) : Prop where
 obj : ∃ oe vs, h.get? e = some oe ∧ oe.cls = cls ∧ oe.dict = none ∧ oe.data = .fields vs ∧ vs[0]? = some a0 ∧ vs[1]? = some (.ref T)
 head : ∃ oT ts, h.get? T = some oT ∧ oT.data = .fields ts ∧ ts[3]? = some fl
 ne : T ≠ e
section
variable {M : Model} {A : Around} {E : Value → Shared → Prop} {s : Shared}
theorem ALJ {base : Heap} {env : Env} {outer : List Env} {L e : Addr} {oe : Obj} {vs : Array Value} {hd a0 : Value} {had : Bool} {Q : Unit → Shared → Prop}
  (hfr : A.frames = some (env :: outer)) (hl : s.heap.FunFrames base (env :: outer)) (hf : env.frame = some L) (he : s.heap.get? e = some oe) (hdn : oe.dict = none) (hdt : oe.data = .fields vs) (hsz : 1 < vs.size) (h0 : vs[0]? = some a0)
  (h : ∀ h' T, s.heap.get? T = none → ExcAt h' e oe.cls a0 T (rawInt L) → Only ((env :: outer).filterMap (·.frame)) [e] s.heap h' → h'.FunFrames base (env :: outer) → Q () { s with heap := h' }) :
  wpAny M A (do let a ← frameOf env; let pl ← entryPlaceOf L had; let b ← EntryCells.newEntry hd a .none (rawInt L) .none pl; setField (.ref e) 1 b) Q E s := by
 have hene : e ∉ (env :: outer).filterMap (·.frame) := fun hm => by
  obtain ⟨_, o, ho, hnf⟩ := hl.mem hm
  rw [he] at ho
  cases ho
  exact hnf vs hdt
 refine wpAny_bind (wpAny_frameOf_fun hfr hl hf fun h1 hs1 => ?_)
 refine wpAny_bind (wpAny_entryPlaceOf fun pl hpl => ?_)
 unfold EntryCells.newEntry newFields
 refine wpAny_bind (wpAny_newObj_type ?_ (hpl.sizeOk5 _ _ _ _ _))
 have he1 : h1.get? e = some oe := (hs1.2.1 e hene).trans he
 generalize hob : ({ cls := .type "traceback", dict := none, data := .fields ([hd, .ref L, .none, rawInt L, .none] ++ (if pl.isEmpty then List.replicate 6 Value.none else pl)).toArray } : Obj) = ob
 have obd : ob.data = .fields ([hd, .ref L, .none, rawInt L, .none] ++ (if pl.isEmpty then List.replicate 6 Value.none else pl)).toArray := by rw [← hob]
 have he2 := Heap.get?_push_of_some (h := h1) ob he1
 have ne : h1.objs.size ≠ e := Nat.ne_of_gt (Heap.lt_size he1)
 have hd3 := Obj.data_mapFields hdt (·.setIfInBounds 1 (Value.ref h1.objs.size))
 refine wpAny_setField he2 hdt hsz (h _ h1.objs.size ?_ ⟨⟨_, _, Heap.get?_update_self _ he2 (Obj.isFreed_of_fields hd3), Obj.cls_mapFields _ _, (AVR _ _).trans hdn, hd3, ?_, by simp [hsz]⟩, ⟨ob, _, ?_, obd, ?_⟩, ne⟩ ⟨fun b o q n m => ?_, fun b o q n m => ?_⟩ (hl.of_keeps fun b o q nf => ?_))
 ·cases q : s.heap.get? h1.objs.size with
  | none => rfl
  | some o =>
   obtain ⟨sl, q2⟩ := hs1.2.2 _ o q
   exact absurd (Heap.lt_size q2) (Nat.lt_irrefl _)
 ·rw [Array.getElem?_setIfInBounds_ne (by decide)]; exact h0
 ·rw [Heap.get?_update_other _ _ (Ne.symm ne)]
  have z : ob.isFreed = false := Obj.isFreed_of_fields obd
  exact Heap.get?_push_size h1 z
 ·rfl
 ·rw [Heap.get?_update_other _ _ (fun z => m (by rw [z]; exact List.mem_singleton_self _))]
  exact Heap.get?_push_of_some _ ((hs1.2.1 b n).trans q)
 ·obtain ⟨sl, q2⟩ := hs1.2.2 b o q
  refine ⟨sl, ?_⟩
  rw [Heap.get?_update_other _ _ (fun z => m (by rw [z]; exact List.mem_singleton_self _))]
  exact Heap.get?_push_of_some _ q2
 ·obtain ⟨sl, q2⟩ := hs1.2.2 b o q
  have hbe : b ≠ e := fun z => by
   rw [z, he] at q
   cases q
   exact nf vs hdt
  refine ⟨{ o with slots := sl }, ?_, rfl⟩
  rw [Heap.get?_update_other _ _ (Ne.symm hbe)]
  exact Heap.get?_push_of_some _ q2
structure New (h : Heap) (e : Addr) (cls a0 : Value) : Prop where
 obj : ∃ oe vs, h.get? e = some oe ∧ oe.cls = cls ∧ oe.dict = none ∧ oe.data = .fields vs ∧ vs[0]? = some a0 ∧ vs[1]? = some .none
theorem AMP {base : Heap} {env : Env} {outer : List Env} {L e : Addr} {cls a0 : Value} {Q : Unit → Shared → Prop}
  (hfr : A.frames = some (env :: outer)) (hl : s.heap.FunFrames base (env :: outer)) (hf : env.frame = some L) (x : New s.heap e cls a0)
  (h : ∀ h' T, s.heap.get? T = none → ExcAt h' e cls a0 T (rawInt L) → Only ((env :: outer).filterMap (·.frame)) [e] s.heap h' → h'.FunFrames base (env :: outer) → Q () { s with heap := h' }) :
  wpAny M A (noteFrame (.ref e) env) Q E s := by
 obtain ⟨oe, vs, he, rfl, hdn, hd, h0, h1⟩ := x.obj
 unfold noteFrame
 simp only [hf]
 refine wpAny_bind (wpAny_field he hd h1 ?_)
 rw [if_neg (by decide)]
 exact ALJ hfr hl hf he hdn hd (Array.getElem?_eq_some_iff.mp h1).1 h0 h
theorem AO3 {base : Heap} {env : Env} {outer : List Env} {L e T : Addr} {cls a0 : Value} {Q : Unit → Shared → Prop}
  (hfr : A.frames = some (env :: outer)) (hl : s.heap.FunFrames base (env :: outer)) (hf : env.frame = some L) (x : ExcAt s.heap e cls a0 T .none)
  (h : ∀ h' T', s.heap.get? T' = none → ExcAt h' e cls a0 T' (rawInt L) → Only ((env :: outer).filterMap (·.frame)) [e, T] s.heap h' → h'.FunFrames base (env :: outer) → Q () { s with heap := h' }) :
  wpAny M A (noteFrame (.ref e) env) Q E s := by
 obtain ⟨oe, vs, he, rfl, hdn, hd, h0, h1⟩ := x.obj
 obtain ⟨oT, ts, hT, hdT, h3⟩ := x.head
 unfold noteFrame
 simp only [hf]
 refine wpAny_bind (wpAny_field he hd h1 ?_)
 rw [if_pos (show (Value.ref T != Value.none) = true from by simp)]
 refine wpAny_bind (wpAny_field hT hdT h3 ?_)
 rw [if_neg (show ¬ ((Value.none == rawInt L) = true) from by simp [rawInt])]
 refine wpAny_bind (wpAny_setField hT hdT (Array.getElem?_eq_some_iff.mp h3).1 ?_)
 have oth : ∀ b, b ≠ T → (s.heap.update T (Obj.mapFields (·.setIfInBounds 3 Value.none))).get? b = s.heap.get? b := fun b hb => Heap.get?_update_other _ _ (Ne.symm hb)
 have nor : ∀ b o, s.heap.get? b = some o → (∀ vs, o.data ≠ .fields vs) → b ≠ T := fun b o hb hnf q => by
  rw [q, hT] at hb
  cases hb
  exact hnf ts hdT
 refine ALJ hfr (hl.of_keeps fun b o hb hnf => ⟨o, (oth b (nor b o hb hnf)).trans hb, rfl⟩) hf ((oth e (Ne.symm x.ne)).trans he) hdn hd (Array.getElem?_eq_some_iff.mp h1).1 h0 fun h' T' n1 n2 n3 n4 => h h' T' ?_ n2 ⟨fun b o q n m => ?_, fun b o q n m => ?_⟩ n4
 ·by_cases hq : T' = T
  ·subst hq
   rw [Heap.get?_update_self _ hT (Obj.isFreed_of_fields (Obj.data_mapFields hdT _))] at n1
   cases n1
  ·rw [← oth T' hq]; exact n1
 ·have hb : b ≠ T := fun z => m (by rw [z]; simp)
  exact n3.keep b o ((oth b hb).trans q) n fun z => m (by rw [List.mem_singleton.mp z]; simp)
 ·have hb : b ≠ T := fun z => m (by rw [z]; simp)
  exact n3.slot b o ((oth b hb).trans q) n fun z => m (by rw [List.mem_singleton.mp z]; simp)
theorem AaU {base : Heap} {l : List Env} {e T : Addr} {cls a0 fl : Value} {fs : List Addr} {Q : Unit → Shared → Prop} (hl : s.heap.FunFrames base l) (x : ExcAt s.heap e cls a0 T fl) (hfs : T ∉ fs)
  (h : ∀ h', ExcAt h' e cls a0 T .none → Only fs [T] s.heap h' → h'.FunFrames base l → Q () { s with heap := h' }) : wpAny M A (setFlight (.ref e) none) Q E s := by
 obtain ⟨oe, vs, he, hc, hdn, hd, h0, h1⟩ := x.obj
 obtain ⟨oT, ts, hT, hdT, h3⟩ := x.head
 have sz : 3 < ts.size := (Array.getElem?_eq_some_iff.mp h3).1
 unfold setFlight
 refine wpAny_bind (wpAny_field he hd h1 ?_)
 rw [if_pos (show (Value.ref T != Value.none) = true from by simp)]
 have oth : ∀ b, b ≠ T → (s.heap.update T (Obj.mapFields (·.setIfInBounds 3 ((none : Option Addr).elim Value.none fun f => rawInt f)))).get? b = s.heap.get? b := fun b hb => Heap.get?_update_other _ _ (Ne.symm hb)
 refine wpAny_setField hT hdT sz (h _ ⟨⟨oe, vs, (oth e (Ne.symm x.ne)).trans he, hc, hdn, hd, h0, h1⟩, ⟨_, _, Heap.get?_update_self _ hT (Obj.isFreed_of_fields (Obj.data_mapFields hdT _)), Obj.data_mapFields hdT _, by simp [sz]⟩, x.ne⟩ ⟨fun b o q n m => ?_, fun b o q n m => ?_⟩ (hl.of_keeps fun b o q nf => ?_))
 ·exact (oth b (fun z => m (by rw [z]; simp))).trans q
 ·exact ⟨o.slots, (oth b (fun z => m (by rw [z]; simp))).trans q⟩
 ·refine ⟨o, (oth b (fun z => ?_)).trans q, rfl⟩
  rw [z, hT] at q
  cases q
  exact nf ts hdT
theorem AKQ {base : Heap} {env : Env} {outer : List Env} {L e : Addr} {cls a0 : Value} {Q : Unit → Shared → Prop}
  (hfr : A.frames = some (env :: outer)) (hl : s.heap.FunFrames base (env :: outer)) (hf : env.frame = some L) (x : New s.heap e cls a0)
  (h : ∀ h' T, s.heap.get? T = none → ExcAt h' e cls a0 T .none → Only ((env :: outer).filterMap (·.frame)) [e, T] s.heap h' → h'.FunFrames base (env :: outer) → Q () { s with heap := h' }) :
  wpAny M A (leaving env (.ref e)) Q E s := by
 unfold leaving
 refine wpAny_bind (AMP hfr hl hf x fun h1 T n1 n2 n3 n4 => ?_)
 have hT : T ∉ (env :: outer).filterMap (·.frame) := fun hm => by
  obtain ⟨_, o, ho, _⟩ := hl.mem hm
  rw [n1] at ho; cases ho
 refine AaU (s := { s with heap := h1 }) n4 n2 hT fun h2 k1 k2 k3 => h h2 T n1 k1 (Only.trans (n3.mono ?_) (k2.mono ?_)) k3
 ·intro b hb; rw [List.mem_singleton.mp hb]; simp
 ·intro b hb; rw [List.mem_singleton.mp hb]; simp
theorem AN7 {base : Heap} {env : Env} {outer : List Env} {L e T : Addr} {cls a0 : Value} {Q : Unit → Shared → Prop}
  (hfr : A.frames = some (env :: outer)) (hl : s.heap.FunFrames base (env :: outer)) (hf : env.frame = some L) (x : ExcAt s.heap e cls a0 T .none)
  (h : ∀ h' T', s.heap.get? T' = none → ExcAt h' e cls a0 T' .none → Only ((env :: outer).filterMap (·.frame)) [e, T, T'] s.heap h' → h'.FunFrames base (env :: outer) → Q () { s with heap := h' }) :
  wpAny M A (leaving env (.ref e)) Q E s := by
 unfold leaving
 refine wpAny_bind (AO3 hfr hl hf x fun h1 T' n1 n2 n3 n4 => ?_)
 have hT : T' ∉ (env :: outer).filterMap (·.frame) := fun hm => by
  obtain ⟨_, o, ho, _⟩ := hl.mem hm
  rw [n1] at ho; cases ho
 refine AaU (s := { s with heap := h1 }) n4 n2 hT fun h2 k1 k2 k3 => h h2 T' n1 k1 (Only.trans (n3.mono ?_) (k2.mono ?_)) k3
 ·intro b hb; simp at hb ⊢; rcases hb with z | z <;> simp [z]
 ·intro b hb; rw [List.mem_singleton.mp hb]; simp
end
theorem ARH {P : Program} {w : World} {H : Hp} {h h' : Heap} {fs ex : List Addr} (x : HOk P w H h) (o : Only fs ex h h') (hf : ∀ b ∈ fs, H b = none) (he : ∀ b ∈ ex, H b = none) : HOk P w H h' := fun a u e =>
 (x a u e).stay (fun b v hb q => o.keep b v q (fun z => by
  have := hf b z
  rcases hb with rfl | hb
  ·rw [e] at this; cases this
  ·rw [hb] at this; cases this) fun z => by
  have := he b z
  rcases hb with rfl | hb
  ·rw [e] at this; cases this
  ·rw [hb] at this; cases this) (fun _ q => q) fun _ _ q => q
theorem AL1 {P : Program} {w : World} {H : Hp} {h : Heap} {a : Addr} {o : HO} (x : ObjOk P w H h a o) : ∃ u, h.get? a = some u := by
 cases o with
 | lst xs => obtain ⟨_, _, _, _, e⟩ := x; exact ⟨_, e⟩
 | tup xs => obtain ⟨_, _, _, ob, e, _⟩ := x; exact ⟨_, e⟩
 | dK kvs => obtain ⟨_, _, _, _, o, _, _, e, _⟩ := x; exact ⟨_, e⟩
 | dT kvs => obtain ⟨_, _, _, _, o, _, _, e, _⟩ := x; exact ⟨_, e⟩
 | set S n => obtain ⟨o, _, _, _, e, _⟩ := x; exact ⟨_, e⟩
 | ins C dx fs => obtain ⟨_, _, _, e, _⟩ := x; exact ⟨_, e⟩
 | own y => obtain ⟨_, e⟩ := x; exact ⟨_, e⟩
 | xd fs => obtain ⟨_, ⟨_, _, _, e, _⟩, _⟩ := x; exact ⟨_, e⟩
 | rng lo hi => obtain ⟨_, _, _, e⟩ := x; exact ⟨_, e⟩
 | frz ob u => obtain ⟨e, _⟩ := x; exact ⟨_, e⟩
 | tbl ps => exact ⟨_, (show h.get? a = some _ from x)⟩
 | met f y => exact ⟨_, (show h.get? a = some _ from x)⟩
 | ext φ => obtain ⟨_, ⟨_, e⟩, _⟩ := x; exact ⟨_, e⟩
theorem AGX {P : Program} {w : World} {H : Hp} {h : Heap} {a : Addr} (x : HOk P w H h) (n : h.get? a = none) : H a = none := by
 cases q : H a with
 | none => rfl
 | some u =>
  obtain ⟨v, e⟩ := AL1 (x a u q)
  rw [n] at e; cases e
def CXE (P : Program) (w : World) (base : Heap) : CXT := fun outer H s E e s' => ∃ ea cls a0 T H', e = .ref ea ∧ s'.os = s.os ∧ AllBare s'.gens ∧ Un (frs outer) [] H H' s.heap s'.heap ∧ HOk P w H' s'.heap ∧ s'.heap.FunFrames base outer ∧
 ExcAt s'.heap ea cls a0 T .none ∧ s.heap.get? ea = none ∧ s.heap.get? T = none ∧ H' ea = none ∧ H' T = none ∧ E cls none H'
section
variable {P : Program} {w : World} {K : PySem.W.Frag} {mg : Str → Option Value} {base : Heap} {N : List Str} {qual : Str} {scope : Scope} {f : Addr} {cd : Value} {A : Around} {outer : List Env} {s0 : Shared} {H0 : Hp} {E : XK}
theorem AO1 {pins : List (Addr × Obj)} {σ : L2.St} {H : Hp} {s : Shared} {h' : Heap} {ea T T' : Addr} {cls a0 : Value} {ex : List Addr} (J : Inv (AB5 (CXE P w base) P w K mg base N qual scope f cd A outer s0 H0 E) pins σ H s)
  (o : Only (frs (envOfC qual scope s0.heap.objs.size f cd :: outer)) ex s.heap h') (hx : ∀ b ∈ ex, H b = none ∧ s0.heap.get? b = none) (ff : h'.FunFrames base (envOfC qual scope s0.heap.objs.size f cd :: outer)) (x : ExcAt h' ea cls a0 T .none)
  (n1 : s0.heap.get? ea = none) (n2 : s0.heap.get? T = none) (f1 : H ea = none) (f2 : H T = none) (q : E cls none H) : CXE P w base outer H0 s0 E (.ref ea) { s with heap := h' } := by
 have hfree : ∀ b ∈ frs (envOfC qual scope s0.heap.objs.size f cd :: outer), H b = none := J.stkFree
 have hfs : ∀ b, b ∉ frs outer → ∀ u, s0.heap.get? b = some u → b ∉ frs (envOfC qual scope s0.heap.objs.size f cd :: outer) := fun b hb u hu hm => by
  rcases List.mem_cons.mp (J.stkSub b hm) with z | z
  ·have := J.ok.above
   have lt := Heap.lt_size hu
   rw [z] at lt
   exact absurd (Nat.lt_of_lt_of_le lt this) (Nat.lt_irrefl _)
  ·exact hb z
 have hnx : ∀ b u, s0.heap.get? b = some u → b ∉ ex := fun b u hu z => by rw [(hx b z).2] at hu; cases hu
 have hsub : ∀ b, b ∈ frs outer → b ∈ frs (envOfC qual scope s0.heap.objs.size f cd :: outer) := fun b hb => by
  unfold frs at hb ⊢
  rw [List.filterMap_cons]
  split
  ·exact hb
  ·exact List.mem_cons_of_mem _ hb
 have nil : ∀ b, b ∉ (AB5 (CXE P w base) P w K mg base N qual scope f cd A outer s0 H0 E).ex := fun b z => absurd (show b ∈ ([] : List Addr) from z) (by simp)
 obtain ⟨_, _, ff'⟩ := ff
 refine ⟨ea, cls, a0, T, H, rfl, J.os, J.bare, ⟨fun b u e n hb hx' => ?_, fun b u e n hb hx' => ?_, fun b u e n hx' => J.base.free b u e n (nil b), fun b u e hx' => ?_, J.base.tups, J.base.frzs, J.base.tbls⟩, ARH J.hok o hfree fun b hb => (hx b hb).1, ff', x, n1, n2, f1, f2, q⟩
 ·exact o.keep b u (J.base.keep b u e n hb (nil b)) (hfs b hb u e) (hnx b u e)
 ·obtain ⟨sl, e2⟩ := J.base.slot b u e n hb (nil b)
  obtain ⟨sl2, e3⟩ := o.slot b _ e2 (hsub b hb) (hnx b u e)
  exact ⟨sl2, e3⟩
 ·obtain ⟨u2, e2⟩ := J.base.there b u e (nil b)
  by_cases hm : b ∈ frs (envOfC qual scope s0.heap.objs.size f cd :: outer)
  ·obtain ⟨sl, e3⟩ := o.slot b u2 e2 hm (hnx b u e)
   exact ⟨_, e3⟩
  ·exact ⟨u2, o.keep b u2 e2 hm (hnx b u e)⟩
theorem Aa4 : AGH (CXE P w base) (AB5 (CXE P w base) P w K mg base N qual scope f cd A outer s0 H0 E) E := by
 intro pins σ H s e s' I h
 obtain ⟨ea, cls, a0, T, H', rfl, os, bare, un, hok, ff, x, n1, n2, f1, f2, q⟩ := h
 have J : Inv (AB5 (CXE P w base) P w K mg base N qual scope f cd A outer s0 H0 E) pins σ H' s' := I.call' os un hok bare (fun b z => absurd z (by simp))
 have fresh : ∀ b, s.heap.get? b = none → s0.heap.get? b = none := fun b hb => by
  cases hq : s0.heap.get? b with
  | none => rfl
  | some u =>
   obtain ⟨u2, e2⟩ := I.base.there b u hq (by show b ∉ ([] : List Addr); simp)
   rw [hb] at e2; cases e2
 have fresh2 : ∀ b, s'.heap.get? b = none → s0.heap.get? b = none ∧ H' b = none := fun b hb => by
  refine ⟨?_, ?_⟩
  ·cases hq : s0.heap.get? b with
   | none => rfl
   | some u =>
    obtain ⟨u2, e2⟩ := J.base.there b u hq (by show b ∉ ([] : List Addr); simp)
    rw [hb] at e2; cases e2
  ·exact AGX J.hok hb
 show wpAny _ _ (leaving _ (.ref ea)) _ _ s'
 refine AN7 (base := base) (outer := outer) (L := s0.heap.objs.size) J.ok.frames ff rfl x fun h' T' m1 m2 m3 m4 => ?_
 refine AO1 (T' := T') J m3 (fun b hb => ?_) m4 m2 (fresh _ n1) (fresh2 _ m1).1 f1 (fresh2 _ m1).2 q
 rcases List.mem_cons.mp hb with rfl | hb
 ·exact ⟨f1, fresh _ n1⟩
 ·rcases List.mem_cons.mp hb with rfl | hb
  ·exact ⟨f2, fresh _ n2⟩
  ·rw [List.mem_singleton.mp hb]
   exact ⟨(fresh2 _ m1).2, (fresh2 _ m1).1⟩
end
def AI7 (K : PySem.W.Frag) (C : Addr) : Prop := ∀ h : Heap, K.In h → ∃ (nm q : Str) (N : Addr) (bs bm : List Value) (hdct : Bool) (sn : List Str) (sub : List Value) (ab : Bool) (col : Option Bool) (dd : Option Addr) (k0 k1 k2 k3 k5 : Option Value) (mN : Str → Option Value),
 h.get? C = some (excClassObj nm q C N bs bm hdct sn sub ab col dd k0 k1 k2 k3 k5 "ValueError.__new__") ∧ h.Ns N mN ∧ mN "__init__" = none ∧ OwnTail h [.type "ValueError", .type "Exception", .type "BaseException", .type "object"] bm ∧ bm.contains (.type "BaseException") = true
def AYK (C : Addr) (E : XK) (t : TA) : TS := fun _ σ H => t σ H fun vs H1 => vs.length ≤ 1000 ∧ E (.ref C) none H1
section
variable {P : Program} {w : World} {K : PySem.W.Frag} {mg : Str → Option Value} {base : Heap} {N : List Str} {qual : Str} {scope : Scope} {f : Addr} {cd : Value} {A : Around} {outer : List Env} {s0 : Shared} {H0 : Hp} {E : XK}
theorem ASB {pins : List (Addr × Obj)} {σ : L2.St} {H : Hp} {s : Shared} {h' : Heap} {e : Addr} {cls : Value} {vs : List Value} (I : Inv (AB5 (CXE P w base) P w K mg base N qual scope f cd A outer s0 H0 E) pins σ H s)
  (x : Heap.MadeExcOf s.heap h' e cls vs) (q : E cls none H) : (AB5 (CXE P w base) P w K mg base N qual scope f cd A outer s0 H0 E).xe (.ref e) { s with heap := h' } := by
 have J : Inv (AB5 (CXE P w base) P w K mg base N qual scope f cd A outer s0 H0 E) pins σ H { s with heap := h' } := I.call' (ch := []) rfl (Un.kept x.keeps) (I.hok.kept x.keeps) I.bare (fun b z => absurd z (by simp))
 have fresh : ∀ b, s.heap.get? b = none → s0.heap.get? b = none := fun b hb => by
  cases hq : s0.heap.get? b with
  | none => rfl
  | some u =>
   obtain ⟨u2, e2⟩ := I.base.there b u hq (by show b ∉ ([] : List Addr); simp)
   rw [hb] at e2; cases e2
 have fresh2 : ∀ b, h'.get? b = none → s0.heap.get? b = none ∧ H b = none := fun b hb => by
  refine ⟨?_, AGX J.hok hb⟩
  cases hq : s0.heap.get? b with
  | none => rfl
  | some u =>
   obtain ⟨u2, e2⟩ := J.base.there b u hq (by show b ∉ ([] : List Addr); simp)
   have hb' : ({ s with heap := h' } : Shared).heap.get? b = none := hb
   rw [hb'] at e2; cases e2
 obtain ⟨t, ht, _, _⟩ := x.there
 have he : H e = none := AGX I.hok x.new
 show wpAny _ _ (leaving _ (.ref e)) _ _ _
 refine AKQ (base := base) (outer := outer) (L := s0.heap.objs.size) (cls := cls) (a0 := .ref t) J.ok.frames J.stack rfl ⟨_, _, ht, rfl, rfl, rfl, rfl, rfl⟩ fun h2 T m1 m2 m3 m4 => ?_
 refine AO1 (T' := T) J m3 (fun b hb => ?_) m4 m2 (fresh _ x.new) (fresh2 _ m1).1 he (fresh2 _ m1).2 q
 rcases List.mem_cons.mp hb with rfl | hb
 ·exact ⟨he, fresh _ x.new⟩
 ·rw [List.mem_singleton.mp hb]
  exact ⟨(fresh2 _ m1).2, (fresh2 _ m1).1⟩
theorem ASN {C : Addr} {x : Str} {e : Expr} {es : List Expr} {t : TA} {np cpos pos : Pos} (B : AI7 K C) (hg : Gl (AB5 (CXE P w base) P w K mg base N qual scope f cd A outer s0 H0 E) x) (hm : mg x = some (.ref C))
  (ha : PA (AB5 (CXE P w base) P w K mg base N qual scope f cd A outer s0 H0 E) (e :: es) t) (hdb : (x == ("__debug__" : Str)) = false)
  (he : starEach (e :: es) (AB5 (CXE P w base) P w K mg base N qual scope f cd A outer s0 H0 E).env = (false, eval e (AB5 (CXE P w base) P w K mg base N qual scope f cd A outer s0 H0 E).env) :: starEach es (AB5 (CXE P w base) P w K mg base N qual scope f cd A outer s0 H0 E).env)
  (hpl : (backTo cpos (starEach es (AB5 (CXE P w base) P w K mg base N qual scope f cd A outer s0 H0 E).env)).any (·.1) = false) :
  PS (AB5 (CXE P w base) P w K mg base N qual scope f cd A outer s0 H0 E) (.Raise (some (.Call (.Name x np) (e :: es) [] cpos)) none pos) (AYK C E t) := by
 intro pins s σ H D I h
 obtain ⟨nm, q, NN, bs, bm, hdct, sn, sub, ab, col, dd, k0, k1, k2, k3, k5, mN, hC, hN, hi, T, hb⟩ := B _ I.ok.mod.kin
 have hplain : (backTo cpos (starEach (e :: es) (AB5 (CXE P w base) P w K mg base N qual scope f cd A outer s0 H0 E).env)).any (·.1) = false := by
  rw [he]
  show (false || (backTo cpos (starEach es _)).any (·.1)) = false
  rw [hpl]; rfl
 refine wpAny_Raise_call_subT (C := C) (nm := nm) (q := q) (N := NN) (bs := bs) (bm := bm) (hdct := hdct) (sn := sn) (sub := sub) (ab := ab) (col := col) (dd := dd) (k0 := k0) (k1 := k1) (k2 := k2) (k3 := k3) (k5 := k5) (mN := mN) PySem.F.excBase_ValueError hb (I.ok.hd rfl) hplain hi (AKI I hg hm ⟨rfl, ?_⟩ hdb)
 have hrun := ha cpos pins s σ H _ I h
 rw [he] at hrun ⊢
 refine Calls.evalArgs_plain (wpAny_mono hrun (fun us s1 hs => ?_) fun _ _ z => z)
 obtain ⟨vs, H1, I1, r, hl, hE⟩ := hs
 refine ⟨rfl, ?_, I1.bk _ _ hC, hN.keeps I1.bk, T.keeps I1.bk, fun h' ea hx => ASB I1 hx hE⟩
 show us.length ≤ sizeLine
 rw [← r.length]
 exact Nat.le_trans hl (by decide)
end
def AB9 (c : Str) (a : FA) : FS := fun ρ => M4 (a ρ) fun xs => if O5 xs.length = true then .ex c [] else .bad
section
variable {P : Program} {w : World} {K : PySem.W.Frag} {mg : Str → Option Value} {base : Heap} {N : List Str} {qual : Str} {scope : Scope} {f : Addr} {cd : Value} {A : Around} {outer : List Env} {s0 : Shared} {H0 : Hp} {E : XK} {Ek : EK}
theorem ARW {C : Addr} {x : Str} {e : Expr} {es : List Expr} {t : FA} {np cpos pos : Pos} (B : AI7 K C) (hc : ANJ K x C) (hE : ∀ cv dx H, AX7 K Ek cv dx H → E cv dx H) (hg : Gl (AB5 (CXE P w base) P w K mg base N qual scope f cd A outer s0 H0 E) x) (hm : mg x = some (.ref C))
  (ha : JA (AB5 (CXE P w base) P w K mg base N qual scope f cd A outer s0 H0 E) Ek (e :: es) t) (hdb : (x == ("__debug__" : Str)) = false)
  (he : starEach (e :: es) (AB5 (CXE P w base) P w K mg base N qual scope f cd A outer s0 H0 E).env = (false, eval e (AB5 (CXE P w base) P w K mg base N qual scope f cd A outer s0 H0 E).env) :: starEach es (AB5 (CXE P w base) P w K mg base N qual scope f cd A outer s0 H0 E).env)
  (hpl : (backTo cpos (starEach es (AB5 (CXE P w base) P w K mg base N qual scope f cd A outer s0 H0 E).env)).any (·.1) = false) :
  JS (AB5 (CXE P w base) P w K mg base N qual scope f cd A outer s0 H0 E) Ek (.Raise (some (.Call (.Name x np) (e :: es) [] cpos)) none pos) (AB9 x t) := by
 refine PS.weak (ASN B hg hm ha hdb he hpl) fun D σ H h => ?_
 obtain ⟨ρ, R, h⟩ := h
 refine ⟨ρ, R, D0 (Same.refl H) (fun xs hx => ?_) (Z8 h)⟩
 intro vs H1 s1 rx
 by_cases hs : O5 xs.length = true
 ·rw [if_pos hs] at hx
  have hx' : ∀ H', Same H H' → Ek x [] H' := hx
  exact ⟨by rw [rx.length]; exact of_decide_eq_true hs, hE _ _ _ ⟨x, C, rfl, rfl, hc, hx' H1 s1⟩⟩
 ·rw [if_neg hs] at hx; exact hx.elim
end
structure ErrK (K : PySem.W.Frag) (mg : Str → Option Value) (x : Str) : Prop where
 ex : ∃ C, AI7 K C ∧ ANJ K x C ∧ mg x = some (.ref C)
 dbg : (x == ("__debug__" : Str)) = false
section
variable {P : Program} {w : World} {base : Heap}
theorem ARP {outer : List Env} {H : Hp} {s s' : Shared} {E E' : XK} {e : Value} (h : CXE P w base outer H s E e s') (i : ∀ cv dx H, E cv dx H → E' cv dx H) : CXE P w base outer H s E' e s' := by
 obtain ⟨ea, cls, a0, T, H', h1, h2, h3, h4, h5, h6, h7, h8, h9, h10, h11, q⟩ := h
 exact ⟨ea, cls, a0, T, H', h1, h2, h3, h4, h5, h6, h7, h8, h9, h10, h11, i _ _ _ q⟩
theorem ACX {K : PySem.W.Frag} {X' : Cx} : AGH (CXE P w base) X' (AX7 K Ek0) := fun _ _ _ _ _ _ _ h => by
 obtain ⟨ea, cls, a0, T, H', h1, h2, h3, h4, h5, h6, h7, h8, h9, h10, h11, c, C, _, _, _, q⟩ := h
 exact q.elim
end
section
variable {P : Program} {w : World} {K : PySem.W.Frag} {mg : Str → Option Value} {base : Heap} {N : List Str} {qual : Str} {scope : Scope} {f : Addr} {cd : Value} {A : Around} {outer : List Env} {s0 : Shared} {H0 : Hp} {E : XK} {Ek : EK}
theorem B4 : AGH (CXE P w base) (AB5 (CXE P w base) P w K mg base N qual scope f cd A outer s0 H0 E) (AX7 K (N5 K E)) := fun pins σ H s e s' I h => Aa4 pins σ H s e s' I (ARP h fun cv dx H ⟨c, C, e1, e2, hC, q⟩ => by subst e1; subst e2; exact q C hC)
theorem AAC {x : Str} {e : Expr} {es : List Expr} {t : FA} {np cpos pos : Pos} (B : ErrK K mg x) (hg : Gl (AB5 (CXE P w base) P w K mg base N qual scope f cd A outer s0 H0 E) x)
  (ha : JA (AB5 (CXE P w base) P w K mg base N qual scope f cd A outer s0 H0 E) (N5 K E) (e :: es) t)
  (he : starEach (e :: es) (AB5 (CXE P w base) P w K mg base N qual scope f cd A outer s0 H0 E).env = (false, eval e (AB5 (CXE P w base) P w K mg base N qual scope f cd A outer s0 H0 E).env) :: starEach es (AB5 (CXE P w base) P w K mg base N qual scope f cd A outer s0 H0 E).env)
  (hpl : (backTo cpos (starEach es (AB5 (CXE P w base) P w K mg base N qual scope f cd A outer s0 H0 E).env)).any (·.1) = false) :
  JS (AB5 (CXE P w base) P w K mg base N qual scope f cd A outer s0 H0 E) (N5 K E) (.Raise (some (.Call (.Name x np) (e :: es) [] cpos)) none pos) (AB9 x t) := by
 obtain ⟨C, hC, hA, hm⟩ := B.ex
 exact ARW hC hA (fun cv dx H ⟨c, C, e1, e2, hC, q⟩ => by subst e1; subst e2; exact q C hC) hg hm ha B.dbg he hpl
end
def AbK : Data → Option ClassData
 | .cls cd => some cd
 | _ => none
theorem ATZ {d : Data} {cd : ClassData} (h : AbK d = some cd) : d = .cls cd := by
 cases d with
 | cls c => rw [Option.some.inj h]
 | _ => exact nomatch (show (none : Option ClassData) = some cd from h)
def AbF : List Value := [.type "ValueError", .type "Exception", .type "BaseException", .type "object"]
def AbR (K : PySem.W.Frag) (C : Addr) (sl : Array (Option Value)) (cd : ClassData) : Bool :=
 (cd.mro.head? == some (.ref C)) && ((!cd.hasDel) && (PySem.W.tailIn K AbF cd.mro.tail && (PySem.W.nsOkIn K cd.ns && ((PySem.W.nsIn K cd.ns "__init__" == some none) && ((sl.toList.length == 6) && (sl.toList[4]? == some (some (.builtin "ValueError.__new__"))))))))
def AUT (K : PySem.W.Frag) (C : Addr) (o : Obj) : Bool := (o.cls == .type "type") && (AbK o.data).elim false (AbR K C o.slots)
def AW5 (K : PySem.W.Frag) (C : Addr) : Bool := (K.lookup C).elim false (AUT K C)
theorem AIA {α : Type} {o : Option α} {f : α → Bool} (h : o.elim false f = true) : ∃ a, o = some a ∧ f a = true := by
 cases o with
 | none => exact nomatch (show false = true from h)
 | some a => exact ⟨a, rfl, h⟩
theorem AR9 {K : PySem.W.Frag} {C : Addr} {dd : Option Addr} {cd : ClassData} {bm : List Value} {sl : Array (Option Value)} {j0 j1 j2 j3 j5 : Option Value} (ho : K.lookup C = some ⟨.type "type", dd, .cls cd, sl⟩) (em : cd.mro = .ref C :: bm) (eh : cd.hasDel = false) (es : sl = #[j0, j1, j2, j3, some (.builtin "ValueError.__new__"), j5])
  (q4 : PySem.W.tailIn K AbF bm = true) (q5 : PySem.W.nsOkIn K cd.ns = true) (q6 : PySem.W.nsIn K cd.ns "__init__" = some none) : AI7 K C := by
 intro h X
 have e : cd = ⟨cd.name, cd.bases, .ref C :: bm, cd.ns, cd.qualname, cd.hasDict, cd.slotNames, cd.subclasses, cd.abstract, cd.collection, false⟩ := by rw [← em, ← eh]
 rw [es, e] at ho
 have T := PySem.W.tail_of_in X q4
 exact ⟨_, _, _, _, bm, _, _, _, _, _, _, _, _, _, _, _, _, X _ _ ho, .of_isNs (PySem.W.isNs_of_in X q5), PySem.W.nsMap_none_of_in X q5 q6, T, T.hasType rfl⟩
theorem ASC {sl : Array (Option Value)} (h : sl.toList.length = 6) (h4 : sl.toList[4]? = some (some (.builtin "ValueError.__new__"))) : ∃ j0 j1 j2 j3 j5, sl = #[j0, j1, j2, j3, some (.builtin "ValueError.__new__"), j5] := by
 obtain ⟨l⟩ := sl
 exact (AJX (n := 5) (P := fun l : List (Option Value) => l[4]? = some (some (.builtin "ValueError.__new__")) → ∃ j0 j1 j2 j3 j5, (⟨l⟩ : Array (Option Value)) = #[j0, j1, j2, j3, some (.builtin "ValueError.__new__"), j5]) fun j0 => AJX fun j1 => AJX fun j2 => AJX fun j3 => AJX fun j4 => AJX fun j5 => AWO fun z => ⟨j0, j1, j2, j3, j5, by rw [Option.some.inj (show some j4 = some _ from z)]⟩) l h h4
theorem AX4 {l : List Value} {v : Value} (h : l.head? = some v) : l = v :: l.tail := by
 cases l with
 | nil => exact nomatch h
 | cons a r => rw [Option.some.inj (show some a = some v from h)]; rfl
theorem AZH {b : Bool} (h : (!b) = true) : b = false := by
 cases b with
 | false => rfl
 | true => exact nomatch h
theorem AXU {K : PySem.W.Frag} {C : Addr} (q : AW5 K C = true) : AI7 K C := by
 obtain ⟨o, ho, q⟩ := AIA q
 obtain ⟨q1, q⟩ := Bool.and_eq_true_iff.mp q
 obtain ⟨cd, hc, q⟩ := AIA q
 obtain ⟨q2, q⟩ := Bool.and_eq_true_iff.mp q
 obtain ⟨q3, q⟩ := Bool.and_eq_true_iff.mp q
 obtain ⟨q4, q⟩ := Bool.and_eq_true_iff.mp q
 obtain ⟨q5, q⟩ := Bool.and_eq_true_iff.mp q
 obtain ⟨q6, q⟩ := Bool.and_eq_true_iff.mp q
 obtain ⟨q7, q8⟩ := Bool.and_eq_true_iff.mp q
 obtain ⟨j0, j1, j2, j3, j5, es⟩ := ASC (eq_of_beq q7) (eq_of_beq q8)
 refine AR9 (cd := cd) (dd := o.dict) (sl := o.slots) ?_ (AX4 (eq_of_beq q2)) (AZH q3) es q4 q5 (eq_of_beq q6)
 rw [ho, ← eq_of_beq q1, ← ATZ hc]
section
variable {K : PySem.W.Frag} {mg : Str → Option Value} {h : Heap}
theorem AHS {x : Str} {C : Addr} (X : K.In h) (G : h.Ns mainGlobals mg) (a : PySem.W.nsIn K mainGlobals x = some (some (.ref C))) (q : AW5 K C = true) (d : (x == ("__debug__" : Str)) = false) : ErrK K mg x :=
 ⟨⟨C, AXU q, a, PySem.W.mg_of X G a⟩, d⟩
end
theorem AOX {P : Program} {w : World} {K : PySem.W.Frag} {mg : Str → Option Value} {base : Heap} {k : Nat} {f : Addr} {fd : FuncData} {ps : List Str} {sp : Sp} (F : FnOk P w K mg base (CXE P w base) k f fd ps sp) :
  FnOk P w K mg base CX0 k f fd ps (fun vs H Q _ => sp vs H Q fun _ _ _ => False) :=
 ⟨fun vs H Q E h => F.len vs H Q _ h, fun A outer s H args us vs Q E hr he hb hv hs => codeAny_mono (F.run A outer s H args us vs Q (fun _ _ _ => False) hr he hb hv hs) fun r s' q => by
  cases r with
  | ok f => cases f <;> exact q
  | error e =>
   obtain ⟨ea, cls, a0, T, H', h1, h2, h3, h4, h5, h6, h7, h8, h9, h10, h11, z⟩ := q
   exact z.elim⟩
section
variable {X : Cx} {Ek : EK}
def AcK : T → T → Option T
 | .tuple xs, .tuple ys => if (!xs.isEmpty && O5 (xs.length + ys.length)) = true then some (.tuple (xs ++ ys)) else none
 | a, b => t9 a b
def ANM (K : PySem.W.Frag) : R2 := fun x y H Q => AV1 K x y H Q ∨ AWR K x y H Q
theorem op_addU : OpR X (binaryOp .Add) (ANM X.K) := op_addT.or AUF
theorem AQR {K : PySem.W.Frag} : ACL K (ANM K) AcK := fun x y tx ty a H Q rx ry e q => by
 have other : t9 tx ty = some a → ANM K x y H Q := fun e' => .inl (E3 x y tx ty a H Q rx ry e' q)
 cases tx with
 | tuple xs =>
  cases ty with
  | tuple ys =>
   have e' : (if (!xs.isEmpty && O5 (xs.length + ys.length)) = true then some (PyData.tuple (xs ++ ys)) else none) = some a := e
   by_cases hl : (!xs.isEmpty && O5 (xs.length + ys.length)) = true
   ·rw [if_pos hl] at e'
    cases e'
    obtain ⟨h1, h2⟩ := Bool.and_eq_true_iff.mp hl
    unfold Rep at rx ry
    obtain ⟨p, vs, rfl, hp, l1⟩ := rx
    obtain ⟨p', vs', rfl, hp', l2⟩ := ry
    have n1 : vs ≠ [] := fun z => by
     rw [z] at l1
     have := l1.length
     cases xs with
     | nil => cases h1
     | cons b r => simp at this
    refine .inr ⟨p, p', vs, vs', rfl, rfl, hp, hp', n1, by rw [l1.length, l2.length]; exact AEE h2, fun z => ?_, fun z r hr => ?_⟩
    ·refine q _ H (Same.refl H) ?_
     unfold Rep
     refine ⟨p, vs, rfl, hp, ?_⟩
     have hy : ys = [] := by
      have := l2.length
      rw [z] at this
      cases ys with
      | nil => rfl
      | cons b r => simp at this
     rw [hy, List.append_nil]; exact l1
    ·refine q _ _ (E6 hr _) ?_
     unfold Rep
     exact ⟨r, _, rfl, SqT.of D9, RepL.mono (E6 hr _) _ _ (l1.append l2)⟩
   ·rw [if_neg hl] at e'; cases e'
  | _ => exact other e
 | _ => exact other e
def APL (xs : List T) (lo hi : Option Int) : List T := (xs.drop (HT.sIx xs.length 0 lo)).take (HT.sIx xs.length xs.length hi - HT.sIx xs.length 0 lo)
theorem RepL.drop {K : PySem.W.Frag} {H : Hp} : ∀ {ts : List T} {vs : List V} (n : Nat), RepL K H ts vs → RepL K H (ts.drop n) (vs.drop n)
 | [], _, n, h => by unfold RepL at h; subst h; simp; exact G6
 | t :: ts, _, 0, h => h
 | t :: ts, _, n + 1, h => by
  unfold RepL at h
  obtain ⟨v, r, rfl, _, h3⟩ := h
  exact RepL.drop n h3
theorem RepL.take {K : PySem.W.Frag} {H : Hp} : ∀ {ts : List T} {vs : List V} (n : Nat), RepL K H ts vs → RepL K H (ts.take n) (vs.take n)
 | [], _, n, h => by unfold RepL at h; subst h; simp; exact G6
 | t :: ts, _, 0, h => by simp; exact G6
 | t :: ts, _, n + 1, h => by
  unfold RepL at h
  obtain ⟨v, r, rfl, h2, h3⟩ := h
  exact B7 h2 (RepL.take n h3)
theorem AS9 {K : PySem.W.Frag} {H : Hp} {ts : List T} {vs : List V} (lo hi : Option Int) (h : RepL K H ts vs) : RepL K H (APL ts lo hi) (AT4 vs lo hi) := by
 unfold APL AT4
 rw [h.length]
 exact (h.drop _).take _
def ADZ : T → Bool
 | .none => true
 | _ => false
def AZ1 : T → T → Option Bool
 | .none, .list xs => if xs.all SeqAt.shaped = true then some (xs.any ADZ) else none
 | _, _ => none
def AW1 (a b : T) : Option T := (AZ1 a b).map .bool
theorem ANV (x y c : T) (h : AW1 x y = some c) : ∃ k, c = .bool k := by
 unfold AW1 at h
 cases e : AZ1 x y with
 | none => rw [e] at h; cases h
 | some k => rw [e] at h; exact ⟨k, (Option.some.inj h).symm⟩
def Ab0 (K : PySem.W.Frag) : R2 := fun x y H Q => ∃ xs, x = .non ∧ Rep K H (.list xs) y ∧ xs.all SeqAt.shaped = true ∧ Q (.bl (xs.any ADZ)) H
def AGN : Value → Bool
 | .none => true
 | _ => false
theorem AII {K : PySem.W.Frag} {H : Hp} {y : T} {v : V} {u : Value} (r : Rep K H y v) (q : RelV v u) : AGN u = ADZ y := by
 cases y with
 | none => unfold Rep at r; subst r; cases q; rfl
 | bool b => unfold Rep at r; subst r; cases q; rfl
 | int i => unfold Rep at r; subst r; obtain ⟨t, rfl⟩ := q; rfl
 | str x => unfold Rep at r; obtain ⟨rfl, _⟩ := r; obtain ⟨t, rfl⟩ := q; rfl
 | list ts => unfold Rep at r; obtain ⟨a, vs, rfl, _⟩ := r; cases q; rfl
 | tuple ts => unfold Rep at r; obtain ⟨a, vs, rfl, _⟩ := r; cases q; rfl
 | dict _ => unfold Rep at r; rcases r with ⟨c, a, C, _, rfl, _⟩ | ⟨a, _, rfl⟩ <;> (cases q; rfl)
theorem ALO {K : PySem.W.Frag} {H : Hp} : ∀ (ts : List T) (vs : List V) (us : List Value), RepL K H ts vs → Vals vs us → us.any AGN = ts.any ADZ
 | [], _, _, r, q => by unfold RepL at r; subst r; cases q; rfl
 | t :: ts, _, _, r, q => by
  unfold RepL at r
  obtain ⟨v, vr, rfl, r1, r2⟩ := r
  cases q with
  | cons q1 q2 => rw [List.any_cons, List.any_cons, AII r1 q1, ALO ts vr _ r2 q2]
theorem AVO (y : T) : PyData.eqv y .none = ADZ y := by cases y <;> rfl
theorem ALY {pins : List (Addr × Obj)} {σ : L2.St} {H : Hp} {s : Shared} (I : Inv X pins σ H s) (hu : X.A.units + 100 < cLine) : ∀ (ts : List T) (vs : List V) (us : List Value), RepL X.K H ts vs → Vals vs us → ts.all SeqAt.shaped = true → ∀ u ∈ us, SeqAt.EqAt X.A.in1 s u .none (AGN u)
 | [], _, _, r, q, _ => by unfold RepL at r; subst r; cases q; intro u hu; cases hu
 | t :: ts, _, _, r, q, h => by
  unfold RepL at r
  obtain ⟨v, vr, rfl, r1, r2⟩ := r
  rw [List.all_cons, Bool.and_eq_true] at h
  cases q with
  | cons q1 q2 =>
   intro u hm
   rcases List.mem_cons.mp hm with rfl | hm
   ·obtain ⟨as, ra⟩ := Z9 I t v _ r1 q1 (SeqAt.canLay_of_shaped h.1)
    rw [AII r1 q1, ← AVO]
    refine SeqAt.eqAt_reads t .none X.A.in1 s _ _ as [] ra .none (SeqAt.canLay_of_shaped h.1) rfl ?_
    have := SeqAt.depth_of_shaped h.1
    show X.A.units + 1 + _ < cLine
    omega
   ·exact ALY I hu ts vr _ r2 q2 h.2 u hm
theorem AXK (hu : X.A.units + 100 < cLine) : OpR X (compareOp .In) (Ab0 X.K) := by
 intro pins s σ H x y v u Q I rx ry h
 obtain ⟨xs, rfl, r, hs, q⟩ := h
 cases rx
 unfold Rep at r
 obtain ⟨a, vs, rfl, hq, l⟩ := r
 cases ry
 obtain ⟨its, rv, pl, _⟩ := I.list hq
 refine SeqAt.in_listAt AGN pl.isList (fun w' hw => ALY I hu xs vs its l rv hs w' (by simpa using hw)) ⟨.bl _, H, I, rfl, ?_⟩
 rw [show its.toArray.any AGN = its.any AGN by simp, ALO xs vs its l rv]
 exact q
theorem AU7 {K : PySem.W.Frag} : ACL K (Ab0 K) AW1 := fun x y tx ty a H Q rx ry e q => by
 unfold AW1 at e
 match tx, ty, e, rx, ry with
 | .none, .list xs, e, rx, ry =>
  unfold Rep at rx
  by_cases hs : xs.all SeqAt.shaped = true
  ·simp only [AZ1, hs, if_true, Option.map_some] at e
   cases e
   exact ⟨xs, rx, ry, hs, q _ H (Same.refl H) L7⟩
  ·simp only [AZ1, hs, if_false] at e
   cases e
def AIL : T → Bool
 | .bool _ => true
 | _ => false
def AK3 : T → Bool
 | .bool b => b
 | _ => true
def ATB : List T → Option T
 | [.list xs] => if xs.all AIL = true then some (.bool (xs.all AK3)) else none
 | _ => none
def AZ7 : Value → Bool
 | .bool b => b
 | _ => true
theorem ART {K : PySem.W.Frag} {H : Hp} {ts : List T} {vs : List V} {us : List Value} (r : RepL K H ts vs) (q : Vals vs us) (h : ts.all AIL = true) : (∀ (i : Nat) (v : Value), us[i]? = some v → ∃ b, v = Value.bool b) ∧ us.length = ts.length ∧ ((List.range us.length).all fun i => ((us[i]?).map AZ7).getD true) = ts.all AK3 := by
 have e1 : us.length = ts.length := by rw [← q.length, r.length]
 have key : ∀ (ts : List T) (vs : List V) (us : List Value), RepL K H ts vs → Vals vs us → ts.all AIL = true → (∀ v ∈ us, ∃ b, v = Value.bool b) ∧ us.all AZ7 = ts.all AK3 := by
  intro ts
  induction ts with
  | nil => intro vs us r q _; unfold RepL at r; subst r; cases q; exact ⟨fun v hv => (List.not_mem_nil hv).elim, rfl⟩
  | cons t ts ih =>
   intro vs us r q h
   unfold RepL at r
   obtain ⟨v, vr, rfl, r1, r2⟩ := r
   rw [List.all_cons, Bool.and_eq_true] at h
   cases q with
   | cons q1 q2 =>
    obtain ⟨h1, h2⟩ := ih vr _ r2 q2 h.2
    cases t with
    | bool b =>
     unfold Rep at r1
     subst r1
     cases q1
     refine ⟨fun v hv => ?_, ?_⟩
     ·rcases List.mem_cons.mp hv with rfl | hv
      ·exact ⟨b, rfl⟩
      ·exact h1 v hv
     ·rw [List.all_cons, List.all_cons, h2]; rfl
    | _ => exact absurd h.1 Bool.false_ne_true
 obtain ⟨k1, k2⟩ := key ts vs us r q h
 refine ⟨fun i v hv => k1 v (List.mem_of_getElem? hv), e1, ?_⟩
 rw [← k2, Bool.eq_iff_iff, List.all_eq_true, List.all_eq_true]
 constructor
 ·intro h b hb
  obtain ⟨i, hi, e⟩ := List.getElem_of_mem hb
  have := h i (List.mem_range.mpr hi)
  rw [List.getElem?_eq_getElem hi, e] at this
  exact this
 ·intro h i hi
  have hi' := List.mem_range.mp hi
  rw [List.getElem?_eq_getElem hi']
  exact h _ (List.getElem_mem hi')
def AbJ (K : PySem.W.Frag) : List V → Hp → VK → Prop := fun xs H Q => ∃ x ts, xs = [x] ∧ Rep K H (.list ts) x ∧ ts.all AIL = true ∧ Q (.bl (ts.all AK3)) H
theorem AQG (hc : X.calm = true) : AFX X (.builtin "all") (AbJ X.K) := by
 intro pins s σ H xs us Q I r h
 obtain ⟨x, ts, rfl, rt, hb, q⟩ := h
 obtain ⟨u, rfl, ru⟩ := AR7 r
 unfold Rep at rt
 obtain ⟨a, vs, rfl, hq, l⟩ := rt
 cases ru
 obtain ⟨its, rv, pl, _⟩ := I.list hq
 obtain ⟨k1, k2, k3⟩ := ART l rv hb
 have hl := pl.isList
 have hlt : a < s.heap.objs.size := by obtain ⟨_, e, _⟩ := hl; exact Heap.lt_size e
 refine call_all_walk (wpAny_pyIter_list hl ⟨s.heap.objs.size, [s.heap.objs.size, a], [s.heap.objs.size], its.toArray.size, _, _, fun i => ((its[i]?).map AZ7).getD true, rfl, Walks.list (A := X.A.in1) (I.ok.hd hc) _ a (Nat.ne_of_lt hlt) its.toArray, ⟨⟨_, Heap.get?_push_size _ rfl, rfl, rfl⟩, hl.push _⟩, fun i v s' Q' E' hP hQ => ?_, fun h' tk hk => ?_⟩)
 ·have e : its[i]? = some v := by simpa using hP
  obtain ⟨b, rfl⟩ := k1 i v e
  simp only [e, Option.map_some, Option.getD_some, AZ7] at hQ
  exact wpAny_truthy_bool hQ
 ·rw [List.size_toArray, k3]
  exact ⟨.bl _, H, I.kept (fun b o e => hk b o (fun z => by rw [List.mem_singleton.mp z] at e; exact Nat.lt_irrefl _ (Heap.lt_size e)) (Heap.get?_push_of_some _ e)), rfl, q⟩
theorem AUG {K : PySem.W.Frag} : ASP K (AbJ K) ATB := fun xs ts a H Q r e q => by
 match ts, e, r with
 | [.list ys], e, r =>
  unfold RepL at r
  obtain ⟨v, vr, rfl, r1, r⟩ := r
  unfold RepL at r; subst r
  have e' : (if ys.all AIL = true then some (PyData.bool (ys.all AK3)) else none) = some a := e
  by_cases hb : ys.all AIL = true
  ·rw [if_pos hb] at e'
   cases e'
   exact ⟨v, ys, rfl, r1, hb, q _ H (Same.refl H) L7⟩
  ·rw [if_neg hb] at e'; cases e'
theorem AOC {e : Expr} {t : FA} {p pos : Pos} (hc : X.calm = true) (hm : X.mg "all" = none) (hg : Gl X "all") (ha : JA X Ek [e] t) (he : starEach [e] X.env = (false, eval e X.env) :: starEach [] X.env) : JE X Ek (.Call (.Name "all" p) [e] [] pos) (eN ATB t) :=
 ALH (AQG hc) AUG (by decide +kernel) (by decide +kernel) (by decide +kernel) hm hg ha he rfl
def AFV : List T → Option T
 | [.list xs] => some (.tuple xs)
 | [.tuple xs] => some (.tuple xs)
 | _ => none
theorem AUX {K : PySem.W.Frag} : ASP K (fun xs H Q => ∃ p ys, xs = [.ref p] ∧ ((SqL K H p ys ∧ ∀ l, H l = none → Q (.ref l) (upd H l (.tup ys))) ∨ (SqT K H p ys ∧ Q (.ref p) H))) AFV := fun xs ts a H Q r e q => by
 match ts, e, r with
 | [.list ys], e, r =>
  unfold RepL at r
  obtain ⟨v, vr, rfl, r1, r⟩ := r
  unfold RepL at r; subst r
  unfold Rep at r1; obtain ⟨p, vs, rfl, hp, l⟩ := r1
  cases e
  refine ⟨p, vs, rfl, .inl ⟨hp, fun r hr => q _ _ (E6 hr _) ?_⟩⟩
  unfold Rep
  exact ⟨r, vs, rfl, SqT.of D9, RepL.mono (E6 hr _) _ _ l⟩
 | [.tuple ys], e, r =>
  unfold RepL at r
  obtain ⟨v, vr, rfl, r1, r⟩ := r
  unfold RepL at r; subst r
  have r1' := r1
  unfold Rep at r1; obtain ⟨p, vs, rfl, hp, l⟩ := r1
  cases e
  exact ⟨p, vs, rfl, .inr ⟨hp, q _ H (Same.refl H) r1'⟩⟩
theorem j6 {e : Expr} {t : FA} {p pos : Pos} (hm : X.mg "tuple" = none) (hg : Gl X "tuple") (ha : JA X Ek [e] t) (he : starEach [e] X.env = (false, eval e X.env) :: starEach [] X.env) : JE X Ek (.Call (.Name "tuple" p) [e] [] pos) (eN AFV t) :=
 AZP AH4 AUX (by decide +kernel) (by decide +kernel) (by decide +kernel) hm hg ha he rfl
end
section
variable {prog : Program} {w : World} {A : Around} {E : Value → Shared → Prop}
theorem AM7 {it l : Addr} {items : Array Value} (hne : l ≠ it) : ∀ (n i : Nat) (s : Shared) (Q : List Value → Shared → Prop), s.heap.IsListIter it l i → s.heap.IsList l items → i + n ≤ items.size →
  (∀ h', h'.IsListIter it l (i + n) → Heap.SameBut it s.heap h' → Q ((items.toList.drop i).take n) { s with heap := h' }) → wpAny (model prog w) A (draw (.ref it) n) Q E s
 | 0, i, s, Q, hit, _, _, hQ => by
  refine wpAny_pure (show Q [] s from ?_)
  have z := hQ s.heap hit (Heap.SameBut.refl ..)
  simpa using z
 | n + 1, i, s, Q, hit, ht, hle, hQ => by
  have lt : i < items.size := by omega
  refine wpAny_bind (wpAny_pyNext_list_item hit ht (x := items[i]) (by simp [lt]) fun h1 hit1 hs1 => ?_)
  have ht1 : h1.IsList l items := by
   obtain ⟨o, e, c⟩ := ht
   exact ⟨o, (hs1.2 l hne).trans e, c⟩
  refine wpAny_bind (wpAny_holding (AM7 hne n (i + 1) _ _ hit1 ht1 (by omega) fun h2 hit2 hs2 => wpAny_pure ?_))
  have e1 : items.toList.drop i = items[i] :: items.toList.drop (i + 1) := by simp [List.drop_eq_getElem_cons, lt]
  have z := hQ h2 (by rw [show i + (n + 1) = i + 1 + n by omega]; exact hit2) (hs1.trans hs2)
  rw [e1, List.take_succ_cons] at z
  exact z
theorem AOY {s : Shared} {l : Addr} {items : Array Value} {Q : List Value → Shared → Prop} (hh : A.handled = none) (ht : s.heap.IsList l items)
  (hQ : ∀ h', Heap.ExtBut s.heap.objs.size s.heap h' → Q items.toList { s with heap := h' }) : wpAny (model prog w) A (unpackItems (.ref l) items.size none) Q E s := by
 have ne : l ≠ s.heap.objs.size := by obtain ⟨o, ho, _⟩ := ht; exact Nat.ne_of_lt (Heap.lt_size ho)
 unfold unpackItems notIterableAtAll
 refine wpAny_bind (wpAny_bind (wpAny_specialOf ht.typeIs slot_list_iter.lookup (wpAny_pure ?_)))
 simp only [Bool.false_eq_true, if_false]
 refine wpAny_bind (wpAny_holding (wpAny_pyIter_list ht ?_))
 refine wpAny_bind (wpAny_holding (AM7 ne items.size 0 _ _ ⟨_, Heap.get?_push_size _ rfl, rfl, rfl⟩ (ht.push _) (by omega) fun h1 hit1 hs1 => ?_))
 rw [show List.take items.size (List.drop 0 items.toList) = items.toList from by rw [List.drop_zero]; exact List.take_of_length_le (by simp), if_neg (by simp)]
 have ht1 : h1.IsList l items := by
  obtain ⟨o, e, c⟩ := ht.push _
  exact ⟨o, (hs1.2 l ne).trans e, c⟩
 refine wpAny_bind (wpAny_holding (wpAny_pyNext_list_end hh hit1 ht1 (by simp) fun h2 he2 => ?_))
 simp only [Option.isSome_none, Bool.false_eq_true, if_false]
 refine wpAny_pure (hQ h2 fun b o hb e => he2 b o hb ((hs1.2 b hb).trans (Heap.get?_push_of_some _ e)))
end
section
variable {X : Cx} {Ek : EK}
def AZB (gs : List FG) : FG := fun t ρ => match t with
 | .list ts => AMS gs ts ρ
 | _ => none
theorem AWU {es : List Expr} {k : Nat} {gs : List FG} {pos : Pos} (hc : X.calm = true) (h : JGs X es gs) (hn : (assignEach es X.env).length = gs.length) (hst : (assignEach es X.env).findIdx? (·.1) = none) : JG X (.Tuple es k pos) (AZB gs) := by
 intro pins s σ H v u Q I r hw
 obtain ⟨t, ρ, ρ', rt, R0, e, q⟩ := hw
 cases t with
 | list ts =>
  unfold Rep at rt
  obtain ⟨a, vs, rfl, hq, l⟩ := rt
  cases r
  obtain ⟨its, rv, pl, hz⟩ := I.list hq
  have e' : AMS gs ts ρ = some ρ' := e
  have hl : its.toArray.size = gs.length := by rw [List.size_toArray, ← rv.length, l.length]; exact AC3 e'
  rw [arm_assign_Tuple]
  refine wpAny_bind (wpAny_standAt ?_)
  unfold unpack
  rw [hn, hst, ← hl]
  refine wpAny_bind (wpAny_holding (AOY (I.ok.hd hc) pl.isList fun h' hx => ?_))
  have I1 : Inv X pins σ H { s with heap := h' } := I.kept (t' := s.toks) fun b o e => hx b o (Nat.ne_of_lt (Heap.lt_size e)) e
  exact h pins _ σ H vs _ Q I1 (by simpa using rv) ⟨ts, ρ, ρ', l, R0, e', q⟩
 | _ => cases e
end
theorem ABV {K : PySem.W.Frag} {H : Hp} {a : Addr} {dd : Option Addr} {its : Array Value} {n : Nat} {sl : Array (Option Value)} {ts : List T} {vs : List V} (hk : K.lookup a = some ⟨.type "tuple", dd, .seq its n, sl⟩) (hz : its.size ≤ sizeLine) (r : Vals vs its.toList) (l : RepL K H ts vs) : Rep K H (.tuple ts) (.ref a) := by
 unfold Rep
 exact ⟨a, vs, rfl, .inr ⟨_, its, n, hk, rfl, rfl, hz, r⟩, l⟩
section
variable {X : Cx} {Ek : EK}
theorem AEF {pins : List (Addr × Obj)} {σ : L2.St} {s : Shared} {a : Addr} {vs : List V} {H0 : Hp} (I : Inv X pins σ (upd H0 a (.lst vs)) s) (h0 : H0 a = none) :
  ∃ o : Obj, Inv X (pins ++ [(a, o)]) σ H0 s ∧ ∀ {σ' : L2.St} {H' : Hp} {s' : Shared}, Inv X (pins ++ [(a, o)]) σ' H' s' → H' a = none ∧ Inv X pins σ' (upd H' a (.lst vs)) s' := by
 have hA : upd H0 a (HO.lst vs) a = some (.lst vs) := D9
 obtain ⟨hz, its, n, hv, e⟩ := I.hok a _ hA
 have hne : ∀ b u, H0 b = some u → b ≠ a := fun b u q z => by rw [z, h0] at q; cases q
 have up : ∀ b u, H0 b = some u → upd H0 a (HO.lst vs) b = some u := fun b u q => by rw [C0 (hne b u q)]; exact q
 have nl : X.env.locals ≠ a := fun z => by have := I.free; rw [z, hA] at this; cases this
 have nfs : a ∉ X.fs := fun z => by
  obtain ⟨_, o, ho, _⟩ := I.ok.funs.mem z
  have := I.base.free a o ho (I.ok.frf a z) (fun q => I.ok.exfs a q z)
  rw [hA] at this; cases this
 have nc : ∀ x c, X.env.cells.lookup x = some c → c ≠ a := fun x c q z => by have := I.freeC x c q; rw [z, hA] at this; cases this
 have nT : ∀ b xs, X.H₀ b = some (.tup xs) → b ≠ a := fun b xs q z => by have := I.base.tups b xs q; rw [z, hA] at this; cases this
 have nF : ∀ b o u, X.H₀ b = some (.frz o u) → b ≠ a := fun b o u q z => by have := I.base.frzs b o u q; rw [z, hA] at this; cases this
 have nB : ∀ b ps, X.H₀ b = some (.tbl ps) → b ≠ a := fun b ps q z => by obtain ⟨m, this⟩ := I.base.tbls b ps q; rw [z, hA] at this; cases this
 have nS : ∀ b o, X.s₀.heap.get? b = some o → X.H₀ b = none → b ∉ X.ex → b ≠ a := fun b o q n x z => by have := I.base.free b o q n x; rw [z, hA] at this; cases this
 have nP : ∀ p ∈ X.pn ++ pins, p.1 ≠ a := fun p hp z => by have := (I.pin p hp).2.1; rw [z, hA] at this; cases this
 refine ⟨{ cls := .type "list", data := .seq its.toArray n }, ⟨I.ok, I.os, I.bare, ⟨I.base.keep, I.base.slot, fun b o q n x => ?_, I.base.there, fun b xs q => ?_, fun b o u q => ?_, fun b ps q => ?_⟩, I.loc, I.cell, ?_, fun x c q => ?_, fun p hp => ?_, fun b u q => ?_, I.len⟩, fun {σ' H' s'} I' => ?_⟩
 ·have := I.base.free b o q n x
  rwa [C0 (nS b o q n x)] at this
 ·have := I.base.tups b xs q
  rwa [C0 (nT b xs q)] at this
 ·have := I.base.frzs b o u q
  rwa [C0 (nF b o u q)] at this
 ·obtain ⟨m, this⟩ := I.base.tbls b ps q
  rw [C0 (nB b ps q)] at this
  exact ⟨m, this⟩
 ·have := I.free
  rwa [C0 nl] at this
 ·have := I.freeC x c q
  rwa [C0 (nc x c q)] at this
 ·rw [← List.append_assoc] at hp
  rcases List.mem_append.mp hp with hp | hp
  ·obtain ⟨p1, p2, p3⟩ := I.pin p hp
   rw [C0 (nP p hp)] at p2
   exact ⟨p1, p2, p3⟩
  ·have hp' := List.mem_singleton.mp hp
   subst hp'
   exact ⟨e, h0, Ne.symm nl, nfs, fun v z => by cases z⟩
 ·refine (I.hok b u (up b u q)).stay (fun c v _ r => r) (fun c r => ?_) fun c xs r => ?_
  ·by_cases hc : c = a
   ·subst hc; rw [hA] at r; cases r
   ·rwa [C0 hc] at r
  ·by_cases hc : c = a
   ·subst hc; rw [hA] at r; cases r
   ·rwa [C0 hc] at r
 ·obtain ⟨pe, pn, _⟩ := I'.pin (a, { cls := .type "list", data := .seq its.toArray n }) (List.mem_append_right _ (List.mem_append_right _ (List.mem_singleton.mpr rfl)))
  have hne' : ∀ c u, H' c = some u → c ≠ a := fun c u q z => by rw [z] at q; rw [show H' a = none from pn] at q; cases q
  refine ⟨pn, I'.ok, I'.os, I'.bare, ⟨I'.base.keep, I'.base.slot, fun b o q n x => ?_, I'.base.there, fun b xs q => ?_, fun b o u q => ?_, fun b ps q => ?_⟩, I'.loc, I'.cell, ?_, fun x c q => ?_, fun p hp => ?_, fun b u q => ?_, I'.len⟩
  ·rw [C0 (nS b o q n x)]; exact I'.base.free b o q n x
  ·rw [C0 (nT b xs q)]; exact I'.base.tups b xs q
  ·rw [C0 (nF b o u q)]; exact I'.base.frzs b o u q
  ·rw [C0 (nB b ps q)]; exact I'.base.tbls b ps q
  ·rw [C0 nl]; exact I'.free
  ·rw [C0 (nc x c q)]; exact I'.freeC x c q
  ·obtain ⟨p1, p2, p3⟩ := I'.pin p (by rw [← List.append_assoc]; exact List.mem_append_left _ hp)
   exact ⟨p1, by rw [C0 (nP p hp)]; exact p2, p3⟩
  ·by_cases hb : b = a
   ·subst hb
    rw [D9] at q
    cases q
    exact ⟨hz, its, n, hv, pe⟩
   ·rw [C0 hb] at q
    exact (I'.hok b u q).stay (fun c v _ r => r) (fun c r => by rw [C0 (hne' c _ r)]; exact r) fun c xs r => by rw [C0 (hne' c _ r)]; exact r
def AcE (t : TE) : TE := fun σ H Q => ∃ a vs H0, H0 a = none ∧ H = upd H0 a (.lst vs) ∧ t σ H0 fun v H' => H' a = none → Q v (upd H' a (.lst vs))
theorem AWA {e : Expr} {t : TE} (h : PE X e t) : PE X e (AcE t) := by
 intro pins s σ H Q I ⟨a, vs, H0, h0, e, q⟩
 subst e
 obtain ⟨o, I0, rev⟩ := AEF I h0
 refine thn (h _ s σ H0 _ I0 q) fun u s1 ⟨v, H1, I1, r1, q1⟩ => ?_
 obtain ⟨n1, I2⟩ := rev I1
 exact ⟨v, _, I2, r1, q1 n1⟩
def AQL (t : TT) : TT := fun σ H Q => ∃ a vs H0, H0 a = none ∧ H = upd H0 a (.lst vs) ∧ t σ H0 fun v H' => H' a = none → Q v (upd H' a (.lst vs))
def AcA (t : TG) : TG := fun v σ H Q => ∃ a vs H0, H0 a = none ∧ H = upd H0 a (.lst vs) ∧ t v σ H0 fun σ' H' => H' a = none → Q σ' (upd H' a (.lst vs))
theorem AT2 {e : Expr} {t : TG} (h : PG X e t) : PG X e (AcA t) := by
 intro pins s σ H v u Q I r ⟨a, vs, H0, h0, e, q⟩
 subst e
 obtain ⟨o, I0, rev⟩ := AEF I h0
 refine thn (h _ s σ H0 v u _ I0 r q) fun _ s1 ⟨σ1, H1, I1, q1⟩ => ?_
 obtain ⟨n1, I2⟩ := rev I1
 exact ⟨σ1, _, I2, q1 n1⟩
def AbQ (t : TI) : TI := fun σ H R => ∃ a vs H0, H0 a = none ∧ H = upd H0 a (.lst vs) ∧ t σ H0 fun J H' => H' a = none → R J (upd H' a (.lst vs))
theorem ATD {tg e : Expr} {t : TI} (h : PI X tg e t) : PI X tg e (AbQ t) := by
 intro pins s σ H R I ⟨a, vs, H0, h0, e, q⟩
 subst e
 obtain ⟨o, I0, rev⟩ := AEF I h0
 refine thn (h _ s σ H0 _ I0 q) fun v s1 h1 => thn h1 fun itv s2 h2 => ?_
 obtain ⟨it, fp, tn, J, H2, e, I2, T, st2, f2, q2⟩ := h2
 obtain ⟨n2, I3⟩ := rev I2
 refine ⟨it, fp, tn, J, _, e, I3, T, st2, fun b hb => ?_, q2 n2⟩
 obtain ⟨f0, f1, f3, f4, f5, f6⟩ := f2 b hb
 have hba : b ≠ a := fun z => f6 (a, o) (List.mem_append_right _ (List.mem_append_right _ (List.mem_singleton.mpr rfl))) z.symm
 exact ⟨by rw [C0 hba]; exact f0, f1, f3, f4, f5, fun p hp => f6 p (by rw [← List.append_assoc]; exact List.mem_append_left _ hp)⟩
def AcM (t : TS) : TS := fun D σ H => ∃ a vs H0, H0 a = none ∧ H = upd H0 a (.lst vs) ∧
 t ⟨fun σ' H' => H' a = none → D.nx σ' (upd H' a (.lst vs)), fun v H' => H' a = none → D.rt v (upd H' a (.lst vs)), fun σ' H' => H' a = none → D.bk σ' (upd H' a (.lst vs)), fun σ' H' => H' a = none → D.ct σ' (upd H' a (.lst vs))⟩ σ H0
theorem AY5 {st : Stmt} {t : TS} (h : PS X st t) : PS X st (AcM t) := by
 intro pins s σ H D I ⟨a, vs, H0, h0, e, q⟩
 subst e
 obtain ⟨o, I0, rev⟩ := AEF I h0
 refine thn (h _ s σ H0 _ I0 q) fun f s1 q1 => ?_
 cases f with
 | next => obtain ⟨σ1, H1, I1, q1⟩ := q1; obtain ⟨n1, I2⟩ := rev I1; exact ⟨σ1, _, I2, q1 n1⟩
 | brk => obtain ⟨σ1, H1, I1, q1⟩ := q1; obtain ⟨n1, I2⟩ := rev I1; exact ⟨σ1, _, I2, q1 n1⟩
 | cont => obtain ⟨σ1, H1, I1, q1⟩ := q1; obtain ⟨n1, I2⟩ := rev I1; exact ⟨σ1, _, I2, q1 n1⟩
 | ret u => obtain ⟨v, σ1, H1, I1, r1, q1⟩ := q1; obtain ⟨n1, I2⟩ := rev I1; exact ⟨v, σ1, _, I2, r1, q1 n1⟩
inductive BR where
 | nx (ρ : Ev) (acc : List T)
 | ct (ρ : Ev) (acc : List T)
 | bad
abbrev FB := Nat → Ev → List T → BR
structure Own (K : PySem.W.Frag) (i a : Nat) (Hb : Hp) (ρ : Ev) (acc : List T) (σ : L2.St) (H0 : Hp) (vs : List V) : Prop where
 base : Same Hb H0
 free : H0 a = none
 env : RepEnv K H0 ρ σ
 rep : RepL K H0 acc vs
 slot : ρ[i]? = some (some (W0 a))
def lBR (K : PySem.W.Frag) (i a : Nat) (Hb : Hp) (D : Ends) : BR → Prop
 | .nx ρ acc => ∀ σ H0 vs, Own K i a Hb ρ acc σ H0 vs → D.nx σ (upd H0 a (.lst vs))
 | .ct ρ acc => ∀ σ H0 vs, Own K i a Hb ρ acc σ H0 vs → D.ct σ (upd H0 a (.lst vs))
 | .bad => False
def lB (K : PySem.W.Frag) (i : Nat) (t : FB) : TS := fun D σ H => ∃ a Hb ρ acc H0 vs, H = upd H0 a (.lst vs) ∧ Own K i a Hb ρ acc σ H0 vs ∧ lBR K i a Hb D (t a ρ acc)
abbrev JB (X : Cx) (i : Nat) (st : Stmt) (t : FB) : Prop := PS X st (lB X.K i t)
abbrev JBs (X : Cx) (i : Nat) (sts : List Stmt) (t : FB) : Prop := PSs X sts (lB X.K i t)
def N9 (i a : Nat) (ρ : Ev) : Bool := match ρ[i]? with
 | some (some (.dict [(.int k, .none)])) => decide (k = a)
 | _ => false
theorem AEM {i a : Nat} {ρ : Ev} (h : N9 i a ρ = true) : ρ[i]? = some (some (W0 a)) := by
 unfold N9 at h
 split at h
 ·rename_i k e
  rw [e]
  have := of_decide_eq_true h
  subst this
  rfl
 ·cases h
def i8 (i : Nat) (t : FS) : FB := fun a ρ acc => match t ρ with
 | .nx ρ' => if N9 i a ρ' = true then .nx ρ' acc else .bad
 | .ct ρ' => if N9 i a ρ' = true then .ct ρ' acc else .bad
 | _ => .bad
theorem AAY {i : Nat} {st : Stmt} {t : FS} (h : JS X Ek st t) : JB X i st (i8 i t) := by
 refine PS.weak (AY5 h) fun D σ H hh => ?_
 obtain ⟨a, Hb, ρ, acc, H0, vs, e, o, q⟩ := hh
 refine ⟨a, vs, H0, o.free, e, ρ, o.env, ?_⟩
 unfold i8 at q
 cases er : t ρ with
 | nx ρ' =>
  rw [er] at q
  intro σ' H' s' R' n'
  by_cases hk : N9 i a ρ' = true
  ·simp only [hk, if_true] at q
   exact q σ' H' vs ⟨o.base.trans s', n', R', RepL.mono s' acc vs o.rep, AEM hk⟩
  ·simp only [hk] at q
   exact q.elim
 | ct ρ' =>
  rw [er] at q
  intro σ' H' s' R' n'
  by_cases hk : N9 i a ρ' = true
  ·simp only [hk, if_true] at q
   exact q σ' H' vs ⟨o.base.trans s', n', R', RepL.mono s' acc vs o.rep, AEM hk⟩
  ·simp only [hk] at q
   exact q.elim
 | rt a => rw [er] at q; exact q.elim
 | bk a => rw [er] at q; exact q.elim
 | ex c fs => rw [er] at q; exact q.elim
 | bad => rw [er] at q; exact q.elim
def AE8 (t u : FB) : FB := fun a ρ acc => match t a ρ acc with
 | .nx ρ' acc' => u a ρ' acc'
 | r => r
theorem ADS {i : Nat} {st : Stmt} {t : FB} (h : JB X i st t) : JBs X i [st] t := AQ9 h
theorem m8 {i : Nat} {st : Stmt} {R4 : List Stmt} {t u : FB} (h1 : JB X i st t) (h2 : JBs X i R4 u) : JBs X i (st :: R4) (AE8 t u) := by
 refine PSs.weak (AE9 h1 h2) fun D σ H hh => ?_
 obtain ⟨a, Hb, ρ, acc, H0, vs, e, o, q⟩ := hh
 refine ⟨a, Hb, ρ, acc, H0, vs, e, o, ?_⟩
 unfold AE8 at q
 cases er : t a ρ acc with
 | nx ρ' acc' =>
  rw [er] at q
  exact fun σ' H' vs' o' => ⟨a, Hb, ρ', acc', H', vs', rfl, o', q⟩
 | ct ρ' acc' => rw [er] at q; exact q
 | bad => rw [er] at q; exact q
def bIf (c : FT) (t u : FB) : FB := fun a ρ acc => match c ρ with
 | .ok true => t a ρ acc
 | .ok false => u a ρ acc
 | _ => .bad
def ANL (te : FE) : FB := fun _ ρ acc => match te ρ with
 | .ok y => if O5 acc.length = true then .nx ρ (acc ++ [y]) else .bad
 | _ => .bad
theorem AM4 {i : Nat} {x : Str} {e : Expr} {te : FE} {p ap cp pos : Pos} (hN : X.N[i]? = some x) (hv : Vis X.env.scope x) (hd : (x == ("__debug__" : Str)) = false) (hcd : (x == ("__classdict__" : Str)) = false) (he : JE X Ek e te)
  (hbase : attributeBase (.Name x p) "append" X.env (eval (.Name x p) X.env) = eval (.Name x p) X.env)
  (hfew : ((backTo cp (starEach [e] X.env)).all (fun x => !x.1) && (backToKw cp (keywordEach [] X.env)).all (fun x => x.1.isSome) && decide (([e] : List Expr).length + ([] : List Keyword).length + (if ([] : List Keyword).isEmpty then 0 else 1) < 30)) = true)
  (hline : (ap.endLine == cp.line) = true) (hs : starEach [e] X.env = (false, eval e X.env) :: starEach [] X.env) (hplain : (backTo cp (starEach [] X.env)).any (·.1) = false)
  (hw : swapsWith (.Call (.Attribute (.Name x p) "append" ap) [e] [] cp) none pos.line X.env = pure false) :
  JB X i (.Expr (.Call (.Attribute (.Name x p) "append" ap) [e] [] cp) pos) (ANL te) := by
 refine PS.weak (AOU (AaR PySem.F.plainAttrs_list PySem.F.slot_list_append PySem.F.type_list_append AQ1 (ASU hN hv hd hcd) (AHB (AWA he) AM1 hs) hbase hfew hline hs hplain) hw) fun D σ H hh => ?_
 obtain ⟨a, Hb, ρ, acc, H0, vs, e, o, q⟩ := hh
 subst e
 obtain ⟨v, e1, e2⟩ := o.env.get i _ o.slot
 have e2' := APT e2
 subst e2'
 refine ⟨.ref a, e1, .inl ⟨rfl, _, SqL.of D9⟩, a, vs, H0, o.free, rfl, ρ, o.env, ?_⟩
 unfold ANL at q
 cases er : te ρ with
 | ok y =>
  rw [er] at q
  intro v H1 s1 ry n1
  by_cases hs : O5 acc.length = true
  ·simp only [hs, if_true] at q
   have hl : vs.length = acc.length := o.rep.length
   have hz : vs.length < sizeLine := by
    have h1 : acc.length ≤ 1000 := of_decide_eq_true hs
    have h2 : 1000 < sizeLine := by decide
    omega
   refine ⟨a, vs, v, rfl, rfl, D9, hz, ?_⟩
   rw [AUY]
   exact q σ H1 (vs ++ [v]) ⟨o.base.trans s1, n1, o.env.mono s1, (RepL.mono s1 acc vs o.rep).append (B7 ry G6), o.slot⟩
  ·simp only [hs] at q
   exact q.elim
 | ex c fs => rw [er] at q; exact q.elim
 | bad => rw [er] at q; exact q.elim
def YM (J : It) : Prop := ∀ i H0 H x H3, Same H0 H → J.yld i H x H3 → H3 = H ∧ J.yld i H0 x H0
def lIy (K : PySem.W.Frag) (Ek : EK) (t : FI) : TI := fun σ H R => ∃ ρ, RepEnv K H ρ σ ∧ wR Ek H (t ρ) fun ts => ∀ J H', Same H H' → AE0 K J ts H' → YM J → R J H'
abbrev JIy (X : Cx) (Ek : EK) (tg iter : Expr) (t : FI) : Prop := PI X tg iter (lIy X.K Ek t)
theorem AVC {K : PySem.W.Frag} {a : Addr} : YM (Itl K a) := fun i H0 H x H3 s y => ⟨y.1, rfl, fun xs h => y.2 xs (d4 s h)⟩
theorem AYN {K : PySem.W.Frag} {a : Addr} : YM (Itt K a) := fun i H0 H x H3 s y => ⟨y.1, rfl, fun xs h => y.2 xs (S1 s h)⟩
def W9 (g : FG) (body : FB) : List T → FB
 | [], _, ρ, acc => .nx ρ acc
 | t :: ts, a, ρ, acc => match g t ρ with
  | none => .bad
  | some ρ1 => match body a ρ1 acc with
   | .nx ρ2 acc2 => W9 g body ts a ρ2 acc2
   | .ct ρ2 acc2 => W9 g body ts a ρ2 acc2
   | .bad => .bad
def ALE (i : Nat) (it : FI) (g : FG) (body : FB) : FB := fun a ρ acc => match it ρ with
 | .ok ts => W9 (fun t ρ => (g t ρ).bind fun ρ' => if N9 i a ρ' = true then some ρ' else none) body ts a ρ acc
 | _ => .bad
theorem AYO {i : Nat} {tg iter : Expr} {body : List Stmt} {it : FI} {g : FG} {tb : FB} {pos : Pos} (hp : PassesOwn (model X.prog X.w) X.A X.env X.xe) (hc : X.calm = true) (hi : JIy X Ek tg iter it) (hg : JG X tg g) (hb : JBs X i body tb)
  (hs : ∀ x, foldedSetIterable iter X.env x = pure x) : JB X i (.For tg iter body [] pos) (ALE i it g tb) := by
 refine PS.weak (AOK hp hc (ATD hi) (AT2 hg) hb hs) fun D σ H hh => ?_
 obtain ⟨a, Hb, ρ, acc, H0, vs, e, o, q⟩ := hh
 refine ⟨a, vs, H0, o.free, e, ρ, o.env, ?_⟩
 unfold ALE at q
 cases er : it ρ with
 | ex c fs => rw [er] at q; exact q.elim
 | bad => rw [er] at q; exact q.elim
 | ok ts =>
  simp only [er] at q
  generalize hg' : (fun t ρ => (g t ρ).bind fun ρ' => if N9 i a ρ' = true then some ρ' else none) = g' at q
  have sub : ∀ {G0 : Hp} {ws : List V} {G : Hp}, Same G G0 → G a = none → Same G (upd G0 a (.lst ws)) := fun {G0 ws G} s n b u z => by
   rw [C0 (fun e => by rw [e, n] at z; cases z)]; exact s b u z
  intro J H1 s1 iO ym n1
  refine ⟨fun k m σ H => m = ts.length - k ∧ k ≤ ts.length ∧ ∃ ρ acc G vs, H = upd G a (.lst vs) ∧ Same H1 G ∧ Own X.K i a Hb ρ acc σ G vs ∧ lBR X.K i a Hb D (W9 g' tb (ts.drop k) a ρ acc),
   ⟨ts.length, by simp, Nat.zero_le _, ρ, acc, H1, vs, rfl, Same.refl H1, ⟨o.base.trans s1, n1, o.env.mono s1, RepL.mono s1 acc vs o.rep, o.slot⟩, by rw [List.drop_zero]; exact q⟩, ?_⟩
  rintro k m σ H ⟨rfl, hk, ρ, acc, G, vs, rfl, sG, o, q⟩
  by_cases hlt : k < ts.length
  ·refine .inr ?_
   have ht : ts[k]? = some ts[k] := List.getElem?_eq_getElem hlt
   obtain ⟨go, _⟩ := (iO k (upd G a (.lst vs)) (sub sG n1)).1 _ ht
   refine ⟨go, fun σ' H' => ∃ ρ acc G vs, H' = upd G a (.lst vs) ∧ Same H1 G ∧ Own X.K i a Hb ρ acc σ' G vs ∧ lBR X.K i a Hb D (W9 g' tb (ts.drop (k + 1)) a ρ acc), fun σ' H' q' => ⟨ts.length - (k + 1), by omega, rfl, hlt, q'⟩, fun x H' y => ?_⟩
   obtain ⟨e3, y0⟩ := ym k G (upd G a (.lst vs)) x H' (sub (Same.refl G) o.free) y
   subst e3
   obtain ⟨_, yl⟩ := (iO k G sG).1 _ ht
   obtain ⟨_, rx⟩ := yl x G y0
   rw [List.drop_eq_getElem_cons hlt] at q
   rw [W9] at q
   have hgt : g' ts[k] ρ = ((g ts[k] ρ).bind fun ρ' => if N9 i a ρ' = true then some ρ' else none) := by rw [← hg']
   cases eg : g ts[k] ρ with
   | none => rw [hgt, eg] at q; exact q.elim
   | some ρ1 =>
    by_cases hkb : N9 i a ρ1 = true
    ·have hgt' : g' ts[k] ρ = some ρ1 := by rw [hgt, eg]; show (if N9 i a ρ1 = true then some ρ1 else none) = some ρ1; rw [if_pos hkb]
     simp only [hgt'] at q
     refine ⟨a, vs, G, o.free, rfl, ts[k], ρ, ρ1, rx, o.env, eg, fun σ1 R1 n2 => ?_⟩
     refine ⟨a, G, ρ1, acc, G, vs, rfl, ⟨Same.refl G, n2, R1, o.rep, AEM hkb⟩, ?_⟩
     cases eb : tb a ρ1 acc with
     | nx ρ2 acc2 => simp only [eb] at q; exact fun σ2 G2 vs2 o2 => ⟨ρ2, acc2, G2, vs2, rfl, sG.trans o2.base, ⟨o.base.trans o2.base, o2.free, o2.env, o2.rep, o2.slot⟩, q⟩
     | ct ρ2 acc2 => simp only [eb] at q; exact fun σ2 G2 vs2 o2 => ⟨ρ2, acc2, G2, vs2, rfl, sG.trans o2.base, ⟨o.base.trans o2.base, o2.free, o2.env, o2.rep, o2.slot⟩, q⟩
     | bad => simp only [eb] at q; exact q.elim
    ·have hgt' : g' ts[k] ρ = none := by rw [hgt, eg]; show (if N9 i a ρ1 = true then some ρ1 else none) = none; rw [if_neg hkb]
     simp only [hgt'] at q
     exact q.elim
  ·refine .inl ⟨(iO k (upd G a (.lst vs)) (sub sG n1)).2 (by omega), ?_⟩
   rw [List.drop_eq_nil_of_le (by omega)] at q
   exact q σ G vs o
open Classical in
noncomputable def ACU (i : Nat) (tb : FB) : FS := fun ρ => if h : i < ρ.length ∧ ∃ r : Ev, ∀ a, ∃ ρ' acc, tb a (ρ.set i (some (W0 a))) [] = .nx ρ' acc ∧ ρ'.set i (some (.list acc)) = r then .nx (Classical.choose h.2) else .bad
theorem AIF {i : Nat} {tb : FB} {ρ r : Ev} (hi : i < ρ.length) (h : ∀ a, ∃ ρ' acc, tb a (ρ.set i (some (W0 a))) [] = .nx ρ' acc ∧ ρ'.set i (some (.list acc)) = r) : ACU i tb ρ = .nx r := by
 have hh : i < ρ.length ∧ ∃ r : Ev, ∀ a, ∃ ρ' acc, tb a (ρ.set i (some (W0 a))) [] = .nx ρ' acc ∧ ρ'.set i (some (.list acc)) = r := ⟨hi, r, h⟩
 unfold ACU
 rw [dif_pos hh]
 obtain ⟨ρ1, acc1, e1, e2⟩ := Classical.choose_spec hh.2 0
 obtain ⟨ρ2, acc2, e3, e4⟩ := h 0
 rw [e1] at e3
 injection e3 with e5 e6
 rw [← e2, e5, e6, e4]
theorem RepEnv.put {K : PySem.W.Frag} {H : Hp} {ρ : Ev} {σ : L2.St} {i : Nat} {v : V} {t : T} (h : RepEnv K H ρ σ) (e : σ[i]? = some (some v)) (r : Rep K H t v) : RepEnv K H (ρ.set i (some t)) σ := by
 have hs : σ.set i (some v) = σ := by
  apply List.ext_getElem?
  intro j
  by_cases hj : i = j
  ·subst hj
   rw [List.getElem?_set_self (List.getElem?_eq_some_iff.mp e).1, e]
  ·rw [List.getElem?_set_ne hj]
 have := h.set i r
 rwa [hs] at this
theorem ACV {i : Nat} {x : Str} {st : Stmt} {R4 : List Stmt} {tb : FB} {u : FS} {px pl pos : Pos} (hN : X.N.Nodup) (hi : X.N[i]? = some x) (hx : Loc X.env.scope x) (hs : swapsWith (.List [] pl) (some (.Name x px)) pos.line X.env = pure false) (hf : X.fn x = true ∨ X.env.scope.names.lookup x = some .local)
  (hst : JB X i st tb) (hr : JSs X Ek R4 u) : JSs X Ek (.Assign [.Name x px] (.List [] pl) pos :: st :: R4) (C4 (ACU i tb) u) := by
 refine PSs.weak (AE9 (ASR hN hi hx (ASW AM1) hs hf) (AE9 hst hr)) fun D σ H h => ?_
 obtain ⟨ρ, R, h⟩ := h
 by_cases hh : i < ρ.length ∧ ∃ r : Ev, ∀ a, ∃ ρ' acc, tb a (ρ.set i (some (W0 a))) [] = .nx ρ' acc ∧ ρ'.set i (some (.list acc)) = r
 ·obtain ⟨hl, r, hr⟩ := hh
  unfold C4 at h
  rw [AIF hl hr] at h
  refine ⟨Nat.zero_le _, fun l nl => ?_⟩
  obtain ⟨ρ', acc, e1, e2⟩ := hr l
  refine ⟨l, H, ρ.set i (some (W0 l)), [], H, [], rfl, ⟨Same.refl H, nl, R.set i ARA, G6, List.getElem?_set_self hl⟩, ?_⟩
  rw [e1]
  intro σ' H0 vs o
  have sm : Same H (upd H0 l (.lst vs)) := o.base.trans (E6 o.free _)
  refine ⟨r, ?_, S0 sm h⟩
  obtain ⟨v, q1, q2⟩ := o.env.get i _ o.slot
  have q3 := APT q2
  subst q3
  rw [← e2]
  refine (o.env.mono (E6 o.free _)).put q1 ?_
  unfold Rep
  exact ⟨l, vs, rfl, SqL.of D9, RepL.mono (E6 o.free _) acc vs o.rep⟩
 ·unfold C4 ACU at h
  rw [dif_neg hh] at h
  exact h.elim
def AZJ : T → T → Option Bool
 | d, .list xs => if (SeqAt.shaped d && SeqAt.shaped (.list xs)) = true then some (xs.any fun y => PyData.eqv y d) else none
 | d, .tuple xs => if (SeqAt.shaped d && SeqAt.shaped (.tuple xs)) = true then some (xs.any fun y => PyData.eqv y d) else none
 | _, _ => none
def AZR (a b : T) : Option T := (AZJ a b).map .bool
def AaW (K : PySem.W.Frag) (f : Bool → Bool) : R2 := fun x y H Q => ∃ a b k, Rep K H a x ∧ Rep K H b y ∧ AZJ a b = some k ∧ Q (.bl (f k)) H
theorem AFP {xs : List T} (h : SeqAt.shaped (.list xs) = true) : PyData.canLayAll0 xs = true := by
 have := SeqAt.canLay_of_shaped h
 unfold PyData.canLay0 at this
 exact this
theorem AF2 {xs : List T} (h : SeqAt.shaped (.tuple xs) = true) : PyData.canLayAll0 xs = true := by
 have := SeqAt.canLay_of_shaped h
 unfold PyData.canLay0 at this
 exact this
theorem AXY (hu : X.A.units + 100 < cLine) : OpR X (compareOp .In) (AaW X.K id) := by
 intro pins s σ H x y v u Q I rx ry h
 obtain ⟨a, b, k, ra, rb, e, q⟩ := h
 match b, e, rb with
 | .list xs, e, rb =>
  have e' : (if (SeqAt.shaped a && SeqAt.shaped (.list xs)) = true then some (xs.any fun y => PyData.eqv y a) else none) = some k := e
  by_cases hs : (SeqAt.shaped a && SeqAt.shaped (.list xs)) = true
  ·rw [if_pos hs] at e'
   have e2 := Option.some.inj e'
   obtain ⟨h1, h2⟩ := Bool.and_eq_true_iff.mp hs
   obtain ⟨as, r1⟩ := Z9 I a x v ra rx (SeqAt.canLay_of_shaped h1)
   obtain ⟨bs, r2⟩ := Z9 I (.list xs) y u rb ry (SeqAt.canLay_of_shaped h2)
   refine SeqAt.in_list_reads r2 r1 (AFP h2) (SeqAt.canLay_of_shaped h1) (room_in_shaped h1 (by omega)) ?_
   rw [e2]
   exact ⟨.bl k, H, I, rfl, q⟩
  ·rw [if_neg hs] at e'; cases e'
 | .tuple xs, e, rb =>
  have e' : (if (SeqAt.shaped a && SeqAt.shaped (.tuple xs)) = true then some (xs.any fun y => PyData.eqv y a) else none) = some k := e
  by_cases hs : (SeqAt.shaped a && SeqAt.shaped (.tuple xs)) = true
  ·rw [if_pos hs] at e'
   have e2 := Option.some.inj e'
   obtain ⟨h1, h2⟩ := Bool.and_eq_true_iff.mp hs
   obtain ⟨as, r1⟩ := Z9 I a x v ra rx (SeqAt.canLay_of_shaped h1)
   obtain ⟨bs, r2⟩ := Z9 I (.tuple xs) y u rb ry (SeqAt.canLay_of_shaped h2)
   refine SeqAt.in_tuple_reads r2 r1 (AF2 h2) (SeqAt.canLay_of_shaped h1) (room_in_shaped h1 (by omega)) ?_
   rw [e2]
   exact ⟨.bl k, H, I, rfl, q⟩
  ·rw [if_neg hs] at e'; cases e'
theorem AV7 {K : PySem.W.Frag} : ACL K (AaW K id) AZR := fun x y tx ty a H Q rx ry e q => by
 unfold AZR at e
 cases h : AZJ tx ty with
 | none => rw [h] at e; cases e
 | some k =>
  rw [h] at e
  have e' : PyData.bool k = a := Option.some.inj e
  subst e'
  exact ⟨tx, ty, k, rx, ry, h, q _ H (Same.refl H) L7⟩
end
section
variable {prog : Program} {w : World} {A : Around} {E : Value → Shared → Prop} {s : Shared}
theorem ANH {it t : Addr} {i : Nat} {vs : Array Value} {x : Value} {Q : Value → Shared → Prop} (k : s.heap.IsTupleIter it t i) (kt : s.heap.IsTuple t vs) (hx : vs[i]? = some x)
  (q : ∀ h', h'.IsTupleIter it t (i + 1) → Heap.SameBut it s.heap h' → Q x { s with heap := h' }) : wpAny (model prog w) A (Builtin.SmallTypes.nextOf (.ref it)) Q E s := by
 obtain ⟨ob, kob, kc, kd⟩ := id k
 obtain ⟨tb, ktb, _, nt, ktd⟩ := kt
 have ty := k.typeIs
 unfold Builtin.SmallTypes.nextOf
 refine wpAny_bind (wpAny_callSpecial?_slot (name := Str.ofString "__next__") ty F.slot_tuple_iterator_next (wpAny_call_entry F.slot_tuple_iterator_next ty F.entry_tuple_iterator_next ?_ (F.args_tuple_iterator_next_1 _)))
 show wpAny _ _ (field (Value.ref it) 0 >>= _) _ _ s
 refine wpAny_bind (wpAny_field kob kd (x := .ref t) rfl ?_)
 show wpAny _ _ (if ((Value.ref t == Value.none) = true) then _ else _) _ _ s
 rw [if_neg (by intro z; exact Bool.false_ne_true z)]
 show wpAny _ _ (field (Value.ref it) 1 >>= _) _ _ s
 refine wpAny_bind (wpAny_field kob kd (x := .int i 0) rfl ?_)
 show wpAny _ _ (seqItems? (Value.ref t) >>= _) _ _ s
 refine wpAny_bind (wpAny_seqItems ktb ktd ?_)
 simp only [hx, Int.toNat_natCast]
 refine wpAny_bind (wpAny_setField kob kd (by simp) (wpAny_pure ⟨x, rfl, wpAny_pure (q _ ⟨_, Heap.get?_update_self _ kob (Obj.isFreed_of_fields (Obj.data_mapFields kd _)), (Obj.cls_mapFields ..).trans kc, by rw [Obj.data_mapFields kd]; simp [rawInt]⟩ (Heap.SameBut.update ..))⟩))
theorem APE {it t : Addr} {i : Nat} {vs : Array Value} {Q : Value → Shared → Prop} (hh : A.handled = none) (k : s.heap.IsTupleIter it t i) (kt : s.heap.IsTuple t vs) (hx : vs[i]? = none)
  (q : ∀ h' e, Heap.ExtBut it s.heap h' → (∃ o, h'.get? e = some o ∧ o.cls = .type "StopIteration") → E (.ref e) { s with heap := h' }) : wpAny (model prog w) A (Builtin.SmallTypes.nextOf (.ref it)) Q E s := by
 obtain ⟨ob, kob, kc, kd⟩ := id k
 obtain ⟨tb, ktb, _, nt, ktd⟩ := kt
 have ty := k.typeIs
 unfold Builtin.SmallTypes.nextOf
 refine wpAny_bind (wpAny_callSpecial?_slot (name := Str.ofString "__next__") ty F.slot_tuple_iterator_next (wpAny_call_entry F.slot_tuple_iterator_next ty F.entry_tuple_iterator_next ?_ (F.args_tuple_iterator_next_1 _)))
 show wpAny _ _ (field (Value.ref it) 0 >>= _) _ _ s
 refine wpAny_bind (wpAny_field kob kd (x := .ref t) rfl ?_)
 show wpAny _ _ (if ((Value.ref t == Value.none) = true) then _ else _) _ _ s
 rw [if_neg (by intro z; exact Bool.false_ne_true z)]
 show wpAny _ _ (field (Value.ref it) 1 >>= _) _ _ s
 refine wpAny_bind (wpAny_field kob kd (x := .int i 0) rfl ?_)
 show wpAny _ _ (seqItems? (Value.ref t) >>= _) _ _ s
 refine wpAny_bind (wpAny_seqItems ktb ktd ?_)
 simp only [hx, Int.toNat_natCast]
 refine wpAny_bind (wpAny_rule (wpAny_bind (wpAny_setField kob kd (by simp) ?_)))
 show wpAny _ _ (newExc (Value.type "StopIteration") [] >>= _) _ _ _
 refine wpAny_bind ?_
 simp only [newTuple, newExc]
 refine wpAny_bind (wpAny_newObj_type ?_ (by first | size_fits))
 refine wpAny_bind (m := firstArgMember _ _) (wpAny_of_eq (a := Value.none) (by first | rfl | (simp only [firstArgMember]; done) | (simp only [firstArgMember]; rfl)) ?_)
 refine wpAny_newObj_type ?_ (by first | size_fits)
 simp only [raiseNew]
 refine wpAny_bind (wpAny_handled ?_)
 first | rw [hh] | rw [show A.in1.handled = none from hh]
 exact wpAny_bind (wpAny_pure (wpAny_throw (q _ _ (((Heap.SameBut.update ..).extBut.push _).push _) ⟨_, Heap.get?_push_size _ rfl, rfl⟩)))
def SeqB (b : Bool) (h : Heap) (l : Addr) (vs : Array Value) : Prop := match b with
 | false => h.IsList l vs
 | true => h.IsTuple l vs
def IterB (b : Bool) (h : Heap) (i l : Addr) (k : Nat) : Prop := match b with
 | false => h.IsListIter i l k
 | true => h.IsTupleIter i l k
def AAI (b : Bool) : String := if b = true then "tuple_iterator" else "list_iterator"
theorem SeqB.keep {b : Bool} {h h' : Heap} {l : Addr} {vs : Array Value} (x : SeqB b h l vs) (k : ∀ o, h.get? l = some o → h'.get? l = some o) : SeqB b h' l vs := by
 cases b with
 | false => exact x.at k
 | true => obtain ⟨o, e, r⟩ := x; exact ⟨o, k o e, r⟩
theorem IterB.keep {b : Bool} {h h' : Heap} {i l : Addr} {n : Nat} (x : IterB b h i l n) (k : ∀ o, h.get? i = some o → h'.get? i = some o) : IterB b h' i l n := by
 cases b with
 | false => exact x.at k
 | true => obtain ⟨o, e, r⟩ := x; exact ⟨o, k o e, r⟩
theorem IterB.obj {b : Bool} {h : Heap} {i l : Addr} {n : Nat} (x : IterB b h i l n) : ∃ o, h.get? i = some o ∧ ∀ v, o.data ≠ .cell v := by
 cases b with
 | false => obtain ⟨o, e, _, d⟩ := x; exact ⟨o, e, fun v z => by rw [d] at z; cases z⟩
 | true => obtain ⟨o, e, _, d⟩ := x; exact ⟨o, e, fun v z => by rw [d] at z; cases z⟩
theorem ABR {b : Bool} {i l : Addr} {n : Nat} {vs : Array Value} {x : Value} {Q : Value → Shared → Prop} (k : IterB b s.heap i l n) (kt : SeqB b s.heap l vs) (hx : vs[n]? = some x)
  (q : ∀ h', IterB b h' i l (n + 1) → Heap.SameBut i s.heap h' → Q x { s with heap := h' }) : wpAny (model prog w) A (Builtin.SmallTypes.nextOf (.ref i)) Q E s := by
 cases b with
 | false => exact wpAny_nextOf_list_item k kt hx q
 | true => exact ANH k kt hx q
theorem ADA {b : Bool} {i l : Addr} {n : Nat} {vs : Array Value} {Q : Value → Shared → Prop} (hh : A.handled = none) (k : IterB b s.heap i l n) (kt : SeqB b s.heap l vs) (hx : vs[n]? = none)
  (q : ∀ h' e, Heap.ExtBut i s.heap h' → (∃ o, h'.get? e = some o ∧ o.cls = .type "StopIteration") → E (.ref e) { s with heap := h' }) : wpAny (model prog w) A (Builtin.SmallTypes.nextOf (.ref i)) Q E s := by
 cases b with
 | false => exact wpAny_nextOf_list_end hh k kt hx q
 | true => exact APE hh k kt hx q
theorem ADO {b : Bool} {l : Addr} {vs : Array Value} {Q : Value → Shared → Prop} (kt : SeqB b s.heap l vs) (q : Q (.ref s.heap.objs.size) { s with heap := s.heap.push { cls := .type (AAI b), data := .fields #[.ref l, .int 0 0] } }) : wpAny (model prog w) A (pyIter (.ref l)) Q E s := by
 cases b with
 | false => exact wpAny_pyIter_list kt q
 | true => exact wpAny_pyIter_tuple kt q
structure ZipB (b c : Bool) (h : Heap) (z ti tu i j l m : Addr) (f0 : Value) (p q : Nat) : Prop where
 z : IsZip h z ti tu f0
 ti : IsPair h ti (.ref i) (.ref j)
 tu : ∃ x y, IsPair h tu x y
 i : IterB b h i l p
 j : IterB c h j m q
theorem AOO {b c : Bool} {z ti tu i j l m : Addr} {p q : Nat} {xs ys : Array Value} {x y : Value} {Q : Value → Shared → Prop} (D : ZipApart z ti tu i j l m) (Z : ZipB b c s.heap z ti tu i j l m .none p q)
  (hl : SeqB b s.heap l xs) (hm : SeqB c s.heap m ys) (hx : xs[p]? = some x) (hy : ys[q]? = some y)
  (hQ : ∀ h', ZipB b c h' z ti tu i j l m (rawInt s.heap.objs.size) (p + 1) (q + 1) → IsPair h' s.heap.objs.size x y → h'.objs.size = s.heap.objs.size + 1 →
   (∀ a o, a ≠ z → a ≠ tu → a ≠ i → a ≠ j → s.heap.get? a = some o → h'.get? a = some o) → Q (.ref s.heap.objs.size) { s with heap := h' }) :
  wpAny (model prog w) A (Builtin.«zip.__next__» ⟨[.ref z], []⟩) (fun fin s' => ∃ v, fin = .done (.ret v) ∧ Q v s') E s := by
 obtain ⟨z0, t0, ⟨u, v, u0⟩, i0, j0⟩ := Z
 show wpAny _ _ (field (Value.ref z) 2 >>= _) _ _ _
 refine wpAny_bind (wpAny_field z0 rfl (x := .bool false) rfl ?_)
 show wpAny _ _ (field (Value.ref z) 3 >>= _) _ _ _
 refine wpAny_bind (wpAny_field z0 rfl (x := .ref ti) rfl ?_)
 refine wpAny_bind (wpAny_seqItems t0 rfl ?_)
 show wpAny _ _ (Builtin.SmallTypes.ownedTupleIsFree (Value.ref z) >>= _) _ _ _
 refine wpAny_bind ?_
 unfold Builtin.SmallTypes.ownedTupleIsFree
 refine wpAny_bind (wpAny_field z0 rfl (x := .none) rfl (wpAny_pure ?_))
 simp only [if_true]
 refine wpAny_bind (wpAny_rule ?_)
 refine wpAny_bind (wpAny_field z0 rfl (x := .ref tu) rfl ?_)
 refine wpAny_bind (wpAny_setField_rec z0 (by simp) fun g1 z1 s1 => ?_)
 replace z1 : IsZip g1 z ti tu .ellipsis := z1
 refine wpAny_bind ?_
 simp only [List.forIn_cons, List.forIn_nil, List.zipIdx_cons, List.zipIdx_nil]
 refine wpAny_bind (wpAny_bind (wpAny_onRaise ?_))
 show wpAny _ _ (Builtin.SmallTypes.nextOf (Value.ref i) >>= _) _ _ _
 refine wpAny_bind (ABR (s := { s with heap := g1 }) (i0.keep fun o e => s1.extBut _ _ D.i1z e) (hl.keep fun o e => s1.extBut _ _ D.l1z e) hx fun g2 i2 s2 => wpAny_pure ?_)
 have u2 : IsPair g2 tu u v := s2.extBut _ _ D.TOi1 (s1.extBut _ _ D.TOz u0)
 refine wpAny_bind (wpAny_seqItems u2 rfl ?_)
 refine wpAny_bind (wpAny_updateSeq_pair u2 fun g3 u3 s3 => ?_)
 replace u3 : IsPair g3 tu x v := u3
 refine wpAny_bind (wpAny_letGo (wpAny_pure ?_))
 refine wpAny_bind (wpAny_bind (wpAny_onRaise ?_))
 show wpAny _ _ (Builtin.SmallTypes.nextOf (Value.ref j) >>= _) _ _ _
 refine wpAny_bind (ABR (s := { s with heap := g3 }) (j0.keep fun o e => s3.extBut _ _ D.TOi2.symm (s2.extBut _ _ D.i12.symm (s1.extBut _ _ D.i2z e))) (hm.keep fun o e => s3.extBut _ _ D.l2TO (s2.extBut _ _ D.l2i1 (s1.extBut _ _ D.l2z e))) hy fun g4 j4 s4 => wpAny_pure ?_)
 have u4 : IsPair g4 tu x v := s4.extBut _ _ D.TOi2 u3
 refine wpAny_bind (wpAny_seqItems u4 rfl ?_)
 refine wpAny_bind (wpAny_updateSeq_pair u4 fun g5 u5 s5 => ?_)
 replace u5 : IsPair g5 tu x y := u5
 refine wpAny_bind (wpAny_letGo (wpAny_pure (wpAny_pure ?_)))
 refine wpAny_bind (wpAny_seqItems u5 rfl ?_)
 refine wpAny_bind (wpAny_newTuple ?_)
 have e5 : g5.objs.size = s.heap.objs.size := by rw [s5.1, s4.1, s3.1, s2.1, s1.1]
 have z5 : IsZip g5 z ti tu .ellipsis := s5.extBut _ _ D.TOz.symm (s4.extBut _ _ D.i2z.symm (s3.extBut _ _ D.TOz.symm (s2.extBut _ _ D.i1z.symm z1)))
 have old5 : ∀ a o, a ≠ z → a ≠ tu → a ≠ i → a ≠ j → s.heap.get? a = some o → g5.get? a = some o := fun a o a1 a2 a3 a4 e => s5.extBut _ _ a2 (s4.extBut _ _ a4 (s3.extBut _ _ a2 (s2.extBut _ _ a3 (s1.extBut _ _ a1 e))))
 have i5 : IterB b g5 i l (p + 1) := i2.keep fun o e => s5.extBut _ _ D.TOi1.symm (s4.extBut _ _ D.i12 (s3.extBut _ _ D.TOi1.symm e))
 have j5 : IterB c g5 j m (q + 1) := j4.keep fun o e => s5.extBut _ _ D.TOi2.symm e
 have ltz : z < g5.objs.size := Heap.lt_size z5
 show wpAny _ _ (Builtin.SmallTypes.ownedTupleHandOut (Value.ref z) (Value.ref g5.objs.size) >>= _) _ _ _
 refine wpAny_bind ?_
 unfold Builtin.SmallTypes.ownedTupleHandOut
 have z6 : IsZip (g5.push { cls := .type "tuple", data := .seq #[x, y] }) z ti tu .ellipsis := Heap.get?_push_of_some _ z5
 refine wpAny_bind (wpAny_setField_rec z6 (by simp) fun g7 z7 s7 => ?_)
 replace z7 : IsZip g7 z ti tu (rawInt g5.objs.size) := z7
 refine wpAny_setField_rec z7 (by simp) fun g8 z8 s8 => ?_
 replace z8 : IsZip g8 z ti tu (rawInt g5.objs.size) := z8
 have up : ∀ a o, a ≠ z → g5.get? a = some o → g8.get? a = some o := fun a o a1 e => s8.extBut _ _ a1 (s7.extBut _ _ a1 (Heap.get?_push_of_some _ e))
 have T8 : IsPair g8 g5.objs.size x y := s8.extBut _ _ (Nat.ne_of_gt ltz) (s7.extBut _ _ (Nat.ne_of_gt ltz) (Heap.get?_push_size _ rfl))
 have e8 : g8.objs.size = g5.objs.size + 1 := by rw [s8.1, s7.1, Heap.size_push]
 rw [e5] at z8 T8 e8
 refine wpAny_pure ⟨_, rfl, ?_⟩
 show Q (Value.ref g5.objs.size) _
 rw [e5]
 exact hQ g8 ⟨z8, up _ _ D.TIz (old5 _ _ D.TIz D.TITO D.TIi1 D.TIi2 t0), ⟨x, y, up _ _ D.TOz u5⟩, i5.keep fun o e => up _ o D.i1z e, j5.keep fun o e => up _ o D.i2z e⟩ T8 e8 fun a o a1 a2 a3 a4 e => up a o a1 (old5 a o a1 a2 a3 a4 e)
theorem AQS {b c : Bool} {z ti tu i j l m : Addr} {p q : Nat} {xs ys : Array Value} {Q : PySem.Fin → Shared → Prop} (hh : A.handled = none) (D : ZipApart z ti tu i j l m) (Z : ZipB b c s.heap z ti tu i j l m .none p q)
  (hl : SeqB b s.heap l xs) (hm : SeqB c s.heap m ys) (hend : xs[p]? = none ∨ ys[q]? = none)
  (hE : ∀ h' e, (∀ a o, a ≠ z → a ≠ tu → a ≠ i → a ≠ j → s.heap.get? a = some o → h'.get? a = some o) → (∃ o, h'.get? e = some o ∧ o.cls = .type "StopIteration") → E (.ref e) { s with heap := h' }) :
  wpAny (model prog w) A (Builtin.«zip.__next__» ⟨[.ref z], []⟩) Q E s := by
 obtain ⟨z0, t0, ⟨u, v, u0⟩, i0, j0⟩ := Z
 show wpAny _ _ (field (Value.ref z) 2 >>= _) _ _ _
 refine wpAny_bind (wpAny_field z0 rfl (x := .bool false) rfl ?_)
 show wpAny _ _ (field (Value.ref z) 3 >>= _) _ _ _
 refine wpAny_bind (wpAny_field z0 rfl (x := .ref ti) rfl ?_)
 refine wpAny_bind (wpAny_seqItems t0 rfl ?_)
 show wpAny _ _ (Builtin.SmallTypes.ownedTupleIsFree (Value.ref z) >>= _) _ _ _
 refine wpAny_bind ?_
 unfold Builtin.SmallTypes.ownedTupleIsFree
 refine wpAny_bind (wpAny_field z0 rfl (x := .none) rfl (wpAny_pure ?_))
 simp only [if_true]
 refine wpAny_bind (wpAny_rule ?_)
 refine wpAny_bind (wpAny_field z0 rfl (x := .ref tu) rfl ?_)
 refine wpAny_bind (wpAny_setField_rec z0 (by simp) fun g1 z1 s1 => ?_)
 replace z1 : IsZip g1 z ti tu .ellipsis := z1
 refine wpAny_bind ?_
 simp only [List.forIn_cons, List.forIn_nil, List.zipIdx_cons, List.zipIdx_nil]
 refine wpAny_bind (wpAny_bind (wpAny_onRaise ?_))
 show wpAny _ _ (Builtin.SmallTypes.nextOf (Value.ref i) >>= _) _ _ _
 have i1' : IterB b g1 i l p := i0.keep fun o e => s1.extBut _ _ D.i1z e
 have l1' : SeqB b g1 l xs := hl.keep fun o e => s1.extBut _ _ D.l1z e
 cases hx : xs[p]? with
 | none =>
  refine wpAny_bind (ADA (s := { s with heap := g1 }) hh i1' l1' hx fun g2 e s2 he => ?_)
  obtain ⟨oe, ke, kc⟩ := he
  have z2 : IsZip g2 z ti tu .ellipsis := s2 _ _ D.i1z.symm z1
  have nez : e ≠ z := fun r => by subst r; rw [z2] at ke; cases ke; simp at kc
  exact wpAny_setField_rec z2 (by simp) fun g3 _ s3 => hE g3 e (fun a o a1 _ a3 _ r => s3.extBut _ _ a1 (s2 _ _ a3 (s1.extBut _ _ a1 r))) ⟨oe, s3.extBut _ _ nez ke, kc⟩
 | some x =>
  have hy : ys[q]? = none := by rcases hend with r | r; rw [hx] at r; cases r; exact r
  refine wpAny_bind (ABR (s := { s with heap := g1 }) i1' l1' hx fun g2 i2 s2 => wpAny_pure ?_)
  have u2 : IsPair g2 tu u v := s2.extBut _ _ D.TOi1 (s1.extBut _ _ D.TOz u0)
  refine wpAny_bind (wpAny_seqItems u2 rfl ?_)
  refine wpAny_bind (wpAny_updateSeq_pair u2 fun g3 u3 s3 => ?_)
  refine wpAny_bind (wpAny_letGo (wpAny_pure ?_))
  refine wpAny_bind (wpAny_bind (wpAny_onRaise ?_))
  show wpAny _ _ (Builtin.SmallTypes.nextOf (Value.ref j) >>= _) _ _ _
  refine wpAny_bind (ADA (s := { s with heap := g3 }) hh (j0.keep fun o e => s3.extBut _ _ D.TOi2.symm (s2.extBut _ _ D.i12.symm (s1.extBut _ _ D.i2z e))) (hm.keep fun o e => s3.extBut _ _ D.l2TO (s2.extBut _ _ D.l2i1 (s1.extBut _ _ D.l2z e))) hy fun g4 e s4 he => ?_)
  obtain ⟨oe, ke, kc⟩ := he
  have z4 : IsZip g4 z ti tu .ellipsis := s4 _ _ D.i2z.symm (s3.extBut _ _ D.TOz.symm (s2.extBut _ _ D.i1z.symm z1))
  have nez : e ≠ z := fun r => by subst r; rw [z4] at ke; cases ke; simp at kc
  exact wpAny_setField_rec z4 (by simp) fun g5 _ s5 => hE g5 e (fun a o a1 a2 a3 a4 r => s5.extBut _ _ a1 (s4 _ _ a4 (s3.extBut _ _ a2 (s2.extBut _ _ a3 (s1.extBut _ _ a1 r))))) ⟨oe, s5.extBut _ _ nez ke, kc⟩
theorem AJM {b c : Bool} {z ti tu i j l m : Addr} {p q : Nat} {xs ys : Array Value} {x y : Value} {Q : Option Value → Shared → Prop} (D : ZipApart z ti tu i j l m) (Z : ZipB b c s.heap z ti tu i j l m .none p q)
  (hl : SeqB b s.heap l xs) (hm : SeqB c s.heap m ys) (hx : xs[p]? = some x) (hy : ys[q]? = some y)
  (hQ : ∀ h', ZipB b c h' z ti tu i j l m (rawInt s.heap.objs.size) (p + 1) (q + 1) → IsPair h' s.heap.objs.size x y → h'.objs.size = s.heap.objs.size + 1 →
   (∀ a o, a ≠ z → a ≠ tu → a ≠ i → a ≠ j → s.heap.get? a = some o → h'.get? a = some o) → Q (some (.ref s.heap.objs.size)) { s with heap := h' }) : wpAny (model prog w) A (pyNext (.ref z)) Q E s := by
 have ty : s.TypeIs (.ref z) "zip" := ⟨_, Z.z, rfl⟩
 unfold pyNext
 exact wpAny_bind (wpAny_attempt (wpAny_callSpecial?_slot (name := Str.ofString "__next__") ty F.slot_zip_next (wpAny_call_entry F.slot_zip_next ty F.entry_zip_next (AOO D Z hl hm hx hy fun h' a1 a2 a3 a4 => wpAny_pure (hQ h' a1 a2 a3 a4)) (F.args_zip_next_1 _))))
theorem AL5 {b c : Bool} {z ti tu i j l m : Addr} {p q : Nat} {xs ys : Array Value} {Q : Option Value → Shared → Prop} (hh : A.handled = none) (D : ZipApart z ti tu i j l m) (Z : ZipB b c s.heap z ti tu i j l m .none p q)
  (hl : SeqB b s.heap l xs) (hm : SeqB c s.heap m ys) (hend : xs[p]? = none ∨ ys[q]? = none)
  (hQ : ∀ h', (∀ a o, a ≠ z → a ≠ tu → a ≠ i → a ≠ j → s.heap.get? a = some o → h'.get? a = some o) → Q none { s with heap := h' }) : wpAny (model prog w) A (pyNext (.ref z)) Q E s := by
 have ty : s.TypeIs (.ref z) "zip" := ⟨_, Z.z, rfl⟩
 unfold pyNext
 refine wpAny_bind (wpAny_attempt (wpAny_callSpecial?_slot (name := Str.ofString "__next__") ty F.slot_zip_next (wpAny_call_entry F.slot_zip_next ty F.entry_zip_next (AQS hh D Z hl hm hend fun h' e k he => ?_) (F.args_zip_next_1 _))))
 obtain ⟨o, ho, hc⟩ := he
 exact wpAny_bind (wpAny_isInstance (T := "StopIteration") (b := true) ⟨o, ho, hc⟩ isSubtype_stop (wpAny_pure (hQ _ k)))
abbrev zb1 (b : Bool) (h : Heap) (l : Addr) : Heap := h.push { cls := .type (AAI b), data := .fields #[.ref l, .int 0 0] }
abbrev zb2 (b c : Bool) (h : Heap) (l m : Addr) : Heap := (zb1 b h l).push { cls := .type (AAI c), data := .fields #[.ref m, .int 0 0] }
abbrev zb3 (b c : Bool) (h : Heap) (l m : Addr) : Heap := (zb2 b c h l m).push { cls := .type "tuple", data := .seq #[.ref h.objs.size, .ref (zb1 b h l).objs.size] }
abbrev zb4 (b c : Bool) (h : Heap) (l m : Addr) : Heap := (zb3 b c h l m).push { cls := .type "tuple", data := .seq #[.none, .none] }
abbrev zb5 (b c : Bool) (h : Heap) (l m : Addr) : Heap := (zb4 b c h l m).push { cls := .type "zip", data := .fields #[.none, .bool false, .bool false, .ref (zb2 b c h l m).objs.size, .ref (zb3 b c h l m).objs.size] }
theorem AYW (b c : Bool) (l m : Addr) (xs ys : Array Value) : Meets (Builtin.«zip.__new__» ⟨[.type "zip", .ref l, .ref m], []⟩) (fun _ R s => SeqB b s.heap l xs ∧ SeqB c s.heap m ys ∧ R (.ok (.ret (.ref (zb4 b c s.heap l m).objs.size))) { s with heap := zb5 b c s.heap l m }) :=
 .of_wp fun prog w A R s h => by
  obtain ⟨hp, g, d, tk, os⟩ := s
  obtain ⟨k1, k2, k3⟩ := h
  have hsub := sub_zip
  have K1 : SeqB b (Shared.heap ⟨hp, g, d, tk, os⟩) l xs := k1
  have K2 : SeqB c (Shared.heap ⟨hp.push { cls := .type (AAI b), data := .fields #[.ref l, .int 0 0] }, g, d, tk, os⟩) m ys := k2.keep fun o e => Heap.get?_push_of_some _ e
  wp_walk using ADO K1, ADO K2
  exact ⟨_, rfl, k3⟩
end
section
variable {X : Cx} {Ek : EK} {pins : List (Addr × Obj)} {σ : L2.St} {H : Hp} {s : Shared}
theorem AI6 {p : Addr} {x y : V} {u v : Value} (I : Inv X pins σ H s) (e : IsPair s.heap p u v) (n : H p = none) (h0 : X.s₀.heap.objs.size ≤ p) (nl : X.env.locals ≠ p) (nc : ∀ a c, X.env.cells.lookup a = some c → c ≠ p) (np : ∀ q ∈ X.pn ++ pins, q.1 ≠ p)
  (rx : RelV x u) (ry : RelV y v) : Inv X pins σ (upd H p (.tup [x, y])) s := by
 have nS : ∀ b o, X.s₀.heap.get? b = some o → b ≠ p := fun b o q => Nat.ne_of_lt (Nat.lt_of_lt_of_le (Heap.lt_size q) h0)
 have ne : ∀ c u, H c = some u → c ≠ p := fun c u q z => by rw [z, n] at q; cases q
 refine ⟨I.ok, I.os, I.bare, ⟨I.base.keep, I.base.slot, fun b o q m x => by rw [C0 (nS b o q)]; exact I.base.free b o q m x, I.base.there, fun b xs q => ?_, fun b o u q => ?_, fun b ps q => ?_⟩, I.loc, I.cell, by rw [C0 nl]; exact I.free, fun a c q => by rw [C0 (nc a c q)]; exact I.freeC a c q, fun q hq => ?_, fun b u' q => ?_, I.len⟩
 ·have := I.base.tups b xs q
  rw [C0 (ne b _ this)]; exact this
 ·have := I.base.frzs b o u q
  rw [C0 (ne b _ this)]; exact this
 ·obtain ⟨more, this⟩ := I.base.tbls b ps q
  exact ⟨more, by rw [C0 (ne b _ this)]; exact this⟩
 ·obtain ⟨p1, p2, p3⟩ := I.pin q hq
  exact ⟨p1, by rw [C0 (np q hq)]; exact p2, p3⟩
 ·by_cases hb : b = p
  ·subst hb
   rw [D9] at q
   cases q
   exact ⟨show 2 ≤ sizeLine by decide, [u, v], .cons rx (.cons ry .nil), ⟨_, e, rfl, _, rfl⟩⟩
  ·rw [C0 hb] at q
   exact (I.hok b u' q).stay (fun c w' _ r => r) (fun c r => by rw [C0 (ne c _ r)]; exact r) fun c xs r => by rw [C0 (ne c _ r)]; exact r
def SqB (b : Bool) (K : PySem.W.Frag) (H : Hp) (l : Addr) (xs : List V) : Prop := match b with
 | false => SqL K H l xs
 | true => SqT K H l xs
theorem V3 {b : Bool} {K : PySem.W.Frag} {H H' : Hp} (e : Same H H') {l : Addr} {xs : List V} (h : SqB b K H l xs) : SqB b K H' l xs := by
 cases b with
 | false => exact d4 e h
 | true => exact S1 e h
theorem AAU {b : Bool} {l : Addr} {xs : List V} (I : Inv X pins σ H s) (h : SqB b X.K H l xs) : ∃ its : List Value, Vals xs its ∧ SeqB b s.heap l its.toArray := by
 cases b with
 | false => obtain ⟨its, r, p, _⟩ := I.list h; exact ⟨its, r, p.isList⟩
 | true => obtain ⟨its, r, p, _⟩ := I.tuple h; exact ⟨its, r, p⟩
theorem AGU {b : Bool} {l : Addr} {xs ys : List V} (I : Inv X pins σ H s) (h : SqB b X.K H l xs) (h' : SqB b X.K H l ys) : xs = ys := by
 cases b with
 | false => exact I.list_inj h h'
 | true => exact I.tuple_inj h h'
def Itz (K : PySem.W.Frag) (b c : Bool) (l m : Addr) : It :=
 ⟨fun i H => ∃ xs ys x y, SqB b K H l xs ∧ SqB c K H m ys ∧ xs[i]? = some x ∧ ys[i]? = some y,
  fun i H v H' => ∃ p x y, v = .ref p ∧ H p = none ∧ H' = upd H p (.tup [x, y]) ∧ (∀ xs, SqB b K H l xs → xs[i]? = some x) ∧ ∀ ys, SqB c K H m ys → ys[i]? = some y,
  fun i H => ∃ xs ys, SqB b K H l xs ∧ SqB c K H m ys ∧ (xs.length ≤ i ∨ ys.length ≤ i)⟩
theorem ANW {h' : Heap} {b c : Bool} {z ti tu i j l m : Addr} (I : Inv X pins σ H s) (hf : ∀ a ∈ [z, ti, tu, i, j], AK0 X pins H a) (old : ∀ a o, a ≠ z → a ≠ tu → a ≠ i → a ≠ j → s.heap.get? a = some o → h'.get? a = some o) : Inv X pins σ H { s with heap := h' } := by
 have fz := hf z (by simp)
 have fu := hf tu (by simp)
 have fi := hf i (by simp)
 have fj := hf j (by simp)
 have far : ∀ a u, H a = some u → a ≠ z ∧ a ≠ tu ∧ a ≠ i ∧ a ≠ j := fun a u q => ⟨fun e => (by rw [e, fz.1] at q; cases q), fun e => (by rw [e, fu.1] at q; cases q), fun e => (by rw [e, fi.1] at q; cases q), fun e => (by rw [e, fj.1] at q; cases q)⟩
 have off : ∀ a, a ∉ [z, tu, i, j] → a ≠ z ∧ a ≠ tu ∧ a ≠ i ∧ a ≠ j := fun a q => by
  simp only [List.mem_cons, List.not_mem_nil, or_false, not_or] at q
  exact q
 refine I.step (g' := s.gens) (d' := s.drawn) (t' := s.toks) (ch := [z, tu, i, j]) (fun a ha => ?_) (fun a o _ _ q e _ => ?_) (fun a o _ _ q e _ => ⟨o.slots, ?_⟩) (fun _ _ _ _ q => q) (fun a o q e => ⟨o, ?_⟩) (fun _ _ e => e) (fun _ _ _ e => e) (fun a ps e => ⟨#[], by rw [e]; simp⟩) (fun mm hm => ?_) (fun a u e => ?_) I.bare
 ·simp only [List.mem_cons, List.not_mem_nil, or_false] at ha
  rcases ha with rfl | rfl | rfl | rfl
  ·exact ⟨fz.2.2.2.1, fz.2.1, fz.2.2.2.2.1, fz.2.2.2.2.2⟩
  ·exact ⟨fu.2.2.2.1, fu.2.1, fu.2.2.2.2.1, fu.2.2.2.2.2⟩
  ·exact ⟨fi.2.2.2.1, fi.2.1, fi.2.2.2.2.1, fi.2.2.2.2.2⟩
  ·exact ⟨fj.2.2.2.1, fj.2.1, fj.2.2.2.2.1, fj.2.2.2.2.2⟩
 ·obtain ⟨q1, q2, q3, q4⟩ := off a q
  exact old a o q1 q2 q3 q4 e
 ·obtain ⟨q1, q2, q3, q4⟩ := off a q
  exact old a o q1 q2 q3 q4 e
 ·obtain ⟨q1, q2, q3, q4⟩ := off a q
  exact old a o q1 q2 q3 q4 e
 ·obtain ⟨o, es, ep, ho, r⟩ := hm
  exact ⟨o, es, ep, old _ o (Ne.symm fz.2.1) (Ne.symm fu.2.1) (Ne.symm fi.2.1) (Ne.symm fj.2.1) ho, r⟩
 ·refine (I.hok a u e).stay (fun c' v hc q => ?_) (fun _ q => q) fun _ _ q => q
  have hfar : c' ≠ z ∧ c' ≠ tu ∧ c' ≠ i ∧ c' ≠ j := by
   rcases hc with r | r
   ·rw [r]; exact far a u e
   ·exact far c' _ r
  exact old c' v hfar.1 hfar.2.1 hfar.2.2.1 hfar.2.2.2 q
theorem ASL {P : Program} {w : World} {K : PySem.W.Frag} {elts : List Expr} {k0 : Nat} {pos : Pos} (b c : Bool) {z ti tu i j l m : Addr} (D : ZipApart z ti tu i j l m) :
  Turn P w K (.Tuple elts k0 pos) (Itz K b c l m) [z, ti, tu, i, j] z (fun n h => ZipB b c h z ti tu i j l m .none n n) where
 mem := by simp
 obj := fun n h st a ha => by
  simp only [List.mem_cons, List.not_mem_nil, or_false] at ha
  rcases ha with rfl | rfl | rfl | rfl | rfl
  ·exact ⟨_, st.z, fun v r => by cases r⟩
  ·exact ⟨_, st.ti, fun v r => by cases r⟩
  ·obtain ⟨x, y, e⟩ := st.tu
   exact ⟨_, e, fun v r => by cases r⟩
  ·exact st.i.obj
  ·exact st.j.obj
 keep := fun n h h' st k => ⟨k z (by simp) _ st.z, k ti (by simp) _ st.ti, by obtain ⟨x, y, e⟩ := st.tu; exact ⟨x, y, k tu (by simp) _ e⟩, st.i.keep fun o e => k i (by simp) o e, st.j.keep fun o e => k j (by simp) o e⟩
 item := by
  intro X hP hw hK hc n pins s σ H E I hf st hg
  subst hP hw hK
  obtain ⟨xs, ys, x, y, hq1, hq2, hx, hy⟩ := hg
  obtain ⟨is1, r1, p1⟩ := AAU I hq1
  obtain ⟨is2, r2, p2⟩ := AAU I hq2
  obtain ⟨u, hu, ru⟩ := r1.get hx
  obtain ⟨v, hv, rv⟩ := r2.get hy
  refine AJM D st p1 p2 (x := u) (y := v) (by simpa using hu) (by simpa using hv) fun h1 Z T sz old => ⟨_, rfl, ?_⟩
  refine wpAny_letOwnedTupleGo_zip Z.z fun h2 z2 sb => ?_
  have lt : ∀ a ∈ [z, ti, tu, i, j], a ≠ s.heap.objs.size := fun a ha => by
   have : ∃ o, s.heap.get? a = some o := by
    simp only [List.mem_cons, List.not_mem_nil, or_false] at ha
    rcases ha with rfl | rfl | rfl | rfl | rfl
    ·exact ⟨_, st.z⟩
    ·exact ⟨_, st.ti⟩
    ·obtain ⟨x', y', e⟩ := st.tu; exact ⟨_, e⟩
    ·obtain ⟨o, e, _⟩ := st.i.obj; exact ⟨o, e⟩
    ·obtain ⟨o, e, _⟩ := st.j.obj; exact ⟨o, e⟩
   obtain ⟨o, e⟩ := this
   exact Nat.ne_of_lt (Heap.lt_size e)
  have Z2 : ZipB b c h2 z ti tu i j l m .none (n + 1) (n + 1) := ⟨z2, sb.extBut _ _ D.TIz Z.ti, by obtain ⟨x', y', e⟩ := Z.tu; exact ⟨x', y', sb.extBut _ _ D.TOz e⟩, Z.i.keep fun o e => sb.extBut _ o D.i1z e, Z.j.keep fun o e => sb.extBut _ o D.i2z e⟩
  have T2 : IsPair h2 s.heap.objs.size u v := sb.extBut _ _ (Ne.symm (lt z (by simp))) T
  have I2 : Inv X pins σ H { s with heap := h2 } := ANW (b := b) (c := c) (l := l) (m := m) I hf fun a o a1 a2 a3 a4 e => sb.extBut _ _ a1 (old a o a1 a2 a3 a4 e)
  have fresh : H s.heap.objs.size = none := I.hok.fresh (Nat.le_refl _)
  have I3 := AI6 (p := s.heap.objs.size) I2 T2 fresh I.sz (Nat.ne_of_lt I.lt) (fun a cc e => by
   obtain ⟨w', o, ho, _⟩ := I.cell a cc e
   exact Nat.ne_of_lt (Heap.lt_size ho)) (fun q hq => Nat.ne_of_lt (Heap.lt_size (I.pin q hq).1)) ru rv
  refine ⟨.ref s.heap.objs.size, _, I3, rfl, ⟨_, x, y, rfl, fresh, rfl, fun xs' h => ?_, fun ys' h => ?_⟩, Z2, fun a ha => ?_⟩
  ·rw [AGU I h hq1]; exact hx
  ·rw [AGU I h hq2]; exact hy
  ·rw [C0 (lt a ha)]; exact (hf a ha).1
 done := by
  intro X hP hw hK hc n pins s σ H E I hf st hg
  subst hP hw hK
  obtain ⟨xs, ys, hq1, hq2, hx⟩ := hg
  obtain ⟨is1, r1, p1⟩ := AAU I hq1
  obtain ⟨is2, r2, p2⟩ := AAU I hq2
  have e1 := r1.length
  have e2 := r2.length
  refine AL5 (I.ok.hd hc) D st p1 p2 ?_ fun h1 old => ⟨rfl, ANW (b := b) (c := c) (l := l) (m := m) I hf old⟩
  rcases hx with hx | hx
  ·left; simp; omega
  ·right; simp; omega
 self := fun _ _ _ _ _ st h => wpAny_pyIter_zip st.z h
theorem APR {N l m : Nat} (h1 : l < N) (h2 : m < N) : ZipApart (N + 4) (N + 2) (N + 3) N (N + 1) l m := by
 constructor <;> (first | (apply Nat.ne_of_lt; omega) | (apply Nat.ne_of_gt; omega))
def Ac2 (b c : Bool) (K : PySem.W.Frag) (ta : TA) : TI := fun σ H R => ta σ H fun vs H1 => ∃ l m xs ys, vs = [.ref l, .ref m] ∧ SqB b K H1 l xs ∧ SqB c K H1 m ys ∧ R (Itz K b c l m) H1
theorem AX5 {elts : List Expr} {k0 : Nat} {tp : Pos} {a b' : Expr} {ta : TA} {p pos : Pos} (b c : Bool) (hg : Gl X "zip") (hm : X.mg "zip" = none) (ha : PA X [a, b'] ta) (hs : starEach [a, b'] X.env = (false, eval a X.env) :: starEach [b'] X.env) (hpl : (backTo pos (starEach [b'] X.env)).any (·.1) = false) :
  PI X (.Tuple elts k0 tp) (.Call (.Name "zip" p) [a, b'] [] pos) (Ac2 b c X.K ta) := by
 intro pins s σ H R I h
 refine Call_ (AGR I hg hm boot_zip (PyProof.Rows.callWith_type1 (thn (ha pos pins s σ H _ I h) fun us s1 ⟨vs, H1, I1, r1, q1⟩ => ?_) hs hpl))
 obtain ⟨l, m, xs, ys, e, hq1, hq2, q⟩ := q1
 subst e
 obtain ⟨u1, u2, rfl, ru1, ru2⟩ := r1.two
 cases ru1
 cases ru2
 obtain ⟨is1, r1', p1⟩ := AAU I1 hq1
 obtain ⟨is2, r2', p2⟩ := AAU I1 hq2
 refine callType_new F.called_zip (by decide) (F.typeCall_zip_2 _ _) (F.newCall_zip_2 _ _) (fun obj => F.args_object_init_3 obj _ _) F.entry_zip_new (AYW b c l m is1.toArray is2.toArray) ⟨p1, p2, ?_⟩
 generalize hN : s1.heap.objs.size = N
 have z1 : (zb1 b s1.heap l).objs.size = N + 1 := by rw [Heap.size_push, hN]
 have z2 : (zb2 b c s1.heap l m).objs.size = N + 2 := by rw [Heap.size_push, z1]
 have z3 : (zb3 b c s1.heap l m).objs.size = N + 3 := by rw [Heap.size_push, z2]
 have z4 : (zb4 b c s1.heap l m).objs.size = N + 4 := by rw [Heap.size_push, z3]
 have g5 : (zb5 b c s1.heap l m).get? (zb4 b c s1.heap l m).objs.size = some _ := Heap.get?_push_size _ rfl
 have g4 : (zb5 b c s1.heap l m).get? (zb3 b c s1.heap l m).objs.size = some _ := Heap.get?_push_of_some _ (Heap.get?_push_size _ rfl)
 have g3 : (zb5 b c s1.heap l m).get? (zb2 b c s1.heap l m).objs.size = some _ := Heap.get?_push_of_some _ (Heap.get?_push_of_some _ (Heap.get?_push_size _ rfl))
 have g2 : (zb5 b c s1.heap l m).get? (zb1 b s1.heap l).objs.size = some _ := Heap.get?_push_of_some _ (Heap.get?_push_of_some _ (Heap.get?_push_of_some _ (Heap.get?_push_size _ rfl)))
 have g1 : (zb5 b c s1.heap l m).get? s1.heap.objs.size = some _ := Heap.get?_push_of_some _ (Heap.get?_push_of_some _ (Heap.get?_push_of_some _ (Heap.get?_push_of_some _ (Heap.get?_push_size _ rfl))))
 have old : ∀ a o, s1.heap.get? a = some o → (zb5 b c s1.heap l m).get? a = some o := fun a o e => Heap.get?_push_of_some _ (Heap.get?_push_of_some _ (Heap.get?_push_of_some _ (Heap.get?_push_of_some _ (Heap.get?_push_of_some _ e))))
 have lo : ∀ {b : Bool} {l : Addr} {vs : Array Value}, SeqB b s1.heap l vs → l < N := fun {b l vs} x => by
  rw [← hN]
  cases b with
  | false => obtain ⟨_, e, _⟩ := x; exact Heap.lt_size e
  | true => obtain ⟨_, e, _⟩ := x; exact Heap.lt_size e
 have D := APR (lo p1) (lo p2)
 rw [z2, z3, z4] at g5
 rw [z1, hN, z2] at g3
 rw [z3] at g4
 rw [z1] at g2
 rw [hN] at g1
 have it0 : ∀ {b : Bool} {h : Heap} {i l : Addr}, h.get? i = some { cls := .type (AAI b), data := .fields #[.ref l, .int 0 0] } → IterB b h i l 0 := fun {b h i l} e => by
  cases b with
  | false => exact ⟨_, e, rfl, rfl⟩
  | true => exact ⟨_, e, rfl, rfl⟩
 have Z : ZipB b c (zb5 b c s1.heap l m) (N + 4) (N + 2) (N + 3) N (N + 1) l m .none 0 0 := ⟨g5, g3, ⟨_, _, g4⟩, it0 g1, it0 g2⟩
 refine ⟨⟨_, by rw [z4]; exact g5, rfl⟩, ?_⟩
 rw [z4]
 refine wpAny_pyIter_zip Z.z ⟨N + 4, [N + 4, N + 2, N + 3, N, N + 1], _, _, H1, rfl, I1.kept (t' := s1.toks) old, ASL b c D, Z, fun a ha => ?_, q⟩
 have hle : s1.heap.objs.size ≤ a := by
  rw [hN]
  simp only [List.mem_cons, List.not_mem_nil, or_false] at ha
  rcases ha with rfl | rfl | rfl | rfl | rfl
  ·exact Nat.le_add_right _ _
  ·exact Nat.le_add_right _ _
  ·exact Nat.le_add_right _ _
  ·exact Nat.le_refl _
  ·exact Nat.le_add_right _ _
 exact I1.fpOk hle (I1.hok.fresh hle)
def AQM : Bool → T → Option (List T)
 | false, .list xs => some xs
 | true, .tuple xs => some xs
 | _, _ => none
def AW3 (b c : Bool) : List T → Option (List T)
 | [x, y] => (AQM b x).bind fun xs => (AQM c y).bind fun ys => some (List.zipWith (fun a b => PyData.tuple [a, b]) xs ys)
 | _ => none
theorem AHL {b : Bool} {K : PySem.W.Frag} {H : Hp} {t : T} {v : V} {xs : List T} (r : Rep K H t v) (e : AQM b t = some xs) : ∃ l vs, v = .ref l ∧ SqB b K H l vs ∧ RepL K H xs vs := by
 cases b with
 | false =>
  cases t with
  | list ys =>
   cases e
   unfold Rep at r
   obtain ⟨a, vs, rfl, q, l⟩ := r
   exact ⟨a, vs, rfl, q, l⟩
  | _ => cases e
 | true =>
  cases t with
  | tuple ys =>
   cases e
   unfold Rep at r
   obtain ⟨a, vs, rfl, q, l⟩ := r
   exact ⟨a, vs, rfl, q, l⟩
  | _ => cases e
def ABA : List T → Option (List Int)
 | [] => some []
 | .int i :: r => (ABA r).map (i :: ·)
 | _ :: _ => none
def Aa0 : List T → Option T
 | [.list xs] => (ABA xs).map fun ns => .int ns.sum
 | _ => none
theorem AJN {K : PySem.W.Frag} {H : Hp} : ∀ {ts : List T} {vs : List V} {us : List Value} {ns : List Int}, RepL K H ts vs → Vals vs us → ABA ts = some ns → ∃ xs : Array (Int × Tok), us.toArray = intItems xs ∧ xs.toList.map (·.1) = ns
 | [], _, _, _, r, q, e => by
  unfold RepL at r; subst r; cases q; cases e
  exact ⟨#[], by simp [intItems], rfl⟩
 | t :: ts, _, us, ns, r, q, e => by
  unfold RepL at r
  obtain ⟨v, vr, rfl, r1, r2⟩ := r
  cases q with
  | cons q1 q2 =>
   rename_i u ur
   match t, e, r1 with
   | .int i, e, r1 =>
    unfold Rep at r1; subst r1
    obtain ⟨tk, rfl⟩ := q1
    have e' : (ABA ts).map (i :: ·) = some ns := e
    cases e1 : ABA ts with
    | none => rw [e1] at e'; cases e'
    | some ms =>
     rw [e1] at e'
     have e2 : i :: ms = ns := Option.some.inj e'
     subst e2
     obtain ⟨xs, h1, h2⟩ := AJN r2 q2 e1
     refine ⟨⟨(i, tk) :: xs.toList⟩, ?_, by simp [h2]⟩
     have h3 : ur = (intItems xs).toList := by rw [← h1]
     rw [h3]
     unfold intItems
     simp
def AaV (K : PySem.W.Frag) : List V → Hp → VK → Prop := fun vs H Q => ∃ x ts ns, vs = [x] ∧ Rep K H (.list ts) x ∧ ABA ts = some ns ∧ Q (.int ns.sum) H
theorem AOQ (hc : X.calm = true) : AFX X (.builtin "sum") (AaV X.K) := by
 intro pins s σ H xs us Q I r h
 obtain ⟨x, ts, ns, rfl, rt, e, q⟩ := h
 obtain ⟨u, rfl, ru⟩ := r.one
 unfold Rep at rt
 obtain ⟨a, vs, rfl, hq, l⟩ := rt
 cases ru
 obtain ⟨its, rv, p, _⟩ := I.list hq
 obtain ⟨xs, h1, h2⟩ := AJN l rv e
 refine sum_intListG (I.ok.hd hc) (h1 ▸ p.isList) fun h' tk t' k => ⟨.int ns.sum, H, I.kept k, ⟨t', ?_⟩, q⟩
 rw [preSum_eq, List.take_of_length_le (by simp), h2]
theorem ASI {K : PySem.W.Frag} : ASP K (AaV K) Aa0 := fun xs ts a H Q r e q => by
 match ts, e, r with
 | [.list ys], e, r =>
  unfold RepL at r
  obtain ⟨v, vr, rfl, r1, r⟩ := r
  unfold RepL at r; subst r
  have e' : (ABA ys).map (fun ns => PyData.int ns.sum) = some a := e
  cases e1 : ABA ys with
  | none => rw [e1] at e'; cases e'
  | some ns =>
   rw [e1] at e'
   have e2 : PyData.int ns.sum = a := Option.some.inj e'
   subst e2
   exact ⟨v, ys, ns, rfl, r1, e1, q _ H (Same.refl H) D3⟩
theorem AYE {e : Expr} {t : FA} {p pos : Pos} (hc : X.calm = true) (hm : X.mg "sum" = none) (hg : Gl X "sum") (ha : JA X Ek [e] t) (he : starEach [e] X.env = (false, eval e X.env) :: starEach [] X.env) : JE X Ek (.Call (.Name "sum" p) [e] [] pos) (eN Aa0 t) :=
 ALH (AOQ hc) ASI (by decide +kernel) (by decide +kernel) (by decide +kernel) hm hg ha he rfl
def ARN (i j : Nat) (e : FE) : FS := fun ρ => M4 (e ρ) fun t => .nx ((ρ.set i (some t)).set j (some t))
theorem AVU {i j : Nat} {x y : Str} {e : Expr} {t : FE} {pos px py : Pos} (hN : X.N.Nodup) (hi : X.N[i]? = some x) (hj : X.N[j]? = some y) (hx : Loc X.env.scope x) (hy : Loc X.env.scope y) (he : JE X Ek e t)
  (hs : swapsWithSole [.Name x px, .Name y py] e pos.line X.env = pure false) (hw : swappedStores [.Name x px, .Name y py] e X.env = pure none)
  (h1 : (assignEach [.Name x px, .Name y py] X.env).map (·.2) = [assign (.Name x px) X.env, assign (.Name y py) X.env])
  (hf : X.fn x = true ∨ X.env.scope.names.lookup x = some .local) (hf2 : X.fn y = true ∨ X.env.scope.names.lookup y = some .local) :
  JS X Ek (.Assign [.Name x px, .Name y py] e pos) (ARN i j t) := by
 intro pins s σ H D I h
 obtain ⟨ρ, R, h⟩ := h
 refine wpAny_Assign_stores (thn (he pins s σ H (fun v H1 => ∃ a, Same H H1 ∧ Rep X.K H1 a v ∧ lSR X.K Ek D H (.nx ((ρ.set i (some a)).set j (some a)))) I ⟨ρ, R, D0 (Same.refl H) (fun a ha v H1 s1 ra => ⟨a, s1, ra, ha⟩) (Z8 h)⟩) fun u s1 ⟨v, H1, I1, r1, a, sm, ra, q⟩ => ?_) hs hw
 rw [h1]
 have p1 := AKZ (X := X) (pos := px) hN hi hx hf pins s1 σ H1 v u (fun σ' H' => σ' = σ.set i (some v) ∧ H' = H1) I1 r1 ⟨rfl, rfl⟩
 show wpAny _ _ (holding [u] (assign (.Name x px) X.env u) >>= fun _ => assign (.Name y py) X.env u) _ _ _
 refine wpAny_bind (wpAny_holding (thn p1 fun _ s2 ⟨σ2, H2, I2, e1, e2⟩ => ?_))
 subst e1
 subst e2
 refine thn (AKZ (X := X) (pos := py) hN hj hy hf2 pins s2 _ H2 v u (fun σ' H' => σ' = (σ.set i (some v)).set j (some v) ∧ H' = H2) I2 r1 ⟨rfl, rfl⟩) fun _ s3 ⟨σ3, H3, I3, e3, e4⟩ => ?_
 subst e3
 subst e4
 exact ⟨_, _, I3, q _ _ sm (((R.mono sm).set i ra).set j ra)⟩
end
def AID (e : Expr) (d : Nat) (target : Expr) (ifs : List Expr) (ip : Pos) (it acc : Value) (env : Env) (B : Sem Unit) : Sem PySem.Fin := do
 standAt ip
 match ← pyNext it with
 | none => pure (.done .next)
 | some v =>
  letOwnedTupleGo target it v
  assign target env v
  let mut ok := true
  for c in ifs do
   if ok then ok ← isTrue c env (eval c env)
  if ok then B
  again (.compLoop e d it acc env)
theorem AG4 {prog : Program} {w : World} {A : Around} {R : Result → Shared → Prop} {s : Shared} {elt target : Expr} {gens : List Comprehension} {scope : Scope} {cpos : Pos} {d : Nat} {ifs : List Expr} {ip : Pos} {it acc : Value} {env : Env} {B : Sem Unit} (hB : compTurn (.ListComp elt gens scope cpos) d it acc env = AID (.ListComp elt gens scope cpos) d target ifs ip it acc env B) (I : Nat → Shared → Prop)
  (turn : ∀ n s, I n s → ∃ E0 : Value → Shared → Prop, (∀ e s', E0 e s' → False) ∧ wpAny (model prog w) A (pyNext it) (fun r s₁ => match r with
   | none => R (.ok .next) s₁
   | some v => wpAny (model prog w) A (letOwnedTupleGo target it v) (fun _ s₁' => wpAny (model prog w) A (assign target env v) (fun _ s₂ =>
     wpAny (model prog w) A (forIn ifs true fun c r => if r = true then do let ok ← isTrue c env (eval c env); pure (ForInStep.yield ok) else pure (ForInStep.yield r)) (fun ok s₃ =>
      if ok = true then wpAny (model prog w) A B (fun _ s₅ => ∃ m, m < n ∧ I m s₅) E0 s₃
      else ∃ m, m < n ∧ I m s₃) E0 s₂) E0 s₁') E0 s₁) E0 s)
  (n : Nat) (h : I n s) : codeAny (model prog w) A (.compLoop (.ListComp elt gens scope cpos) d it acc env) R s := by
 refine codeAny_loop rfl I (fun n s hI => ?_) n h
 obtain ⟨E0, no, tn⟩ := turn n s hI
 show wpAny _ A ((compTurn (.ListComp elt gens scope cpos) d it acc env).onRaise (fun x => do noteFrame x env; theTreesLotGoes x)) _ _ s
 have fl : ∀ {E1 : Value → Shared → Prop} (e : Value) (s' : Shared), E0 e s' → E1 e s' := fun e s' z => (no e s' z).elim
 refine wpAny_noted ?_
 rw [hB]
 unfold AID
 refine wpAny_bind (wpAny_standAt (wpAny_bind (wpAny_mono tn (fun r s₁ h₁ => ?_) fl)))
 cases r with
 | none => exact wpAny_pure h₁
 | some v =>
  refine wpAny_bind (wpAny_mono h₁ (fun _ s₁' h₁' => wpAny_bind (wpAny_mono h₁' (fun _ s₂ h₂ => wpAny_bind (wpAny_mono h₂ (fun ok s₃ h₃ => ?_) fl)) fl)) fl)
  cases ok with
  | false => exact wpAny_pure ⟨rfl, h₃⟩
  | true => exact wpAny_bind (wpAny_mono h₃ (fun _ s₅ h₅ => wpAny_pure ⟨rfl, h₅⟩) fl)
section
variable {X : Cx} {Ek : EK}
theorem AMG {elt tg : Expr} {gens : List Comprehension} {scope : Scope} {cpos : Pos} {ifs : List Expr} {ip : Pos} {itA D : Addr} {k : Nat} {test : FT} {te : FE} {pins : List (Addr × Obj)} {ρ1 : Ev} {ts zs : List T} {R : Result → Shared → Prop} {J : It} {fp : List Addr} {tn : Nat → Heap → Prop} {H1 : Hp} {s1 : Shared} {σ1 : L2.St} {xs : List T} {ys : List V} {its : List Value}
  (hcalm : X.calm = true) (hxe : ∀ e s', X.xe e s' → False)
  (hB : compTurn (.ListComp elt gens scope cpos) 1 (.ref itA) (.ref D) X.env = AID (.ListComp elt gens scope cpos) 1 tg ifs ip (.ref itA) (.ref D) X.env (do let _ ← call (.builtin "list.append") [.ref D, ← eval elt X.env]))
  (hg : JG X tg (Tr.gName k)) (ht : JTs X Ek0 ifs test) (he : JE X Ek0 elt te) (TT : Turn X.prog X.w X.K tg J fp itA tn) (iO : AE0 X.K J ts H1) (hk : ρ1[k]? = some none)
  (I1 : Inv X pins σ1 H1 s1) (R1 : RepEnv X.K H1 ρ1 σ1) (st1 : tn 0 s1.heap) (f1 : ∀ b ∈ fp, AK0 X pins H1 b) (fD : AK0 X pins H1 D) (nD : ∀ b ∈ fp, D ≠ b)
  (pl : s1.heap.PlainList D its.toArray) (hv : Vals ys its) (rl : RepL X.K H1 xs ys) (hz : O6 (Tr.gName k) test te ρ1 ts = .ok zs) (hlen : xs.length + ts.length ≤ 1000000)
  (hR : ∀ s' σ' H' its' ys', Inv X pins σ' H' s' → H' D = none → s'.heap.PlainList D its'.toArray → Vals ys' its' → RepL X.K H' (xs ++ zs) ys' → Same H1 H' → RepEnv X.K H' ρ1 σ' → R (.ok .next) s') :
  codeAny (model X.prog X.w) X.A (.compLoop (.ListComp elt gens scope cpos) 1 (.ref itA) (.ref D) X.env) R s1 := by
 have stat : ∀ {H' : Hp}, (∀ b ∈ D :: fp, H' b = none) → ∀ b ∈ D :: fp, AK0 X pins H' b := fun hn b hb => by
  rcases List.mem_cons.mp hb with q | q
  ·rw [q]; exact ⟨hn D List.mem_cons_self, fD.2⟩
  ·exact ⟨hn b hb, (f1 b q).2⟩
 refine AG4 hB (fun n s' => ∃ (i : Nat) (Hs : Hp) (σs : L2.St) (as : List T) (bs : List V) (cs : List Value) (ds : List T), i ≤ ts.length ∧ n = ts.length + 1 - i ∧ Inv X pins σs Hs s' ∧ tn i s'.heap ∧ (∀ b ∈ D :: fp, Hs b = none) ∧
  s'.heap.PlainList D cs.toArray ∧ Vals bs cs ∧ RepL X.K Hs as bs ∧ as.length ≤ xs.length + i ∧ Same H1 Hs ∧ RepEnv X.K Hs ρ1 σs ∧ O6 (Tr.gName k) test te ρ1 (ts.drop i) = .ok ds ∧ as ++ ds = xs ++ zs) ?_ (ts.length + 1)
  ⟨0, H1, σ1, xs, ys, its, zs, Nat.zero_le _, rfl, I1, st1, fun b hb => ?_, pl, hv, rl, Nat.le_refl _, Same.refl H1, R1, hz, rfl⟩
 ·rintro n s' ⟨i, Hs, σs, as, bs, cs, ds, hi', rfl, Is, st, fr, hpl, hvs, rls, hxl, sHs, Rs, hw, hsum⟩
  refine ⟨X.xe, hxe, ?_⟩
  obtain ⟨nA, eA⟩ := id hpl
  have Is' := Is.pinned (fp := [D]) (fun b hb => stat fr b (by simp at hb; subst hb; exact List.mem_cons_self)) (fun b hb => by
   simp at hb; subst hb
   exact ⟨_, eA, fun v z => by cases z⟩)
  have fpp : ∀ b ∈ fp, AK0 X (pins ++ U3 [D] s'.heap) Hs b := fun b hb => by
   obtain ⟨p1, p2, p3, p4, p5, p6⟩ := stat fr b (List.mem_cons_of_mem _ hb)
   refine ⟨p1, p2, p3, p4, p5, fun p hp z => ?_⟩
   rw [← List.append_assoc] at hp
   rcases List.mem_append.mp hp with hp | hp
   ·exact p6 p hp z
   ·obtain ⟨q, _⟩ := d6 hp
    have q' : p.1 = D := by simpa using q
    exact nD b hb (q'.symm.trans z)
  by_cases hlt : i < ts.length
  ·have ht' : ts[i]? = some ts[i] := List.getElem?_eq_getElem hlt
   obtain ⟨go, yl⟩ := (iO i Hs sHs).1 _ ht'
   refine thn (TT.item X rfl rfl rfl hcalm i _ s' σs Hs X.xe Is' fpp st go) fun r s4 ⟨u, hr, h4⟩ => ?_
   subst hr
   refine thn h4 fun _ s5 ⟨x, H5, I5, r5, y5, st5, fr5⟩ => ?_
   obtain ⟨sy5, rx⟩ := yl x H5 y5
   have pinA := I5.pin (D, _) (List.mem_append_right _ (List.mem_append_right _ (C9 (List.mem_singleton.mpr rfl) eA)))
   have fr5' : ∀ b ∈ D :: fp, H5 b = none := fun b hb => by
    rcases List.mem_cons.mp hb with q | q
    ·rw [q]; exact pinA.2.1
    ·exact fr5 b q
   have I5' := I5.unpinned.pinned (stat fr5') (fun b hb => by
    rcases List.mem_cons.mp hb with q | q
    ·subst q; exact ⟨_, pinA.1, fun v z => by cases z⟩
    ·exact TT.obj _ _ st5 b q)
   rw [List.drop_eq_getElem_cons hlt, O6] at hw
   have eg : Tr.gName k ts[i] ρ1 = some (ρ1.set k (some ts[i])) := rfl
   simp only [eg] at hw
   refine thn (hg _ s5 σs H5 x u (fun σ' H' => H' = H5 ∧ RepEnv X.K H5 (ρ1.set k (some ts[i])) σ') I5' r5 ⟨ts[i], ρ1, _, rx, Rs.mono sy5, eg, fun σ' R' => ⟨rfl, R'⟩⟩) fun _ s6 ⟨σ6, H6, I6, e6, R6⟩ => ?_
   subst e6
   cases et : test (ρ1.set k (some ts[i])) with
   | bad => simp only [et] at hw; cases hw
   | ex c fs => simp only [et] at hw; cases hw
   | ok kb =>
    refine thn (ht _ s6 σ6 H6 (fun b H' => b = kb ∧ Same H6 H') I6 ⟨_, R6, by rw [et]; exact fun H' sm => ⟨rfl, sm⟩⟩) fun b s7 ⟨H7, I7, eb, s67⟩ => ?_
    subst eb
    have back : ∀ {H8 : Hp}, Same H6 H8 → RepEnv X.K H8 ρ1 σ6 := fun {H8} sm => by
     refine ⟨by have := R6.len; rw [List.length_set] at this; exact this, fun a t q => ?_⟩
     have hak : k ≠ a := fun z => by rw [← z, hk] at q; cases q
     obtain ⟨v, e1, e2⟩ := R6.get a t (by rw [List.getElem?_set_ne hak]; exact q)
     exact ⟨v, e1, Rep.mono sm t v e2⟩
    have keepA : ∀ {s8 : Shared} {H8 : Hp}, Inv X (pins ++ U3 (D :: fp) s5.heap) σ6 H8 s8 → tn (i + 1) s8.heap ∧ (∀ b ∈ D :: fp, H8 b = none) ∧ s8.heap.PlainList D cs.toArray := fun {s8 H8} I8 => by
     refine ⟨TT.keep _ _ _ st5 fun b hb o e => (I8.pin (b, o) (List.mem_append_right _ (List.mem_append_right _ (C9 (List.mem_cons_of_mem _ hb) e)))).1, fun b hb => ?_, nA, (I8.pin (D, _) (List.mem_append_right _ (List.mem_append_right _ (C9 List.mem_cons_self pinA.1)))).1⟩
     rcases List.mem_cons.mp hb with q | q
     ·subst q; exact (I8.pin (b, _) (List.mem_append_right _ (List.mem_append_right _ (C9 List.mem_cons_self pinA.1)))).2.1
     ·obtain ⟨o, e, d⟩ := TT.obj _ _ st5 b q
      exact (I8.pin (b, o) (List.mem_append_right _ (List.mem_append_right _ (C9 hb e)))).2.1
    cases b with
    | false =>
     rw [if_neg Bool.false_ne_true]
     simp only [et] at hw
     obtain ⟨k1, k2, k3⟩ := keepA I7
     exact ⟨ts.length + 1 - (i + 1), by omega, i + 1, H7, σ6, as, bs, cs, ds, hlt, rfl, I7.unpinned, k1, k2, k3, hvs, RepL.mono (sy5.trans s67) as bs rls, by omega, sHs.trans (sy5.trans s67), back s67, hw, hsum⟩
    | true =>
     rw [if_pos rfl]
     simp only [et] at hw
     cases ee : te (ρ1.set k (some ts[i])) with
     | bad => simp only [ee] at hw; cases hw
     | ex c fs => simp only [ee] at hw; cases hw
     | ok y =>
      simp only [ee] at hw
      refine wpAny_bind (thn (he _ s7 σ6 H7 (fun v H' => Same H7 H' ∧ Rep X.K H' y v) I7 ⟨_, R6.mono s67, by rw [ee]; exact fun v H' sm r => ⟨sm, r⟩⟩) fun u8 s8 ⟨v8, H8, I8, r8, s78, rp⟩ => ?_)
      obtain ⟨k1, k2, k3⟩ := keepA I8
      have lens : cs.length = as.length := by rw [← hvs.length, rls.length]
      refine wpAny_bind (wpAny_list_append_plain (hsz := by rw [List.size_toArray]; have : sizeLine = 16777216 := sizeLine_eq; omega) k3 fun h9 hl9 hs9 => wpAny_pure ?_)
      have I9 : Inv X pins σ6 H8 { s8 with heap := h9 } := by
       obtain ⟨p1, p2, p3, p4, p5, p6⟩ := stat k2 D List.mem_cons_self
       exact I8.unpinned.turned (t' := s8.toks) (fun b o hb e => hs9.extBut b o hb e) p1 p2 p4 p5 p6
      cases ec : O6 (Tr.gName k) test te ρ1 (ts.drop (i + 1)) with
      | bad => rw [ec] at hw; cases hw
      | ex c fs => rw [ec] at hw; cases hw
      | ok es =>
       rw [ec] at hw
       have hw' : y :: es = ds := by injection hw
       subst hw'
       refine ⟨ts.length + 1 - (i + 1), by omega, i + 1, H8, σ6, as ++ [y], bs ++ [v8], cs ++ [u8], es, hlt, rfl, I9, TT.keep _ _ _ k1 fun b hb o e => hs9.extBut b o (Ne.symm (nD b hb)) e, k2, by simpa using hl9, hvs.append (.cons r8 .nil), (RepL.mono (sy5.trans (s67.trans s78)) as bs rls).append (B7 rp G6), by rw [List.length_append, List.length_singleton]; omega, sHs.trans (sy5.trans (s67.trans s78)), back (s67.trans s78), ec, ?_⟩
       rw [List.append_assoc]; exact hsum
  ·have ei : i = ts.length := by omega
   refine thn (TT.done X rfl rfl rfl hcalm i _ s' σs Hs X.xe Is' fpp st ((iO i Hs sHs).2 (by omega))) fun r s4 ⟨hr, I4⟩ => ?_
   subst hr
   have pinA := I4.pin (D, _) (List.mem_append_right _ (List.mem_append_right _ (C9 (List.mem_singleton.mpr rfl) eA)))
   rw [List.drop_eq_nil_of_le (by omega), O6] at hw
   have hw' : ([] : List T) = ds := by injection hw
   subst hw'
   rw [List.append_nil] at hsum
   exact hR s4 σs Hs cs bs I4.unpinned (fr D List.mem_cons_self) ⟨nA, pinA.1⟩ hvs (hsum ▸ rls) sHs Rs
 ·rcases List.mem_cons.mp hb with q | q
  ·rw [q]; exact fD.1
  ·exact (f1 b q).1
end
def APA (elt tg iter : Expr) (ifs : List Expr) (tg2 iter2 : Expr) (ifs2 : List Expr) (scope : Scope) (pos : Pos) (acc : Value) (env : Env) : Sem Unit := do
 let x ← eval iter2 env
 standAt iter2.pos
 let x ← foldedSetIterable iter2 env x
 let _ ← runOwn (.compStart (.ListComp elt [⟨tg, iter, ifs, 0⟩, ⟨tg2, iter2, ifs2, 0⟩] scope pos) 1 (← holding [x] (pyIter x)) acc env) env
theorem AZD (elt tg iter : Expr) (ifs : List Expr) (tg2 iter2 : Expr) (ifs2 : List Expr) (scope : Scope) (pos : Pos) (it acc : Value) (env : Env) : compTurn (.ListComp elt [⟨tg, iter, ifs, 0⟩, ⟨tg2, iter2, ifs2, 0⟩] scope pos) 0 it acc env = AID (.ListComp elt [⟨tg, iter, ifs, 0⟩, ⟨tg2, iter2, ifs2, 0⟩] scope pos) 0 tg ifs iter.pos it acc env (APA elt tg iter ifs tg2 iter2 ifs2 scope pos acc env) := by
 unfold AID APA
 simp only [bind_assoc, pure_bind]
 rfl
def ABB (g : FG) (test : FT) (it2 : FI) (k : Nat) (test2 : FT) (te : FE) (ρ : Ev) : List T → R (List T)
 | [] => .ok []
 | t :: ts => match g t ρ with
  | none => .bad
  | some ρ1 => match test ρ1 with
   | .ok true => match it2 ρ1 with
    | .ok us => if us.length ≤ 1000 then match O6 (Tr.gName k) test2 te ρ1 us with
      | .ok zs => (ABB g test it2 k test2 te ρ ts).bind fun xs => .ok (zs ++ xs)
      | _ => .bad
     else .bad
    | _ => .bad
   | .ok false => ABB g test it2 k test2 te ρ ts
   | _ => .bad
def AIV (it : FI) (sel : List (Option Nat)) (g : FG) (test : FT) (it2 : FI) (k : Nat) (test2 : FT) (te : FE) : FE := fun ρ => (it ρ).bind fun ts =>
 if ts.length ≤ 1000 then (ABB g test it2 k test2 te (L6 sel ρ) ts).bind fun xs => .ok (.list xs) else .bad
theorem ABF {g : FG} {test : FT} {te : FE} {ρ : Ev} : ∀ (us zs : List T), O6 g test te ρ us = .ok zs → zs.length ≤ us.length
 | [], zs, e => by rw [O6] at e; cases e; exact Nat.le_refl _
 | u :: us, zs, e => by
  rw [O6] at e
  cases eg : g u ρ with
  | none => simp only [eg] at e; cases e
  | some ρ1 =>
   simp only [eg] at e
   cases et : test ρ1 with
   | bad => simp only [et] at e; cases e
   | ex c fs => simp only [et] at e; cases e
   | ok b =>
    simp only [et] at e
    cases b with
    | false => have := ABF us zs e; rw [List.length_cons]; omega
    | true =>
     cases ee : te ρ1 with
     | bad => simp only [ee] at e; cases e
     | ex c fs => simp only [ee] at e; cases e
     | ok x =>
      simp only [ee] at e
      cases ec : O6 g test te ρ us with
      | bad => rw [ec] at e; cases e
      | ex c fs => rw [ec] at e; cases e
      | ok ys =>
       rw [ec] at e
       have e' : x :: ys = zs := by injection e
       subst e'
       have := ABF us ys ec
       rw [List.length_cons, List.length_cons]; omega
theorem AQB {A : Around} (h : A.handled = none) : A.mark none = A := by
 cases A
 cases h
 rfl
section
variable {prog : Program} {w : World} {A : Around} {R : Result → Shared → Prop} {s : Shared}
theorem ANB {elt tg iter tg2 iter2 : Expr} {ifs ifs2 : List Expr} {scope : Scope} {pos : Pos} {it acc : Value} {env : Env} (h0 : codeAny (model prog w) A (.compLoop (.ListComp elt [⟨tg, iter, ifs, 0⟩, ⟨tg2, iter2, ifs2, 0⟩] scope pos) 1 it acc env) R s)
  (h : wpAny (model prog w) A (pyIter it) (fun it' s' => codeAny (model prog w) A (.compLoop (.ListComp elt [⟨tg, iter, ifs, 0⟩, ⟨tg2, iter2, ifs2, 0⟩] scope pos) 1 it' acc env) R s') (notedBy (model prog w) A env fun x s' => R (.error x) s') s) : codeAny (model prog w) A (.compStart (.ListComp elt [⟨tg, iter, ifs, 0⟩, ⟨tg2, iter2, ifs2, 0⟩] scope pos) 1 it acc env) R s := by
 refine codeAny_of_tree (wpAny_notedAt (pos := theWindowsPlace) ?_)
 unfold compStart
 show wpAny _ _ (ask >>= _) _ _ _
 refine wpAny_bind (wpAny_askSetting (wpAny_ite ?_))
 split
 ·exact wpAny_bind (wpAny_pure (wpAny_pure ⟨rfl, h0⟩))
 ·exact wpAny_bind (wpAny_rule (wpAny_bind (wpAny_standAt (wpAny_bind (wpAny_mono h (fun it' s' h' => wpAny_pure ⟨rfl, h'⟩) fun _ _ x => x)))))
end
section
variable {X : Cx} {Ek : EK}
theorem ASJ {elt tg iter tg2 iter2 : Expr} {ifs ifs2 : List Expr} {it2 : FI} {k : Nat} {test2 : FT} {scope : Scope} {pos : Pos} {Nc : List Str} {it : FI} {sel : List (Option Nat)} {g : FG} {test : FT} {te : FE}
  (hcalm : X.calm = true) (hi : JI X Ek tg iter it)
  (hfree : ∀ x, (x, NameKind.free) ∈ scope.names → X.env.kindOf x = some .cell ∨ X.env.kindOf x = some .free)
  (hcell : ∀ y ∈ scope.names, y.2 ≠ .cell) (hkind : scope.kind = .function)
  (hnames : ∀ y ∈ scope.names, y.2 = .local → scope.names.lookup y.1 = some .local)
  (hlen : sel.length = Nc.length)
  (hsel : ∀ i j : Nat, sel[i]? = some (some j) → ∃ x, Nc[i]? = some x ∧ X.N[j]? = some x ∧ scope.names.lookup x = some .free)
  (hkeep : ∀ t ρ ρ1, g t ρ = some ρ1 → ρ1.length = ρ.length ∧ ∀ i j : Nat, sel[i]? = some (some j) → ρ1[i]? = ρ[i]?)
  (hg : ∀ cl C s H fp, JG (L5 X scope cl C Nc s H fp) tg g)
  (ht : ∀ cl C s H fp, JTs (L5 X scope cl C Nc s H fp) Ek0 ifs test)
  (hi2 : ∀ cl C s H fp, JI (L5 X scope cl C Nc s H fp) Ek0 tg2 iter2 it2)
  (hg2 : ∀ cl C s H fp, JG (L5 X scope cl C Nc s H fp) tg2 (Tr.gName k))
  (ht2 : ∀ cl C s H fp, JTs (L5 X scope cl C Nc s H fp) Ek0 ifs2 test2)
  (he : ∀ cl C s H fp, JE (L5 X scope cl C Nc s H fp) Ek0 elt te)
  (hs2 : ∀ cl C s H fp x, foldedSetIterable iter2 (L5 X scope cl C Nc s H fp).env x = pure x)
  (hselk : sel[k]? = some none) (hk1 : ∀ t ρ ρ1, g t ρ = some ρ1 → ρ1[k]? = ρ[k]?)
  (hs : ∀ x, foldedSetIterable iter X.env x = pure x) :
  JC X Ek elt [⟨tg, iter, ifs, 0⟩, ⟨tg2, iter2, ifs2, 0⟩] scope pos (AIV it sel g test it2 k test2 te) := by
 intro p0 use QQ pins s σ H Q I h hfin
 obtain ⟨ρ, R0, h⟩ := h
 have kindL : ∀ x, X.env.kindOf x = X.env.scope.names.lookup x := fun x => rfl
 obtain ⟨cl, hclos, hcl1, hcl2⟩ := AGF (scope := scope) (env := X.env) fun x hx => I.ok.has x (hfree x hx)
 refine wpAny_comprehension_free (use := use) rfl hs hclos hkind hnames ?_
 refine thn (hi pins s σ H _ I ⟨ρ, R0, D0 (Same.refl H) (fun ts hts J H' sH iO => (⟨sH, ts, iO, hts⟩ : Same H H' ∧ ∃ ts, AE0 X.K J ts H' ∧ _)) (C7 h)⟩) fun v s1 h1 => thn h1 fun itv s2 h2 => ?_
 obtain ⟨it', fp, tn, J, H2, rfl, I2, TT, st2, f2, sH, ts, iO, h⟩ := h2
 by_cases hts : ts.length ≤ 1000
 ·rw [if_pos hts] at h
  have R2 : RepEnv X.K H2 ρ σ := R0.mono sH
  refine wpAny_newObj_type (wpAny_newFunctionEnv hcell (by intro y hy; simp at hy) (fun h₁ hns₁ hsb₁ => ?_) hkind)
  dsimp only at hns₁ hsb₁ ⊢
  generalize hP : s2.heap.push { cls := .type "list", dict := none, data := .seq ([] : List Value).toArray } = P2 at hns₁ hsb₁ ⊢
  have hC : P2.objs.size = s2.heap.objs.size + 1 := by rw [← hP, Heap.size_push]
  have hDC : s2.heap.objs.size < P2.objs.size := by rw [hC]; exact Nat.lt_succ_self _
  have old : ∀ b o, s2.heap.get? b = some o → h₁.get? b = some o := fun b o e => by
   have hb := Heap.lt_size e
   exact hsb₁.extBut b o (Nat.ne_of_lt (by rw [hC]; exact Nat.lt_succ_of_lt hb)) (Heap.get?_push_of_some _ (hP ▸ Heap.get?_push_of_some _ e))
  have hD : h₁.get? s2.heap.objs.size = some { cls := .type "list", dict := none, data := .seq ([] : List Value).toArray } :=
   hsb₁.extBut _ _ (Nat.ne_of_lt hDC) (Heap.get?_push_of_some _ (hP ▸ Heap.get?_push_size _ rfl))
  have freshD : H2 s2.heap.objs.size = none := I2.hok.fresh (Nat.le_refl _)
  have freshC : H2 P2.objs.size = none := I2.hok.fresh (by omega)
  have noC : s2.heap.get? P2.objs.size = none := Heap.get?_none_of_le (by omega)
  let Xc := L5 X scope cl P2.objs.size Nc s2 H2 fp
  have okc : Xc.Ok := by
   refine ⟨I2.ok.mod, by show (relabel scope X.env).kind = _; exact hkind, I2.ok.glob, I2.ok.blt, by show s2.heap.objs.size ≤ P2.objs.size; omega, fun x y c h1 h2 => I2.ok.inj x y c (hcl1 x c h1) (hcl1 y c h2), fun x hx => ?_, fun x c h _ => (Bool.false_ne_true h).elim, fun _ => I2.ok.hd hcalm, I2.ok.frames, .inl rfl, fun b hb => ⟨?_, fun x c e z => ?_⟩, I2.bs, Nat.le_trans I2.ok.bsz I2.sz, fun b o e hb => ?_, fun b hb z => ?_, I2.stack, I2.stkFree⟩
   ·have hx' : (relabel scope X.env).names.lookup x = some .cell ∨ (relabel scope X.env).names.lookup x = some .free := hx
    have hm : (x, NameKind.cell) ∈ scope.names ∨ (x, NameKind.free) ∈ scope.names := by
     rcases hx' with q | q
     ·exact i6 (.inl rfl) q
     ·exact i6 (.inr rfl) q
    rcases hm with q | q
    ·exact absurd rfl (hcell _ q)
    ·exact hcl2 x q
   ·obtain ⟨o, e, _⟩ := TT.obj 0 _ st2 b hb
    exact Nat.ne_of_lt (Nat.lt_trans (Heap.lt_size e) hDC)
   ·exact (f2 b hb).2.2.2.2.1 x c (hcl1 x c e) z
   ·rcases (f2 b hb).2.2.2.1 with z | z
    ·exact I2.ok.noex b o e z
    ·exact absurd (Nat.lt_of_lt_of_le (Heap.lt_size e) (Nat.le_trans I2.ok.bsz z)) (Nat.lt_irrefl _)
   ·rcases List.mem_cons.mp (I2.stkSub b z) with q | q
    ·exact (f2 b hb).2.1 q
    ·exact (f2 b hb).2.2.1 q
  have Ic : Inv Xc [] (L6 sel σ) H2 { s2 with heap := h₁, toks := s2.toks + ([] : List (Str × Value)).length } := by
   refine ⟨okc, rfl, I2.bare, Un.kept old, ⟨_, hns₁, fun i x v e1 e2 e3 => ?_⟩, fun x c e => ?_, ?_, fun x c e => ?_, fun p hp => absurd (show p ∈ ([] : List (Addr × Obj)) from hp) (by simp), ?_, ?_⟩
   ·have e2' : (sel[i]?).map (fun o => o.bind fun j => (σ[j]?).join) = some (some v) := by
     rw [← List.getElem?_map]; exact e2
    cases es : sel[i]? with
    | none => rw [es] at e2'; cases e2'
    | some o =>
     rw [es] at e2'
     cases o with
     | none =>
      have : (none : Option V) = some v := Option.some.inj e2'
      cases this
     | some j =>
      obtain ⟨x', n1, n2, n3⟩ := hsel i j es
      have hxx : x' = x := by
       have e1' : Nc[i]? = some x := e1
       rw [n1] at e1'; exact Option.some.inj e1'
      subst hxx
      have hσ : σ[j]? = some (some v) := by
       have q : (σ[j]?).join = some v := Option.some.inj e2'
       cases z : σ[j]? with
       | none => rw [z] at q; cases q
       | some w' => rw [z] at q; have q' : w' = some v := q; rw [q']
      have kf := hfree x' (PySem.mem_of_lookup n3)
      obtain ⟨m, hn, hl⟩ := I2.loc
      obtain ⟨u, ru, lk⟩ := hl j x' v n2 hσ (kf.elim (fun z => .inr (.inl z)) fun z => .inr (.inr z))
      refine ⟨u, ru, .inr ?_⟩
      rcases lk with ⟨kl, _⟩ | ⟨_, c, hc, hcc⟩
      ·rcases kf with z | z <;> (rw [z] at kl; cases kl)
      ·obtain ⟨d, hd⟩ := hcl2 x' (PySem.mem_of_lookup n3)
       have hd' := hcl1 x' d hd
       rw [hc] at hd'
       have hcd : c = d := Option.some.inj hd'
       subst hcd
       refine ⟨?_, c, hd, ?_⟩
       ·exact ABI n3
       ·obtain ⟨o, e, q⟩ := hcc
        exact ⟨o, old c o e, q⟩
   ·obtain ⟨v, o, e', q⟩ := I2.cell x c (hcl1 x c e)
    exact ⟨v, o, old c o e', q⟩
   ·exact freshC
   ·exact I2.freeC x c (hcl1 x c e)
   ·exact I2.hok.kept old
   ·show (L6 sel σ).length = Nc.length
    unfold L6
    rw [List.length_map]; exact hlen
  have Rc : RepEnv X.K H2 (L6 sel ρ) (L6 sel σ) := by
   refine ⟨by unfold L6; rw [List.length_map, List.length_map], fun i t q => ?_⟩
   unfold L6 at q ⊢
   rw [List.getElem?_map] at q ⊢
   cases es : sel[i]? with
   | none => rw [es] at q; cases q
   | some o =>
    rw [es] at q
    cases o with
    | none =>
     have : (none : Option T) = some t := Option.some.inj q
     cases this
    | some j =>
     have q' : (ρ[j]?).join = some t := Option.some.inj q
     have hρ : ρ[j]? = some (some t) := by
      cases z : ρ[j]? with
      | none => rw [z] at q'; cases q'
      | some w' => rw [z] at q'; have q'' : w' = some t := q'; rw [q'']
     obtain ⟨v, e1, e2⟩ := R2.get j t hρ
     refine ⟨v, ?_, e2⟩
     show some ((σ[j]?).join) = some (some v)
     rw [e1]; rfl
  have ltD : ∀ b ∈ fp, b < s2.heap.objs.size := fun b hb => by
   obtain ⟨o, e, _⟩ := TT.obj 0 _ st2 b hb
   exact Heap.lt_size e
  have cellLt : ∀ x c, cl.lookup x = some c → c < s2.heap.objs.size := fun x c e => by
   obtain ⟨v, o, e', q⟩ := I2.cell x c (hcl1 x c e)
   exact Heap.lt_size e'
  have notStk : s2.heap.objs.size ∉ frs X.stack := fun z => by
   rcases List.mem_cons.mp (I2.stkSub _ z) with q | q
   ·exact absurd q (Nat.ne_of_gt I2.lt)
   ·exact I2.nofs (Nat.le_refl _) q
  have stat : ∀ {H' : Hp}, (∀ b ∈ s2.heap.objs.size :: fp, H' b = none) → ∀ b ∈ s2.heap.objs.size :: fp, AK0 Xc [] H' b := fun hn b hb => by
   refine ⟨hn b hb, ?_, fun z => ?_, ?_, fun x c e z => ?_, fun p hp => absurd (show p ∈ ([] : List (Addr × Obj)) from hp) (by simp)⟩
   ·show b ≠ P2.objs.size
    rcases List.mem_cons.mp hb with q | q
    ·rw [q]; exact Nat.ne_of_lt hDC
    ·exact Nat.ne_of_lt (Nat.lt_trans (ltD b q) hDC)
   ·rcases List.mem_cons.mp hb with q | q
    ·subst q; exact notStk z
    ·rcases List.mem_cons.mp (I2.stkSub b z) with y | y
     ·exact (f2 b q).2.1 y
     ·exact (f2 b q).2.2.1 y
   ·rcases List.mem_cons.mp hb with q | q
    ·exact .inr (by rw [q]; exact Nat.le_refl _)
    ·exact .inl q
   ·rcases List.mem_cons.mp hb with q | q
    ·rw [q] at z; exact absurd z (Nat.ne_of_lt (cellLt x c e))
    ·exact (f2 b q).2.2.2.2.1 x c (hcl1 x c e) z
  have loop : codeAny (model X.prog X.w) X.A (.compLoop (.ListComp elt [⟨tg, iter, ifs, 0⟩, ⟨tg2, iter2, ifs2, 0⟩] scope pos) 0 (.ref it') (.ref s2.heap.objs.size) (compEnvC scope cl P2.objs.size X.env)) (compPost (model X.prog X.w) X.A X.xe use QQ (.ref s2.heap.objs.size) P2.objs.size)
    { s2 with heap := h₁, toks := s2.toks + ([] : List (Str × Value)).length } := by
   refine AG4 (AZD _ _ _ _ _ _ _ _ _ _ _ _) (CLoop Xc tn s2.heap.objs.size fp H2 (L6 sel ρ) ts.length fun i xs => xs.length ≤ 1000 * i ∧ wR Ek H (ABB g test it2 k test2 te (L6 sel ρ) (ts.drop i)) fun zs => ∀ v H', Same H H' → Rep X.K H' (.list (xs ++ zs)) v → Q v H') ?_ (ts.length + 1)
    ⟨0, H2, L6 sel σ, [], [], [], Nat.zero_le _, rfl, Ic, TT.keep _ _ _ st2 fun b _ o e => old b o e, fun b hb => ?_, ⟨_, hD⟩, .nil, G6, Same.refl H2, Rc, Nat.le_refl _, C7 h⟩
   ·rintro n s' ⟨i, Hs, σs, xs, ys, its, hi', rfl, Is, st, fr, hpl, hv, rl, sHs, Rs, hxl, hw⟩
    refine ⟨fun _ _ => False, fun _ _ z => z, ?_⟩
    by_cases hlt : i < ts.length
    ·have ht' : ts[i]? = some ts[i] := List.getElem?_eq_getElem hlt
     obtain ⟨go, yl⟩ := (iO i Hs sHs).1 _ ht'
     have Is' := Is.pinned (fp := [s2.heap.objs.size]) (fun b hb => stat fr b (by simp at hb; subst hb; exact List.mem_cons_self)) (fun b hb => by
      simp at hb; subst hb
      obtain ⟨n, e⟩ := hpl
      exact ⟨_, e, fun v z => by cases z⟩)
     obtain ⟨nA, eA⟩ := id hpl
     refine thn (TT.item Xc rfl rfl rfl rfl i _ s' σs Hs (fun _ _ => False) Is' (fun b hb => ?_) st go) fun r s4 ⟨u, hr, h4⟩ => ?_
     ·obtain ⟨p1, p2, p3, p4, p5, p6⟩ := stat fr b (List.mem_cons_of_mem _ hb)
      refine ⟨p1, p2, p3, p4, p5, fun p hp z => ?_⟩
      have hp' : p ∈ U3 [s2.heap.objs.size] s'.heap := hp
      obtain ⟨q, _⟩ := d6 hp'
      have q' : p.1 = s2.heap.objs.size := by simpa using q
      exact absurd (z.symm.trans q') (Nat.ne_of_lt (ltD b hb))
     subst hr
     refine thn h4 fun _ s5 ⟨x, H5, I5, r5, y5, st5, fr5⟩ => ?_
     obtain ⟨sy5, rx⟩ := yl x H5 y5
     replace rl := RepL.mono sy5 xs ys rl
     replace Rs := Rs.mono sy5
     replace sHs := sHs.trans sy5
     have pinA := I5.pin (s2.heap.objs.size, _) (List.mem_append_right _ (List.mem_append_right _ (C9 (List.mem_singleton.mpr rfl) eA)))
     have fr5' : ∀ b ∈ s2.heap.objs.size :: fp, H5 b = none := fun b hb => by
      rcases List.mem_cons.mp hb with q | q
      ·rw [q]; exact pinA.2.1
      ·exact fr5 b q
     have I5' := I5.unpinned.pinned (stat fr5') (fun b hb => by
      rcases List.mem_cons.mp hb with q | q
      ·subst q; exact ⟨_, pinA.1, fun v z => by cases z⟩
      ·exact TT.obj _ _ st5 b q)
     rw [List.drop_eq_getElem_cons hlt, ABB] at hw
     cases eg : g ts[i] (L6 sel ρ) with
     | none => simp only [eg] at hw; exact hw.elim
     | some ρ1 =>
      simp only [eg] at hw
      obtain ⟨kl, kk⟩ := hkeep _ _ _ eg
      refine thn (hg cl P2.objs.size s2 H2 fp _ s5 σs H5 x u (fun σ' H' => H' = H5 ∧ RepEnv X.K H5 ρ1 σ') I5' r5 ⟨ts[i], L6 sel ρ, ρ1, rx, Rs, eg, fun σ' R' => ⟨rfl, R'⟩⟩) fun _ s6 ⟨σ6, H6, I6, e6, R6⟩ => ?_
      subst e6
      cases et : test ρ1 with
      | bad => simp only [et] at hw; exact hw.elim
      | ex c fs => simp only [et] at hw; exact hw.elim
      | ok k =>
       refine thn (ht cl P2.objs.size s2 H2 fp _ s6 σ6 H6 (fun b H' => b = k ∧ Same H6 H') I6 ⟨ρ1, R6, by rw [et]; exact fun H' sm => ⟨rfl, sm⟩⟩) fun b s7 ⟨H7, I7, eb, s67⟩ => ?_
       subst eb
       have back : ∀ {H8 : Hp}, Same H6 H8 → RepEnv X.K H8 (L6 sel ρ) σ6 := fun {H8} sm => by
        refine ⟨by rw [← kl]; exact R6.len, fun a t q => ?_⟩
        have hsl : ∃ j, sel[a]? = some (some j) := by
         unfold L6 at q
         rw [List.getElem?_map] at q
         cases es : sel[a]? with
         | none => rw [es] at q; cases q
         | some o =>
          cases o with
          | none =>
           rw [es] at q
           have : (none : Option T) = some t := Option.some.inj q
           cases this
          | some j => exact ⟨j, rfl⟩
        obtain ⟨j, hj⟩ := hsl
        obtain ⟨v, e1, e2⟩ := R6.get a t (by rw [kk a j hj]; exact q)
        exact ⟨v, e1, Rep.mono sm t v e2⟩
       have keepA : ∀ {s8 : Shared} {H8 : Hp}, Inv Xc ([] ++ U3 (s2.heap.objs.size :: fp) s5.heap) σ6 H8 s8 → tn (i + 1) s8.heap ∧ (∀ b ∈ s2.heap.objs.size :: fp, H8 b = none) ∧ s8.heap.PlainList s2.heap.objs.size its.toArray := fun {s8 H8} I8 => by
        refine ⟨TT.keep _ _ _ st5 fun b hb o e => (I8.pin (b, o) (List.mem_append_right _ (List.mem_append_right _ (C9 (List.mem_cons_of_mem _ hb) e)))).1, fun b hb => ?_, nA, (I8.pin (s2.heap.objs.size, _) (List.mem_append_right _ (List.mem_append_right _ (C9 List.mem_cons_self pinA.1)))).1⟩
        rcases List.mem_cons.mp hb with q | q
        ·subst q; exact (I8.pin (s2.heap.objs.size, _) (List.mem_append_right _ (List.mem_append_right _ (C9 List.mem_cons_self pinA.1)))).2.1
        ·obtain ⟨o, e, d⟩ := TT.obj _ _ st5 b q
         exact (I8.pin (b, o) (List.mem_append_right _ (List.mem_append_right _ (C9 hb e)))).2.1
       cases b with
       | false =>
        rw [if_neg Bool.false_ne_true]
        simp only [et] at hw
        obtain ⟨k1, k2, k3⟩ := keepA I7
        exact ⟨ts.length + 1 - (i + 1), by omega, i + 1, H7, σ6, xs, ys, its, hlt, rfl, I7.unpinned, k1, k2, k3, hv, RepL.mono s67 xs ys rl, sHs.trans s67, back s67, by omega, hw⟩
       | true =>
        rw [if_pos rfl]
        simp only [et] at hw
        cases ei2 : it2 ρ1 with
        | bad => simp only [ei2] at hw; exact hw.elim
        | ex c fs => simp only [ei2] at hw; exact hw.elim
        | ok us =>
         simp only [ei2] at hw
         by_cases hus : us.length ≤ 1000
         ·rw [if_pos hus] at hw
          cases ec : O6 (Tr.gName k) test2 te ρ1 us with
          | bad => simp only [ec] at hw; exact hw.elim
          | ex c fs => simp only [ec] at hw; exact hw.elim
          | ok zs1 =>
           simp only [ec] at hw
           have hρk : ρ1[k]? = some none := by
            rw [hk1 _ _ _ eg]
            unfold L6
            rw [List.getElem?_map, hselk]
            rfl
           have hzl := ABF us zs1 ec
           unfold APA
           refine wpAny_bind (thn (hi2 cl P2.objs.size s2 H2 fp _ s7 σ6 H7 (fun J2 H' => Same H7 H' ∧ AE0 X.K J2 us H') I7 ⟨ρ1, R6.mono s67, by rw [ei2]; exact fun J2 H' sm iO2 => ⟨sm, iO2⟩⟩) fun v8 s8 h8 => ?_)
           refine wpAny_bind (wpAny_standAt (wpAny_bind (wpAny_of_eq (hs2 cl P2.objs.size s2 H2 fp v8) (wpAny_bind (wpAny_holding (thn h8 fun itv9 s9 h9 => ?_))))))
           obtain ⟨it9, fp9, tn9, J9, H9, rfl, I9, TT9, st9, f9, s79, iO9⟩ := h9
           obtain ⟨k1, k2, k3⟩ := keepA I9
           have memD : (s2.heap.objs.size, ({ cls := .type "list", data := .seq its.toArray nA } : Obj)) ∈ Xc.pn ++ ([] ++ U3 (s2.heap.objs.size :: fp) s5.heap) := List.mem_append_right _ (List.mem_append_right _ (C9 List.mem_cons_self pinA.1))
           have subp : ∀ p ∈ ([] ++ U3 fp s5.heap : List (Addr × Obj)), p ∈ ([] ++ U3 (s2.heap.objs.size :: fp) s5.heap : List (Addr × Obj)) := fun p hp => by
            rw [List.nil_append] at hp ⊢
            obtain ⟨q1, q2⟩ := d6 hp
            have := C9 (h := s5.heap) (List.mem_cons_of_mem s2.heap.objs.size q1) q2
            exact this
           have I9' : Inv Xc ([] ++ U3 fp s5.heap) σ6 H9 s9 := I9.pins_of fun p hp => I9.pin p (List.mem_append_right _ (subp p hp))
           have fD : AK0 Xc ([] ++ U3 fp s5.heap) H9 s2.heap.objs.size := by
            obtain ⟨p1, p2, p3, p4, p5, p6⟩ := stat k2 s2.heap.objs.size List.mem_cons_self
            refine ⟨p1, p2, p3, p4, p5, fun p hp z => ?_⟩
            rcases List.mem_append.mp hp with hp | hp
            ·exact p6 p (List.mem_append_left _ hp) z
            ·rw [List.nil_append] at hp
             obtain ⟨q1, _⟩ := d6 hp
             exact absurd z (Nat.ne_of_lt (ltD p.1 q1))
           have f9' : ∀ b ∈ fp9, AK0 Xc ([] ++ U3 fp s5.heap) H9 b := fun b hb => by
            obtain ⟨p1, p2, p3, p4, p5, p6⟩ := f9 b hb
            refine ⟨p1, p2, p3, p4, p5, fun p hp z => ?_⟩
            rcases List.mem_append.mp hp with hp | hp
            ·exact p6 p (List.mem_append_left _ hp) z
            ·exact p6 p (List.mem_append_right _ (subp p hp)) z
           have nD9 : ∀ b ∈ fp9, s2.heap.objs.size ≠ b := fun b hb => (f9 b hb).2.2.2.2.2 _ memD
           have lens : its.length = xs.length := by rw [← hv.length, rl.length]
           have hA : X.A.mark none = X.A := AQB (I2.ok.hd hcalm)
           have inner : ∀ RR : Result → Shared → Prop, (∀ s' σ' H' its' ys', Inv Xc ([] ++ U3 fp s5.heap) σ' H' s' → H' s2.heap.objs.size = none → s'.heap.PlainList s2.heap.objs.size its'.toArray → Vals ys' its' → RepL X.K H' (xs ++ zs1) ys' → Same H9 H' → RepEnv X.K H' ρ1 σ' → RR (.ok .next) s') →
             codeAny (model X.prog X.w) X.A (.compLoop (.ListComp elt [⟨tg, iter, ifs, 0⟩, ⟨tg2, iter2, ifs2, 0⟩] scope pos) 1 (.ref it9) (.ref s2.heap.objs.size) (compEnvC scope cl P2.objs.size X.env)) RR s9 := fun RR hRR =>
            AMG (X := Xc) (D := s2.heap.objs.size) (R := RR) rfl (fun _ _ z => z) rfl (hg2 cl P2.objs.size s2 H2 fp) (ht2 cl P2.objs.size s2 H2 fp) (he cl P2.objs.size s2 H2 fp) TT9 iO9 hρk I9' (R6.mono (s67.trans s79)) st9 f9' fD nD9 k3 hv (RepL.mono (s67.trans s79) xs ys rl) ec (by omega) hRR
           refine wpAny_bind (wpAny_runOwn ?_)
           rw [hA]
           have post : ∀ s' σ' H' its' ys', Inv Xc ([] ++ U3 fp s5.heap) σ' H' s' → H' s2.heap.objs.size = none → s'.heap.PlainList s2.heap.objs.size its'.toArray → Vals ys' its' → RepL X.K H' (xs ++ zs1) ys' → Same H9 H' → RepEnv X.K H' ρ1 σ' → (∃ m, m < ts.length + 1 - i ∧ CLoop Xc tn s2.heap.objs.size fp H2 (L6 sel ρ) ts.length (fun i xs => xs.length ≤ 1000 * i ∧ wR Ek H (ABB g test it2 k test2 te (L6 sel ρ) (ts.drop i)) fun zs => ∀ v H', Same H H' → Rep X.K H' (.list (xs ++ zs)) v → Q v H') m s') := fun s' σ' H' its' ys' I' hD' pl' hv' rl' sm' Re' => by
            refine ⟨ts.length + 1 - (i + 1), by omega, i + 1, H', σ', xs ++ zs1, ys', its', hlt, rfl, I'.unpinned, TT.keep _ _ _ st5 fun b hb o e => (I'.pin (b, o) (List.mem_append_right _ (List.mem_append_right _ (C9 hb e)))).1, fun b hb => ?_, pl', hv', rl', sHs.trans (s67.trans (s79.trans sm')), ?_, by rw [List.length_append]; omega, ?_⟩
            ·rcases List.mem_cons.mp hb with q | q
             ·rw [q]; exact hD'
             ·obtain ⟨o, e, d⟩ := TT.obj _ _ st5 b q
              exact (I'.pin (b, o) (List.mem_append_right _ (List.mem_append_right _ (C9 q e)))).2.1
            ·refine ⟨by rw [← kl]; exact Re'.len, fun a t q => ?_⟩
             have hsl : ∃ j, sel[a]? = some (some j) := by
              unfold L6 at q
              rw [List.getElem?_map] at q
              cases es : sel[a]? with
              | none => rw [es] at q; cases q
              | some o =>
               cases o with
               | none =>
                rw [es] at q
                have : (none : Option T) = some t := Option.some.inj q
                cases this
               | some j => exact ⟨j, rfl⟩
             obtain ⟨j, hj⟩ := hsl
             obtain ⟨v, e1, e2⟩ := Re'.get a t (by rw [kk a j hj]; exact q)
             exact ⟨v, e1, e2⟩
            ·refine D0 (Same.refl H) (fun zs hz v H' sm r => ?_) (C7 hw)
             have hz' : ∀ v H', Same H H' → Rep X.K H' (.list (xs ++ (zs1 ++ zs))) v → Q v H' := hz
             exact hz' v H' sm (by rw [List.append_assoc] at r; exact r)
           exact ANB (inner _ fun s' σ' H' its' ys' a1 a2 a3 a4 a5 a6 a7 => wpAny_pure (post s' σ' H' its' ys' a1 a2 a3 a4 a5 a6 a7)) (TT9.self _ 0 _ _ _ st9 (inner _ fun s' σ' H' its' ys' a1 a2 a3 a4 a5 a6 a7 => wpAny_pure (post s' σ' H' its' ys' a1 a2 a3 a4 a5 a6 a7)))
         ·rw [if_neg hus] at hw; exact hw.elim
    ·have ei : i = ts.length := by omega
     have Is' := Is.pinned (fp := [s2.heap.objs.size]) (fun b hb => stat fr b (by simp at hb; subst hb; exact List.mem_cons_self)) (fun b hb => by
      simp at hb; subst hb
      obtain ⟨n, e⟩ := hpl
      exact ⟨_, e, fun v z => by cases z⟩)
     obtain ⟨nA, eA⟩ := id hpl
     refine thn (TT.done Xc rfl rfl rfl rfl i _ s' σs Hs (fun _ _ => False) Is' (fun b hb => ?_) st ((iO i Hs sHs).2 (by omega))) fun r s4 ⟨hr, I4⟩ => ?_
     ·obtain ⟨p1, p2, p3, p4, p5, p6⟩ := stat fr b (List.mem_cons_of_mem _ hb)
      refine ⟨p1, p2, p3, p4, p5, fun p hp z => ?_⟩
      have hp' : p ∈ U3 [s2.heap.objs.size] s'.heap := hp
      obtain ⟨q, _⟩ := d6 hp'
      have q' : p.1 = s2.heap.objs.size := by simpa using q
      exact absurd (z.symm.trans q') (Nat.ne_of_lt (ltD b hb))
     subst hr
     have pinA := I4.pin (s2.heap.objs.size, _) (List.mem_append_right _ (List.mem_append_right _ (C9 (List.mem_singleton.mpr rfl) eA)))
     obtain ⟨m, hn, _⟩ := I4.loc
     refine hfin _ _ _ (Nat.ne_of_lt (Nat.lt_trans I2.lt hDC)) (fun x c e => by
      obtain ⟨v, o, e', q⟩ := I2.cell x c e
      exact Nat.ne_of_lt (Nat.lt_trans (Heap.lt_size e') hDC)) ⟨m, hn, fun h' sb => ?_⟩
     have k : ∀ b o, b ≠ P2.objs.size → s4.heap.get? b = some o → h'.get? b = some o := fun b o hb e => sb.extBut b o hb e
     have un0 : Un (frs X.stack) fp H2 Hs s2.heap h' := AG7 I4.base noC k
     have freeC' : Hs P2.objs.size = none := I4.free
     have hok0 : HOk X.prog X.w Hs h' := fun b u e => by
      refine (I4.hok b u e).stay (fun c v hc q => k c v ?_ q) (fun _ q => q) fun _ _ q => q
      rcases hc with z | z
      ·rw [z]; intro y; rw [y, freeC'] at e; cases e
      ·intro y; rw [y, freeC'] at z; cases z
     have freeD : Hs s2.heap.objs.size = none := fr _ List.mem_cons_self
     have eD : h'.get? s2.heap.objs.size = some { cls := .type "list", data := .seq its.toArray nA } := k _ _ (Nat.ne_of_lt hDC) pinA.1
     have neD : ∀ b o, s2.heap.get? b = some o → b ≠ s2.heap.objs.size := fun b o e => Nat.ne_of_lt (Heap.lt_size e)
     have un1 : Un (frs X.stack) fp H2 (upd Hs s2.heap.objs.size (.lst ys)) s2.heap h' := by
      refine ⟨un0.keep, un0.slot, fun b o e n hx => by rw [C0 (neD b o e)]; exact un0.free b o e n hx, un0.there, fun b xs e => ?_, fun b o u e => ?_, fun b ps e => ?_⟩
      ·rw [C0 (G9 e freshD)]; exact un0.tups b xs e
      ·rw [C0 (G9 e freshD)]; exact un0.frzs b o u e
      ·rw [C0 (G9 e freshD)]; exact un0.tbls b ps e
     have lens : its.length = xs.length := by rw [← hv.length, rl.length]
     have hok1 : HOk X.prog X.w (upd Hs s2.heap.objs.size (.lst ys)) h' := fun b u e => by
      by_cases hb : b = s2.heap.objs.size
      ·subst hb
       rw [D9] at e
       cases e
       exact ⟨by rw [rl.length]; have : sizeLine = 16777216 := sizeLine_eq; omega, its, nA, hv, eD⟩
      ·rw [C0 hb] at e
       exact (hok0 b u e).stay (fun c v hc q => q) (fun c q => by rw [C0 (G9 q freeD)]; exact q) fun c o q => by rw [C0 (G9 q freeD)]; exact q
     obtain ⟨hh, gg, dd, tt, os'⟩ := s4
     obtain rfl : os' = s2.os := I4.os
     have I' := I2.call (ch := fp) (h' := h') (g' := gg) (t' := tt) (d' := dd) un1 hok1 I4.bare (fun b hb => ⟨(f2 b hb).2.2.2.1, (f2 b hb).2.1, (f2 b hb).2.2.2.2.1, (f2 b hb).2.2.2.2.2⟩)
     rw [List.drop_eq_nil_of_le (by omega), ABB] at hw
     have hw2 : ∀ v H', Same H H' → Rep X.K H' (.list (xs ++ [])) v → Q v H' := hw
     rw [List.append_nil] at hw2
     have sFin : Same Hs (upd Hs s2.heap.objs.size (.lst ys)) := E6 freeD _
     refine ⟨.ref s2.heap.objs.size, _, I', rfl, hw2 _ _ (sH.trans (sHs.trans sFin)) ?_⟩
     unfold Rep
     exact ⟨_, ys, rfl, SqL.of D9, RepL.mono sFin xs ys rl⟩
   ·rcases List.mem_cons.mp hb with q | q
    ·rw [q]; exact freshD
    ·exact (f2 b q).1
  exact codeAny_compStart_list loop (TT.self _ 0 _ _ _ (TT.keep _ _ _ st2 fun b _ o e => old b o e) loop)
 ·rw [if_neg hts] at h; exact h.elim
end
def AIO (k : Nat) (g : FG) : Prop := ∀ t ρ ρ1, g t ρ = some ρ1 → ρ1[k]? = ρ[k]?
theorem AF3 {i k : Nat} (h : i ≠ k) : AIO k (Tr.gName i) := fun t ρ ρ1 e => by
 have e' : ρ.set i (some t) = ρ1 := Option.some.inj e
 subst e'
 rw [List.getElem?_set_ne h]
theorem AGL {k : Nat} : ∀ (gs : List FG), (∀ g ∈ gs, AIO k g) → ∀ ts ρ ρ1, AMS gs ts ρ = some ρ1 → ρ1[k]? = ρ[k]?
 | [], _, [], ρ, ρ1, e => by
  have e' : ρ = ρ1 := Option.some.inj e
  rw [e']
 | [], _, _ :: _, _, _, e => by cases e
 | _ :: _, _, [], _, _, e => by cases e
 | g :: gs, h, t :: ts, ρ, ρ1, e => by
  have e' : (g t ρ).bind (fun ρ2 => AMS gs ts ρ2) = some ρ1 := e
  cases e1 : g t ρ with
  | none => rw [e1] at e'; cases e'
  | some ρ2 =>
   rw [e1] at e'
   rw [AGL gs (fun x hx => h x (List.mem_cons_of_mem _ hx)) ts ρ2 ρ1 e', h g List.mem_cons_self t ρ ρ2 e1]
theorem AMI {k : Nat} {gs : List FG} (h : ∀ g ∈ gs, AIO k g) : AIO k (Tr.gTup gs) := fun t ρ ρ1 e => by
 cases t with
 | tuple ts => exact AGL gs h ts ρ ρ1 e
 | _ => cases e
section
variable {X : Cx} {Ek : EK}
theorem AJ9 {elt tg iter tg2 iter2 : Expr} {ifs ifs2 : List Expr} {it2 : FI} {k : Nat} {test2 : FT} {scope so : Scope} {pos : Pos} {N Nc : List Str} {it : FI} {sel : List (Option Nat)} {g : FG} {test : FT} {te : FE}
  (hcalm : X.calm = true) (hso : X.env.scope = so) (hXN : X.N = N) (hok : AGI scope so N Nc sel = true) (hkeep : AIY sel g) (hi : JI X Ek tg iter it)
  (hg : ∀ cl C s H fp, JG (L5 X scope cl C Nc s H fp) tg g)
  (ht : ∀ cl C s H fp, JTs (L5 X scope cl C Nc s H fp) Ek0 ifs test)
  (hi2 : ∀ cl C s H fp, JI (L5 X scope cl C Nc s H fp) Ek0 tg2 iter2 it2)
  (hg2 : ∀ cl C s H fp, JG (L5 X scope cl C Nc s H fp) tg2 (Tr.gName k))
  (ht2 : ∀ cl C s H fp, JTs (L5 X scope cl C Nc s H fp) Ek0 ifs2 test2)
  (he : ∀ cl C s H fp, JE (L5 X scope cl C Nc s H fp) Ek0 elt te)
  (hs : ∀ x, foldedSetIterable iter X.env x = pure x) (hs2 : ∀ cl C s H fp x, foldedSetIterable iter2 (L5 X scope cl C Nc s H fp).env x = pure x) (hselk : sel[k]? = some none) (hk1 : AIO k g) : JC X Ek elt [⟨tg, iter, ifs, 0⟩, ⟨tg2, iter2, ifs2, 0⟩] scope pos (AIV it sel g test it2 k test2 te) := by
 unfold AGI at hok
 obtain ⟨hok, h4⟩ := Bool.and_eq_true_iff.mp hok
 obtain ⟨hok, h3⟩ := Bool.and_eq_true_iff.mp hok
 obtain ⟨h1, h2⟩ := Bool.and_eq_true_iff.mp hok
 have h1' := List.all_eq_true.mp h1
 have h4' := List.all_eq_true.mp h4
 refine ASJ hcalm hi (fun x hx => ?_) (fun y hy => ?_) (by simpa using h2) (fun y hy hl => ?_) (by simpa using h3) (fun i j hij => ?_) hkeep hg ht hi2 hg2 ht2 he hs2 hselk hk1 hs
 ·have q := h1' _ hx
  have q2 := (Bool.and_eq_true_iff.mp (Bool.and_eq_true_iff.mp q).1).2
  show X.env.scope.names.lookup x = _ ∨ X.env.scope.names.lookup x = _
  rw [hso]
  simp only [bne_self_eq_false, Bool.false_or, Bool.or_eq_true, beq_iff_eq] at q2
  exact q2
 ·have q := (Bool.and_eq_true_iff.mp (Bool.and_eq_true_iff.mp (h1' _ hy)).1).1
  intro z
  rw [z] at q
  simp at q
 ·have q := (Bool.and_eq_true_iff.mp (h1' _ hy)).2
  rw [hl] at q
  simpa using q
 ·have hlt : i < sel.length := by
   by_cases z : i < sel.length
   ·exact z
   ·rw [List.getElem?_eq_none (by omega)] at hij; cases hij
  have q := h4' i (List.mem_range.mpr hlt)
  rw [hij] at q
  cases e : Nc[i]? with
  | none => rw [e] at q; cases q
  | some x =>
   rw [e] at q
   have q' : ((N[j]? == some x) && (scope.names.lookup x == some .free)) = true := q
   obtain ⟨a, b⟩ := Bool.and_eq_true_iff.mp q'
   exact ⟨x, rfl, by rw [hXN]; exact eq_of_beq a, eq_of_beq b⟩
theorem AEX {tg l : Expr} {t : FE} (hl : JE X Ek l t) : JIy X Ek tg l (iOf G7 t) := by
 refine PI.weak (ATG hl) fun σ H Q h => ?_
 obtain ⟨ρ, R, h⟩ := h
 refine ⟨ρ, R, D0 (Same.refl H) (fun x hx => ?_) (C7 h)⟩
 intro v H1 s1 rx
 obtain ⟨ts, e, q⟩ := ACB hx
 cases x with
 | tuple xs =>
  have e' : xs = ts := Option.some.inj e
  subst e'
  unfold Rep at rx
  obtain ⟨a, vs, rfl, hq, l⟩ := rx
  refine ⟨a, rfl, ⟨vs, hq⟩, q _ H1 s1 (fun i H2 s2 => ⟨fun t ht => ?_, fun hi => ⟨vs, S1 s2 hq, by rw [l.length]; exact hi⟩⟩) AYN⟩
  obtain ⟨v, e1, e2⟩ := l.get ht
  refine ⟨⟨vs, v, S1 s2 hq, e1⟩, fun x H3 y => ?_⟩
  obtain ⟨y1, y2⟩ := y
  have y3 := y2 vs (S1 s2 hq)
  rw [e1] at y3
  have y4 : v = x := Option.some.inj y3
  subst y4
  subst y1
  exact ⟨Same.refl _, Rep.mono s2 t v e2⟩
 | _ => cases e
end
theorem AS3 {h g : Heap} (C L : Addr) (hn : L ≠ C) (e : g.objs.size = h.objs.size) (k : ∀ b, b ≠ C → b ≠ L → g.get? b = h.get? b) : ∃ h', Heap.SameBut C h h' ∧ Heap.SameBut L h' g := by
 by_cases hC : C < h.objs.size
 ·have hC' : C < g.objs.size := Nat.lt_of_lt_of_eq hC e.symm
  refine ⟨h.update C fun _ => g.objs[C], Heap.SameBut.update h C _, ?_, fun b hb => ?_⟩
  ·rw [(Heap.SameBut.update h C fun _ => g.objs[C]).1]; exact e
  ·by_cases hbC : b = C
   ·subst hbC
    have e1 : (h.update b fun _ => g.objs[b]).objs[b]? = g.objs[b]? := by
     rw [Array.getElem?_eq_getElem hC']
     cases h
     simp only [Heap.update, Array.getElem?_modify, if_true]
     rw [Array.getElem?_eq_getElem hC]; rfl
    unfold Heap.get?
    rw [e1]
   ·rw [Heap.get?_update_other h _ (Ne.symm hbC)]
    exact k b hbC hb
 ·refine ⟨h, Heap.SameBut.refl _ _, e, fun b hb => ?_⟩
  by_cases hbC : b = C
  ·subst hbC
   rw [Heap.get?_none_of_le (Nat.le_of_not_lt hC), Heap.get?_none_of_le (Nat.le_trans (Nat.le_of_eq e) (Nat.le_of_not_lt hC))]
  ·exact k b hbC hb
section
variable {X : Cx} {Ek : EK}
theorem AVT {i : Nat} {x : Str} {elt : Expr} {gens : List Comprehension} {scope : Scope} {cp : Pos} {te : TE} {pos pos' : Pos} (hN : X.N.Nodup) (hi : X.N[i]? = some x) (hx : X.env.scope.names.lookup x = some .local) (he : JCt X elt gens scope cp te)
  (hs : swapsWith (.ListComp elt gens scope cp) (some (.Name x pos')) pos.line X.env = pure true) : PS X (.Assign [.Name x pos'] (.ListComp elt gens scope cp) pos) (fun D σ H => te σ H fun v H1 => D.nx (σ.set i (some v)) H1) := by
 intro pins s σ H D I h
 rw [exec_Assign_Name_used _ _ _ _ hs]
 refine wpAny_bind (wpAny_standAt (wpAny_bind ?_))
 show wpAny _ X.A (do let _ ← comprehension (.ListComp elt gens scope cp) scope X.env (firstIterPos gens cp) (newList []) (firstAsync gens) (firstIter gens X.env) (some (assign (.Name x pos') X.env))) _ _ s
 refine wpAny_bind (wpAny_mono (he (firstIterPos gens cp) (some (assign (.Name x pos') X.env)) (fun _ s' => SP X pins D .next s') pins s σ H (fun v H1 => D.nx (σ.set i (some v)) H1) I h ?_) (fun _ s' q => wpAny_pure (wpAny_pure q)) fun _ _ z => z)
 ·intro acc C s' nL nc ⟨m, hn, hk⟩
  obtain ⟨v, H1, I1, r1, q1⟩ := hk s'.heap (Heap.SameBut.refl _ _)
  obtain ⟨mL, hnL, hlL⟩ := id I1.loc
  have hcls : (X.env.scope.kind == .class || (X.env.scope.kind == .module && X.env.locals != X.env.globals)) = false := by rw [I1.ok.kind]; rfl
  have hiσ : i < σ.length := by rw [I1.len]; exact (List.getElem?_eq_some_iff.mp hi).1
  refine wpAny_assign_Name (wpAny_storeName_local hx hnL (fun h2 hn2 hs2 => ?_) hcls)
  refine ⟨m, hn.sameBut hs2 (Ne.symm nL), fun h3 hs3 => ?_⟩
  obtain ⟨hm, b1, b2⟩ := AS3 (h := s'.heap) (g := h3) C X.env.locals nL (hs3.1.trans hs2.1) fun b hb hb' => (hs3.2 b hb).trans (hs2.2 b hb')
  obtain ⟨v', H3, I3, r3, q3⟩ := hk hm b1
  have cne := I3.cne
  obtain ⟨oL, _, _, hoL, _⟩ := id I3.loc.choose_spec.1
  have I4 : Inv X pins (σ.set i (some v')) H3 { s' with heap := h3 } := by
   refine ⟨I3.ok, I3.os, I3.bare, ⟨fun b o e n hb hx => ?_, fun b o e n hb hx => ?_, I3.base.free, fun b o e hx => ?_, I3.base.tups, I3.base.frzs, I3.base.tbls⟩, ⟨_, hn2.sameBut hs3 nL, fun j y v' e1 e2 e3 => ?_⟩, fun y c e => ?_, I3.free, I3.freeC, fun p hp => ?_, ?_, by simpa using I3.len⟩
   ·exact (b2.2 b (Nat.ne_of_lt (Nat.lt_of_lt_of_le (Heap.lt_size e) I3.ok.above))).trans (I3.base.keep b o e n hb hx)
   ·obtain ⟨sl, e1⟩ := I3.base.slot b o e n hb hx
    exact ⟨sl, (b2.2 b (Nat.ne_of_lt (Nat.lt_of_lt_of_le (Heap.lt_size e) I3.ok.above))).trans e1⟩
   ·obtain ⟨o', e1⟩ := I3.base.there b o e hx
    exact ⟨o', (b2.2 b (Nat.ne_of_lt (Nat.lt_of_lt_of_le (Heap.lt_size e) I3.ok.above))).trans e1⟩
   ·by_cases hj : j = i
    ·subst hj
     rw [hi] at e1; cases e1
     rw [List.getElem?_set_self hiσ] at e2
     cases e2
     exact ⟨_, r3, .inl ⟨hx, by simp⟩⟩
    ·rw [List.getElem?_set_ne (Ne.symm hj)] at e2
     obtain ⟨u', r', q⟩ := hlL j y v' e1 e2 e3
     refine ⟨u', r', ?_⟩
     rcases q with ⟨k, e⟩ | ⟨k, c, e, z⟩
     ·refine .inl ⟨k, ?_⟩
      have : y ≠ x := fun e => hj (AHR hN e1 (e ▸ hi))
      simp [this, e]
     ·exact .inr ⟨k, c, e, (z.sameBut hs2 (cne y c e)).sameBut hs3 (nc y c e)⟩
   ·obtain ⟨w', z⟩ := I3.cell y c e
    exact ⟨w', z.sameBut b2 (cne y c e)⟩
   ·obtain ⟨e, n, ne, nf, d⟩ := I3.pin p hp
    exact ⟨(b2.2 p.1 ne).trans e, n, ne, nf, d⟩
   ·intro b ob e
    refine (I3.hok b ob e).stay (fun c w' hc q => (b2.2 c ?_).trans q) (fun _ q => q) fun _ _ q => q
    rintro rfl
    have hfree := I3.free
    rcases hc with rfl | hc
    ·rw [hfree] at e; cases e
    ·rw [hfree] at hc; cases hc
  exact ⟨_, H3, I4.tok _, q3⟩
theorem AUQ {i : Nat} {x : Str} {elt : Expr} {gens : List Comprehension} {scope : Scope} {cp : Pos} {t : FE} {pos pos' : Pos} (hN : X.N.Nodup) (hi : X.N[i]? = some x) (hx : X.env.scope.names.lookup x = some .local) (he : JC X Ek elt gens scope cp t)
  (hs : swapsWith (.ListComp elt gens scope cp) (some (.Name x pos')) pos.line X.env = pure true) : JS X Ek (.Assign [.Name x pos'] (.ListComp elt gens scope cp) pos) (E7 (gName i) t) := by
 refine PS.weak (AVT hN hi hx he hs) fun D σ H h => ?_
 obtain ⟨ρ, R, h⟩ := h
 refine ⟨ρ, R, D0 (Same.refl H) (fun a ha => ?_) (Z8 h)⟩
 intro v H1 s1 ra
 exact ha _ H1 s1 ((R.mono s1).set i ra)
end
section
variable {prog : Program} {w : World} {A : Around} {E : Value → Shared → Prop} {s : Shared}
theorem AC2 {t sl : Addr} {items : Array Value} {vl vu : Value} {lo hi : Option Int} {Q : Value → Shared → Prop} (ht : IsTup s.heap t items) (hs : s.heap.IsSliceOf sl vl vu .none) (pl : IsPart vl lo) (pu : IsPart vu hi)
  (hw : HT.sIx items.size 0 lo = 0 ∧ HT.sIx items.size items.size hi = items.size) (h : Q (.ref t) s) : wpAny (model prog w) A (getItem (.ref t) (.ref sl)) Q E s := by
 obtain ⟨os, hos, hcs, hds⟩ := id hs
 have hTs : s.TypeIs (.ref sl) "slice" := ⟨os, hos, hcs⟩
 unfold getItem
 try with_reducible refine wpAny_holding ?_
 first | refine wpAny_bind (wpAny_pure ?_) | skip
 refine wpAny_bind (wpAny_sequenceKey ht.typeIs (by decide) ?_)
 refine wpAny_bind (wpAny_callSpecial?_slot (name := Str.ofString "__getitem__") ht.typeIs PyProof.Rows.slot_tuple_getitem
  (wpAny_call_entry PyProof.Rows.slot_tuple_getitem ht.typeIs PyProof.Rows.entry_tuple_getitem ?_ (PyProof.Rows.args_tuple_getitem _ _)))
 show wpAny _ _ (Builtin.Tuple.tupleItemsOf (.ref t) >>= _) _ _ s
 refine wpAny_bind (PyProof.Rows.tupleItemsOf_ ht ?_)
 refine wpAny_bind (wpAny_typeOf hTs ?_)
 rw [if_pos (by decide)]
 refine wpAny_bind (HT.sliceApplied_gen hs pl pu ?_)
 have hyes : ((((HT.sIx items.size 0 lo : Nat) : Int) == 0 && (1 : Int) == 1 && (HT.sIx items.size items.size hi - HT.sIx items.size 0 lo) == items.size) = true) := by
  rw [hw.1, hw.2]; simp
 show wpAny _ _ (if (((HT.sIx items.size 0 lo : Nat) : Int) == 0 && (1 : Int) == 1 && (HT.sIx items.size items.size hi - HT.sIx items.size 0 lo) == items.size) = true then _ else _) _ _ s
 rw [if_pos hyes]
 refine wpAny_bind ?_
 unfold Builtin.Tuple.tupleIsExact
 refine wpAny_bind (wpAny_typeOf ht.typeIs (wpAny_pure ?_))
 rw [if_pos (by decide)]
 refine wpAny_bind (wpAny_rule ?_)
 exact wpAny_pure ⟨_, rfl, wpAny_pure h⟩
end
section
variable {X : Cx} {Ek : EK}
def AcJ (K : PySem.W.Frag) : V → Option Int → Option Int → Hp → VK → Prop := fun x lo hi H Q => ∃ a xs, x = .ref a ∧ SqT K H a xs ∧ (HT.sIx xs.length 0 lo = 0 ∧ HT.sIx xs.length xs.length hi = xs.length) ∧ Q (.ref a) H
theorem AVH : SlR X (AcJ X.K) := by
 intro pins s σ H x v vl vu lo hi sl Q I rx hs pl pu h
 obtain ⟨a, xs, rfl, hx, hw, q⟩ := h
 cases rx
 obtain ⟨its, r, ht, hz⟩ := I.tuple hx
 have hlen : its.toArray.size = xs.length := by rw [List.size_toArray]; exact r.length.symm
 refine ⟨"tuple", _, PyProof.Rows.slot_tuple_getitem.lookup, ht.typeIs, ?_⟩
 exact AC2 ht hs pl pu (by rw [hlen]; exact hw) ⟨.ref a, H, I, rfl, q⟩
def AG0 (a : FE) (lo hi : FO) : FE := fun ρ => (a ρ).bind fun x => (AZ0 lo ρ).bind fun l => (AZ0 hi ρ).bind fun h => match x with
 | .tuple xs => .ok (.tuple (APL xs l h))
 | _ => .bad
theorem ANG {xs : List T} {l h : Option Int} (e : HT.sIx xs.length 0 l = 0 ∧ HT.sIx xs.length xs.length h = xs.length) : APL xs l h = xs := by
 unfold APL
 rw [e.1, e.2, List.drop_zero, Nat.sub_zero, List.take_length]
theorem AF5 {a : Expr} {lo hi : Option Expr} {ta : FE} {tl th : FO} {pos p2 : Pos} (ha : JE X Ek a ta) (hl : JO X Ek lo tl) (hh : JO X Ek hi th) : JE X Ek (.Subscript a (.Slice lo hi none p2) pos) (AG0 ta tl th) := by
 refine PE.weak (ASG (sl_tup.or AVH) ha hl hh) fun σ H Q h => ?_
 obtain ⟨ρ, R0, h⟩ := h
 refine ⟨ρ, R0, D0 (Same.refl H) (fun x hx => ?_) (C7 h)⟩
 intro v H1 s1 rx
 refine ⟨ρ, R0.mono s1, D0 s1 (fun l hl => ?_) (C7 hx)⟩
 intro H2 s2
 refine ⟨ρ, R0.mono (s1.trans s2), D0 (s1.trans s2) (fun u hu => ?_) (C7 hl)⟩
 intro H3 s3
 cases x with
 | tuple xs =>
  have rx0 := rx
  unfold Rep at rx
  obtain ⟨p, vs, rfl, hp, l1⟩ := rx
  by_cases hw : HT.sIx vs.length 0 l = 0 ∧ HT.sIx vs.length vs.length u = vs.length
  ·refine .inr ⟨p, vs, rfl, S1 (s2.trans s3) hp, hw, ?_⟩
   rw [l1.length] at hw
   refine hu _ _ (s1.trans (s2.trans s3)) ?_
   rw [ANG hw]
   exact Rep.mono (s2.trans s3) _ _ rx0
  ·refine .inl ⟨p, vs, rfl, S1 (s2.trans s3) hp, hw, fun r hr => ?_⟩
   refine hu _ _ (s1.trans (s2.trans (s3.trans (E6 hr _)))) ?_
   unfold Rep
   exact ⟨r, _, rfl, SqT.of D9, RepL.mono (s2.trans (s3.trans (E6 hr _))) _ _ (AS9 l u l1)⟩
 | _ => exact hu.elim
def AUK (K : PySem.W.Frag) : R2 := fun x y H Q => ∃ a b ys, x = .ref a ∧ y = .ref b ∧ SqT K H a [] ∧ SqT K H b ys ∧ Q (.ref b) H
theorem ATK : OpR X (binaryOp .Add) (AUK X.K) := by
 intro pins s σ H x y v u Q I rx ry h
 obtain ⟨a, b, ys, rfl, rfl, ha, hb, q⟩ := h
 cases rx
 cases ry
 obtain ⟨its, r1, p1, _⟩ := I.tuple ha
 obtain ⟨its2, r2, p2, _⟩ := I.tuple hb
 have e1 : its = [] := r1.nil_iff.mpr rfl
 subst e1
 obtain ⟨⟨cls, dd, data, sl⟩, ho, hc, n, hd⟩ := id p1
 obtain ⟨⟨cls2, dd2, data2, sl2⟩, ho2, hc2, n2, hd2⟩ := id p2
 simp only at hc hd hc2 hd2
 subst hc hd hc2 hd2
 exact concat_meets ⟨_, ho, rfl⟩ ⟨_, ho2, rfl⟩ noFill_tuple_add seq_tuple_add PySem.F.slot_tuple_add PySem.F.entry_tuple_add (PySem.F.args_tuple_add_2 _ _)
   (tuple_addW0 a b [].toArray its2.toArray n n2 dd dd2 sl sl2 (by simp)) ⟨ho, ho2, ⟨.ref b, H, I, rfl, q⟩⟩
def ACI : T → T → Option T
 | .tuple xs, .tuple ys => if O5 (xs.length + ys.length) = true then some (.tuple (xs ++ ys)) else none
 | _, _ => none
theorem X5 : OpR X (binaryOp .Add) (fun x y H Q => ANM X.K x y H Q ∨ AUK X.K x y H Q) := op_addU.or ATK
theorem P6 {K : PySem.W.Frag} : ACL K (fun x y H Q => ANM K x y H Q ∨ AUK K x y H Q) ACI := fun x y tx ty a H Q rx ry e q => by
 match tx, ty, e, rx, ry with
 | .tuple xs, .tuple ys, e, rx, ry =>
  have e' : (if O5 (xs.length + ys.length) = true then some (PyData.tuple (xs ++ ys)) else none) = some a := e
  by_cases hl : O5 (xs.length + ys.length) = true
  ·rw [if_pos hl] at e'
   cases xs with
   | nil =>
    rw [List.nil_append] at e'
    cases e'
    have ry0 := ry
    unfold Rep at rx ry
    obtain ⟨p, vs, rfl, hp, l1⟩ := rx
    obtain ⟨p', vs', rfl, hp', l2⟩ := ry
    have hv : vs = [] := List.length_eq_zero_iff.mp l1.length
    subst hv
    exact .inr ⟨p, p', vs', rfl, rfl, hp, hp', q _ H (Same.refl H) ry0⟩
   | cons z zs =>
    refine .inl (AQR x y (.tuple (z :: zs)) (.tuple ys) a H Q rx ry ?_ q)
    show (if (!(z :: zs).isEmpty && O5 ((z :: zs).length + ys.length)) = true then some (PyData.tuple ((z :: zs) ++ ys)) else none) = some a
    rw [if_pos (by simpa using hl)]
    exact e'
  ·rw [if_neg hl] at e'; cases e'
def ATN : FS := fun ρ => .ct ρ
theorem AVY {pos : Pos} : JS X Ek (.Continue pos) ATN := by
 refine PS.weak AKU fun D σ H h => ?_
 obtain ⟨ρ, R, h⟩ := h
 exact h σ H (Same.refl H) R
end
section
variable {X : Cx} {Ek : EK}
def YH (J : It) : Prop := ∀ i H0 a vs x H3, H0 a = none → J.yld i (upd H0 a (.lst vs)) x H3 → ∃ H03, H03 a = none ∧ H3 = upd H03 a (.lst vs) ∧ J.yld i H0 x H03
theorem YM.yh {J : It} (h : YM J) : YH J := fun i H0 a vs x H3 n y => by
 obtain ⟨e, y0⟩ := h i H0 _ x H3 (E6 n _) y
 exact ⟨H0, n, e, y0⟩
def lIh (K : PySem.W.Frag) (Ek : EK) (t : FI) : TI := fun σ H R => ∃ ρ, RepEnv K H ρ σ ∧ wR Ek H (t ρ) fun ts => ∀ J H', Same H H' → AE0 K J ts H' → YH J → R J H'
abbrev JIh (X : Cx) (Ek : EK) (tg iter : Expr) (t : FI) : Prop := PI X tg iter (lIh X.K Ek t)
theorem ANT {tg iter : Expr} {t : FI} (h : JIy X Ek tg iter t) : JIh X Ek tg iter t := by
 refine PI.weak h fun σ H Q h => ?_
 obtain ⟨ρ, R, h⟩ := h
 exact ⟨ρ, R, D0 (Same.refl H) (fun x hx J H' s iO ym => hx J H' s iO ym.yh) h⟩
theorem ARD {H : Hp} {a b : Addr} {u v : HO} (h : a ≠ b) : upd (upd H a u) b v = upd (upd H b v) a u := by
 funext c
 by_cases h1 : c = a
 ·subst h1
  rw [C0 h, D9, D9]
 ·by_cases h2 : c = b
  ·subst h2
   rw [D9, C0 h1, D9]
  ·rw [C0 h2, C0 h1, C0 h1, C0 h2]
theorem AW8 {K : PySem.W.Frag} {b c : Bool} {l m : Addr} : YH (Itz K b c l m) := fun i H0 a vs x H3 n y => by
 obtain ⟨p, u, v, rfl, hp, rfl, k1, k2⟩ := y
 have hpa : p ≠ a := fun z => by rw [z, D9] at hp; cases hp
 rw [C0 hpa] at hp
 refine ⟨upd H0 p (.tup [u, v]), by rw [C0 hpa.symm]; exact n, ARD hpa.symm, p, u, v, rfl, hp, rfl, fun xs h => k1 xs (V3 (E6 n _) h), fun ys h => k2 ys (V3 (E6 n _) h)⟩
theorem AQ3 {elts : List Expr} {k0 : Nat} {tp : Pos} {a b' : Expr} {t : FA} {p pos : Pos} (b c : Bool) (hg : Gl X "zip") (hm : X.mg "zip" = none) (ha : JA X Ek [a, b'] t) (hs : starEach [a, b'] X.env = (false, eval a X.env) :: starEach [b'] X.env) (hpl : (backTo pos (starEach [b'] X.env)).any (·.1) = false) :
  JIh X Ek (.Tuple elts k0 tp) (.Call (.Name "zip" p) [a, b'] [] pos) (iN (AW3 b c) t) := by
 refine PI.weak (AX5 b c hg hm ha hs hpl) fun σ H Q h => ?_
 obtain ⟨ρ, R, h⟩ := h
 refine ⟨ρ, R, D0 (Same.refl H) (fun x hx => ?_) (C7 h)⟩
 intro vs H1 s1 rx
 obtain ⟨ts, e, q⟩ := ACB hx
 match x, e, rx with
 | [tx, ty], e, rx =>
  unfold RepL at rx
  obtain ⟨v, r, rfl, r1, rx⟩ := rx
  unfold RepL at rx
  obtain ⟨v2, r', rfl, r2, rx⟩ := rx
  unfold RepL at rx
  subst rx
  have e' : ((AQM b tx).bind fun xs => (AQM c ty).bind fun ys => some (List.zipWith (fun a b => PyData.tuple [a, b]) xs ys)) = some ts := e
  cases ex : AQM b tx with
  | none => rw [ex] at e'; cases e'
  | some xs =>
   cases ey : AQM c ty with
   | none => rw [ex, ey] at e'; cases e'
   | some ys =>
    rw [ex, ey] at e'
    have e'' : List.zipWith (fun a b => PyData.tuple [a, b]) xs ys = ts := Option.some.inj e'
    subst e''
    obtain ⟨l, vx, rfl, q1, l1⟩ := AHL r1 ex
    obtain ⟨m, vy, rfl, q2, l2⟩ := AHL r2 ey
    refine ⟨l, m, vx, vy, rfl, q1, q2, q _ H1 s1 (fun i H2 s2 => ⟨fun t ht => ?_, fun hi => ?_⟩) AW8⟩
    ·rw [List.getElem?_zipWith] at ht
     cases exi : xs[i]? with
     | none => rw [exi] at ht; simp at ht
     | some xi =>
      cases eyi : ys[i]? with
      | none => rw [exi, eyi] at ht; simp at ht
      | some yi =>
       rw [exi, eyi] at ht
       have ht' : PyData.tuple [xi, yi] = t := Option.some.inj ht
       subst ht'
       obtain ⟨wx, f1, f2⟩ := l1.get exi
       obtain ⟨wy, f3, f4⟩ := l2.get eyi
       refine ⟨⟨vx, vy, wx, wy, V3 s2 q1, V3 s2 q2, f1, f3⟩, fun x H3 y => ?_⟩
       obtain ⟨p, x1, y1, rfl, n, rfl, k1, k2⟩ := y
       have k3 := k1 vx (V3 s2 q1)
       have k4 := k2 vy (V3 s2 q2)
       rw [f1] at k3
       rw [f3] at k4
       have k5 := Option.some.inj k3
       have k6 := Option.some.inj k4
       subst k5
       subst k6
       have sm := E6 n (.tup [wx, wy])
       refine ⟨sm, ?_⟩
       unfold Rep
       exact ⟨p, [wx, wy], rfl, SqT.of D9, B7 (Rep.mono (s2.trans sm) xi wx f2) (B7 (Rep.mono (s2.trans sm) yi wy f4) G6)⟩
    ·rw [List.length_zipWith] at hi
     refine ⟨vx, vy, V3 s2 q1, V3 s2 q2, ?_⟩
     rw [l1.length, l2.length]
     omega
theorem AFF {i : Nat} {tg iter : Expr} {body : List Stmt} {it : FI} {g : FG} {tb : FB} {pos : Pos} (hp : PassesOwn (model X.prog X.w) X.A X.env X.xe) (hc : X.calm = true) (hi : JIh X Ek tg iter it) (hg : JG X tg g) (hb : JBs X i body tb)
  (hs : ∀ x, foldedSetIterable iter X.env x = pure x) : JB X i (.For tg iter body [] pos) (ALE i it g tb) := by
 refine PS.weak (AOK hp hc (ATD hi) (AT2 hg) hb hs) fun D σ H hh => ?_
 obtain ⟨a, Hb, ρ, acc, H0, vs, e, o, q⟩ := hh
 refine ⟨a, vs, H0, o.free, e, ρ, o.env, ?_⟩
 unfold ALE at q
 cases er : it ρ with
 | ex c fs => rw [er] at q; exact q.elim
 | bad => rw [er] at q; exact q.elim
 | ok ts =>
  simp only [er] at q
  generalize hg' : (fun t ρ => (g t ρ).bind fun ρ' => if N9 i a ρ' = true then some ρ' else none) = g' at q
  have sub : ∀ {G0 : Hp} {ws : List V} {G : Hp}, Same G G0 → G a = none → Same G (upd G0 a (.lst ws)) := fun {G0 ws G} s n b u z => by
   rw [C0 (fun e => by rw [e, n] at z; cases z)]; exact s b u z
  intro J H1 s1 iO ym n1
  refine ⟨fun k m σ H => m = ts.length - k ∧ k ≤ ts.length ∧ ∃ ρ acc G vs, H = upd G a (.lst vs) ∧ Same H1 G ∧ Own X.K i a Hb ρ acc σ G vs ∧ lBR X.K i a Hb D (W9 g' tb (ts.drop k) a ρ acc),
   ⟨ts.length, by simp, Nat.zero_le _, ρ, acc, H1, vs, rfl, Same.refl H1, ⟨o.base.trans s1, n1, o.env.mono s1, RepL.mono s1 acc vs o.rep, o.slot⟩, by rw [List.drop_zero]; exact q⟩, ?_⟩
  rintro k m σ H ⟨rfl, hk, ρ, acc, G, vs, rfl, sG, o, q⟩
  by_cases hlt : k < ts.length
  ·refine .inr ?_
   have ht : ts[k]? = some ts[k] := List.getElem?_eq_getElem hlt
   obtain ⟨go, _⟩ := (iO k (upd G a (.lst vs)) (sub sG n1)).1 _ ht
   refine ⟨go, fun σ' H' => ∃ ρ acc G vs, H' = upd G a (.lst vs) ∧ Same H1 G ∧ Own X.K i a Hb ρ acc σ' G vs ∧ lBR X.K i a Hb D (W9 g' tb (ts.drop (k + 1)) a ρ acc), fun σ' H' q' => ⟨ts.length - (k + 1), by omega, rfl, hlt, q'⟩, fun x H' y => ?_⟩
   obtain ⟨G3, n3, e3, y0⟩ := ym k G a vs x H' o.free y
   subst e3
   obtain ⟨_, yl⟩ := (iO k G sG).1 _ ht
   obtain ⟨s3, rx⟩ := yl x G3 y0
   rw [List.drop_eq_getElem_cons hlt] at q
   rw [W9] at q
   have hgt : g' ts[k] ρ = ((g ts[k] ρ).bind fun ρ' => if N9 i a ρ' = true then some ρ' else none) := by rw [← hg']
   cases eg : g ts[k] ρ with
   | none => rw [hgt, eg] at q; exact q.elim
   | some ρ1 =>
    by_cases hkb : N9 i a ρ1 = true
    ·have hgt' : g' ts[k] ρ = some ρ1 := by rw [hgt, eg]; show (if N9 i a ρ1 = true then some ρ1 else none) = some ρ1; rw [if_pos hkb]
     simp only [hgt'] at q
     refine ⟨a, vs, G3, n3, rfl, ts[k], ρ, ρ1, rx, o.env.mono s3, eg, fun σ1 R1 n2 => ?_⟩
     refine ⟨a, G3, ρ1, acc, G3, vs, rfl, ⟨Same.refl G3, n2, R1, RepL.mono s3 acc vs o.rep, AEM hkb⟩, ?_⟩
     cases eb : tb a ρ1 acc with
     | nx ρ2 acc2 => simp only [eb] at q; exact fun σ2 G2 vs2 o2 => ⟨ρ2, acc2, G2, vs2, rfl, sG.trans (s3.trans o2.base), ⟨o.base.trans (s3.trans o2.base), o2.free, o2.env, o2.rep, o2.slot⟩, q⟩
     | ct ρ2 acc2 => simp only [eb] at q; exact fun σ2 G2 vs2 o2 => ⟨ρ2, acc2, G2, vs2, rfl, sG.trans (s3.trans o2.base), ⟨o.base.trans (s3.trans o2.base), o2.free, o2.env, o2.rep, o2.slot⟩, q⟩
     | bad => simp only [eb] at q; exact q.elim
    ·have hgt' : g' ts[k] ρ = none := by rw [hgt, eg]; show (if N9 i a ρ1 = true then some ρ1 else none) = none; rw [if_neg hkb]
     simp only [hgt'] at q
     exact q.elim
  ·refine .inl ⟨(iO k (upd G a (.lst vs)) (sub sG n1)).2 (by omega), ?_⟩
   rw [List.drop_eq_nil_of_le (by omega)] at q
   exact q σ G vs o
theorem AQT {tg l : Expr} {t : FE} (hl : JE X Ek l t) : JIy X Ek tg l (iOf V9 t) := by
 refine PI.weak (APK hl) fun σ H Q h => ?_
 obtain ⟨ρ, R, h⟩ := h
 refine ⟨ρ, R, D0 (Same.refl H) (fun x hx => ?_) (C7 h)⟩
 intro v H1 s1 rx
 obtain ⟨ts, e, q⟩ := ACB hx
 cases x with
 | list xs =>
  have e' : xs = ts := Option.some.inj e
  subst e'
  unfold Rep at rx
  obtain ⟨a, vs, rfl, hq, l⟩ := rx
  refine ⟨a, rfl, ⟨vs, hq⟩, q _ H1 s1 (fun i H2 s2 => ⟨fun t ht => ?_, fun hi => ⟨vs, d4 s2 hq, by rw [l.length]; exact hi⟩⟩) AVC⟩
  obtain ⟨v, e1, e2⟩ := l.get ht
  refine ⟨⟨vs, v, d4 s2 hq, e1⟩, fun x H3 y => ?_⟩
  obtain ⟨y1, y2⟩ := y
  have y3 := y2 vs (d4 s2 hq)
  rw [e1] at y3
  have y4 : v = x := Option.some.inj y3
  subst y4
  subst y1
  exact ⟨Same.refl _, Rep.mono s2 t v e2⟩
 | _ => cases e
theorem AP2 {r r' : R2} {f g : T → T → Option T} {ta tb tc : FE} (hr : ACL X.K r f) (hr' : ACL X.K r' g) (hf : ∀ x y c, f x y = some c → ∃ k, c = .bool k) (σ : L2.St) (H : Hp) (Q : VK) (h : lE X.K Ek (APZ f g ta tb tc) σ H Q) :
  AST r r' (lE X.K Ek ta) (lE X.K Ek tb) (lE X.K Ek tc) σ H Q := by
 obtain ⟨ρ, R, h⟩ := h
 refine ⟨ρ, R, D0 (Same.refl H) (fun x hx => ?_) (C7 h)⟩
 intro v H1 s1 rx
 refine ⟨ρ, R.mono s1, D0 s1 (fun y hy => ?_) (C7 hx)⟩
 intro u H2 s2 ry
 obtain ⟨z, hz, q⟩ := ACB (C7 hy)
 obtain ⟨k, rfl⟩ := hf x y z hz
 refine hr v u x y _ H2 _ (Rep.mono s2 x v rx) ry hz fun w' H3 s3 rz => ?_
 unfold Rep at rz; subst rz
 refine ⟨k, rfl, ?_⟩
 cases k with
 | true =>
  rw [if_pos rfl]
  refine ⟨ρ, R.mono (s1.trans (s2.trans s3)), D0 (s1.trans (s2.trans s3)) (fun w2 hw => ?_) (C7 q)⟩
  intro v4 H4 s4 r4
  obtain ⟨a, ha, q'⟩ := ACB hw
  exact hr' u v4 y w2 a H4 Q (Rep.mono (s3.trans s4) y u ry) r4 ha fun v5 H5 s5 => q' v5 H5 (s1.trans (s2.trans (s3.trans (s4.trans s5))))
 | false =>
  rw [if_neg Bool.false_ne_true]
  exact q _ H3 (s1.trans (s2.trans s3)) L7
def AD5 (f g : T → T → Option T) (a b c : FE) : FT := fun ρ => (APZ f g a b c ρ).bind fun z => match z with
 | .bool k => .ok k
 | _ => .bad
theorem AM2 {op op' : CmpOp} {r r' : R2} {f g : T → T → Option T} {a b c : Expr} {ta tb tc : FE} {pos : Pos} (ho : OpR X (compareOp op) r) (ho' : OpR X (compareOp op') r') (hr : ACL X.K r f) (hr' : ACL X.K r' g)
  (hf : ∀ x y c, f x y = some c → ∃ k, c = .bool k) (ha : JE X Ek a ta) (hb : JE X Ek b tb) (hc : JE X Ek c tc) (hm : lastMarks [op, op'] [b, c] = false) : JT X Ek (.Compare a [op, op'] [b, c] pos) (AD5 f g ta tb tc) := by
 refine PT.weak (AQX ho ho' ha hb hc hm) fun σ H Q h => ?_
 obtain ⟨ρ, R, h⟩ := h
 refine AP2 (Ek := Ek) hr hr' hf σ H _ ⟨ρ, R, D0 (Same.refl H) (fun z hz => ?_) (C7 h)⟩
 cases z with
 | bool k =>
  intro v H' s1 rz
  unfold Rep at rz
  subst rz
  exact ⟨k, rfl, hz H' s1⟩
 | _ => exact hz.elim
end
end Tr
end
section
namespace PySem
open AutoSeq1 (wpAny_loadPart')
end PySem
namespace Tr
open PySem hiding start
open PyProof.Rows hiding St
open L2 PySem.Spec
theorem AYV {α β : Type} (g : α → β) (ks : List α) : ks.filterMap (fun k => some (g k)) = ks.map g := by
 induction ks with
 | nil => rfl
 | cons k ks ih => rw [List.filterMap_cons, List.map_cons, ih]
theorem ALG {α β : Type} {f g : α → Option β} : ∀ ks : List α, (∀ k ∈ ks, f k = g k) → ks.filterMap f = ks.filterMap g
 | [], _ => rfl
 | k :: ks, h => by rw [List.filterMap_cons, List.filterMap_cons, h k List.mem_cons_self, ALG ks fun j hj => h j (List.mem_cons_of_mem _ hj)]
theorem AJT (xs : Array Value) (f : Nat → Nat) (hf : ∀ k, k < xs.size → f k = xs.size - 1 - k) : (List.range xs.size).filterMap (fun k => xs[f k]?) = xs.toList.reverse := by
 have e : (List.range xs.size).filterMap (fun k => xs[f k]?) = (List.range xs.size).filterMap (fun k => some (xs.getD (xs.size - 1 - k) .none)) := by
  refine ALG _ fun k hk => ?_
  have hk' := List.mem_range.mp hk
  rw [hf k hk', Array.getElem?_eq_getElem (by omega), Array.getD_eq_getD_getElem?, Array.getElem?_eq_getElem (by omega)]
  rfl
 rw [e, AYV]
 refine List.ext_getElem (by simp) fun i h1 h2 => ?_
 rw [List.getElem_map, List.getElem_range, List.getElem_reverse]
 simp only [List.length_map, List.length_range] at h1
 rw [Array.getD_eq_getD_getElem?, Array.getElem?_eq_getElem (by omega)]
 simp only [Array.length_toList, Option.getD_some, Array.getElem_toList]
theorem APB (xs : Array Value) : slicePick xs none none (some (-1)) = xs.toList.reverse.toArray := by
 unfold slicePick
 have e : sliceBounds none none (some (-1)) xs.size = ((xs.size : Int) - 1, -1, -1) := rfl
 rw [e]
 have r : sliceRange ((xs.size : Int) - 1) (-1) (-1) = (List.range xs.size).map fun (k : Nat) => ((xs.size : Int) - 1 + -1 * (k : Int)).toNat := by
  unfold sliceRange
  have h1 : ¬ ((-1 : Int) > 0) := by omega
  have c : (if ((xs.size : Int) - 1) > -1 then ((xs.size : Int) - 1 - -1 - -1 - 1) / (- -1) else 0).toNat = xs.size := by
   have h2 : (- -1 : Int) = 1 := rfl
   rw [h2, Int.ediv_one]
   split <;> omega
  simp only [h1, if_false, c]
 rw [r, List.filterMap_map]
 congr 1
 exact AJT xs (fun k => ((xs.size : Int) - 1 + -1 * (k : Int)).toNat) fun k hk => by omega
section
variable {prog : Program} {w : World} {A : Around} {E : Value → Shared → Prop} {s : Shared}
theorem ACS {t sl : Addr} {items : Array Value} {vs : Value} {Q : Value → Shared → Prop} (ht : IsTup s.heap t items) (hs : s.heap.IsSliceOf sl .none .none vs) (ps : IsPart vs (some (-1)))
  (h : Q (.ref s.heap.objs.size) { s with heap := s.heap.push { cls := .type "tuple", data := .seq items.toList.reverse.toArray } }) (hsz : items.size ≤ sizeLine) : wpAny (model prog w) A (getItem (.ref t) (.ref sl)) Q E s := by
 have htake : sizeOk (.seq items.toList.reverse.toArray) := by
  show items.toList.reverse.toArray.size ≤ sizeLine
  rw [List.size_toArray, List.length_reverse, Array.length_toList]
  exact hsz
 obtain ⟨os, hos, hcs, hds⟩ := id hs
 have hTs : s.TypeIs (.ref sl) "slice" := ⟨os, hos, hcs⟩
 unfold getItem
 try with_reducible refine wpAny_holding ?_
 first | refine wpAny_bind (wpAny_pure ?_) | skip
 refine wpAny_bind (wpAny_sequenceKey ht.typeIs (by decide) ?_)
 refine wpAny_bind (wpAny_callSpecial?_slot (name := Str.ofString "__getitem__") ht.typeIs PyProof.Rows.slot_tuple_getitem
  (wpAny_call_entry PyProof.Rows.slot_tuple_getitem ht.typeIs PyProof.Rows.entry_tuple_getitem ?_ (PyProof.Rows.args_tuple_getitem _ _)))
 show wpAny _ _ (Builtin.Tuple.tupleItemsOf (.ref t) >>= _) _ _ s
 refine wpAny_bind (PyProof.Rows.tupleItemsOf_ ht ?_)
 refine wpAny_bind (wpAny_typeOf hTs ?_)
 rw [if_pos (by decide)]
 have ap : ∀ {R : Int × Int × Nat → Shared → Prop}, R ((items.size : Int) - 1, -1, items.size) s → wpAny (model prog w) A.in1 (Builtin.Slice.sliceApplied (.ref sl) (pure (items.size : Int))) R (fun e s' => E e s') s := fun {R} hR => by
  unfold Builtin.Slice.sliceApplied Builtin.Slice.sliceFields
  refine wpAny_bind (wpAny_bind (wpAny_field hos hds (x := .none) rfl (wpAny_bind (wpAny_field hos hds (x := .none) rfl (wpAny_bind (wpAny_field hos hds (x := vs) rfl (wpAny_pure ?_)))))))
  refine wpAny_bind (HT.slicePart_ ps ?_)
  show wpAny _ _ (if ((-1 : Int) == 0) = true then _ else _) _ _ s
  rw [if_neg (by decide)]
  refine wpAny_bind (HT.slicePart_ .none (wpAny_bind (HT.slicePart_ .none (wpAny_bind (wpAny_pure ?_)))))
  show wpAny _ _ (match Builtin.Slice.sliceAdjust none none (-1) (items.size : Int) with | (lo, hi) => pure (lo, (-1 : Int), Builtin.Slice.slicePlaces lo hi (-1))) _ _ s
  have e : Builtin.Slice.sliceAdjust none none (-1) (items.size : Int) = ((items.size : Int) - 1, -1) := rfl
  rw [e]
  show wpAny _ _ (pure ((items.size : Int) - 1, (-1 : Int), Builtin.Slice.slicePlaces ((items.size : Int) - 1) (-1) (-1))) _ _ s
  have p : Builtin.Slice.slicePlaces ((items.size : Int) - 1) (-1) (-1) = items.size := by
   unfold Builtin.Slice.slicePlaces
   have h1 : ¬ ((-1 : Int) > 0) := by omega
   have h2 : (- -1 : Int) = 1 := rfl
   simp only [h1, if_false]
   rw [h2, Int.ediv_one]
   split <;> omega
  rw [p]
  exact wpAny_pure hR
 refine wpAny_bind (ap ?_)
 have hno : ¬ ((((items.size : Int) - 1) == 0 && (-1 : Int) == 1 && items.size == items.size) = true) := by simp
 show wpAny _ _ (if (((items.size : Int) - 1) == 0 && (-1 : Int) == 1 && items.size == items.size) = true then _ else _) _ _ s
 rw [if_neg hno, AJT items (fun k => ((items.size : Int) - 1 + (k : Int) * -1).toNat) fun k hk => by omega]
 first
  | exact wpAny_bind (m := Builtin.Tuple.tupleExact _) (wpAny_newObj_type (wpAny_pure ⟨_, rfl, wpAny_pure h⟩) htake)
  | exact wpAny_bind (m := Builtin.Tuple.tupleExact _) (wpAny_newObj_type (wpAny_bind (wpAny_pure (wpAny_pure ⟨_, rfl, wpAny_pure h⟩))) htake)
  | exact wpAny_bind (wpAny_bind (m := Builtin.Tuple.tupleExact _) (wpAny_newObj_type (wpAny_pure (wpAny_pure ⟨_, rfl, wpAny_pure h⟩)) htake))
  | exact wpAny_bind (wpAny_bind (m := Builtin.Tuple.tupleExact _) (wpAny_newObj_type (wpAny_pure ⟨_, rfl, wpAny_pure h⟩) htake))
end
section
variable {X : Cx} {Ek : EK}
theorem AM6 {xs : List V} {us : List Value} (r : Vals xs us) : Vals xs.reverse us.reverse := by
 induction r with
 | nil => exact .nil
 | cons h _ ih => rw [List.reverse_cons, List.reverse_cons]; exact ih.append (.cons h .nil)
theorem RepL.rev {K : PySem.W.Frag} {H : Hp} : ∀ {ts : List T} {vs : List V}, RepL K H ts vs → RepL K H ts.reverse vs.reverse
 | [], _, h => by unfold RepL at h; subst h; exact G6
 | t :: ts, _, h => by
  unfold RepL at h
  obtain ⟨v, r, rfl, h2, h3⟩ := h
  rw [List.reverse_cons, List.reverse_cons]
  exact (RepL.rev h3).append (B7 h2 G6)
def AZ2 (a : FE) (st : FO) : FE := fun ρ => (a ρ).bind fun x => (AZ0 st ρ).bind fun s => if s = some (-1) then (match x with
 | .tuple xs => .ok (.tuple xs.reverse)
 | .list xs => .ok (.list xs.reverse)
 | _ => .bad) else .bad
def AcB (K : PySem.W.Frag) (te : TE) (ts : TO) : TE := fun σ H Q => te σ H fun x H1 => ts σ H1 fun st H2 => st = some (-1) ∧
 ((∃ a xs, x = .ref a ∧ SqL K H2 a xs ∧ ∀ p, H2 p = none → Q (.ref p) (upd H2 p (.lst xs.reverse))) ∨ (∃ a xs, x = .ref a ∧ SqT K H2 a xs ∧ ∀ p, H2 p = none → Q (.ref p) (upd H2 p (.tup xs.reverse))))
theorem AXJ {e : Expr} {st : Option Expr} {te : TE} {ts : TO} {pos p2 : Pos} (hsb : ∀ v k, subscripted (.Slice none none st p2) false v k = operate [v, k] (getItem v k)) (he : PE X e te) (hst : PO X st ts) : PE X (.Subscript e (.Slice none none st p2) pos) (AcB X.K te ts) := by
 intro pins s σ H Q I h
 refine Subscript_ (thn (he pins s σ H _ I h) fun v s1 ⟨x, H1, I1, r1, q1⟩ => ?_)
 refine wpAny_Slice ?_
 rw [evalPart_none]
 refine wpAny_pure (wpAny_pure ?_)
 refine (thn (hst pins s1 σ H1 _ I1 q1) fun vs s3 ⟨u, H3, I3, pu, q3⟩ => ?_)
 obtain ⟨rfl, q3⟩ := q3
 have I4 : Inv X pins σ H3 { s3 with heap := s3.heap.push { cls := .type "slice", data := .fields #[.none, .none, vs] } } := I3.kept (t' := s3.toks) fun b ob q => Heap.get?_push_of_some _ q
 show wpAny (model X.prog X.w) X.A (subscriptTail e (.Slice none none st p2) v (.ref s3.heap.objs.size)) (EP X pins σ Q) X.xe { s3 with heap := s3.heap.push { cls := .type "slice", data := .fields #[.none, .none, vs] } }
 rcases q3 with ⟨a, xs, rfl, hx, q⟩ | ⟨a, xs, rfl, hx, q⟩
 ·cases r1
  obtain ⟨its, r, ht, hz⟩ := I4.list hx
  have hlen := r.length
  refine tail_any (ops := [.ref a, .ref s3.heap.objs.size]) ht.isList.typeIs slot_list_getitem.lookup ?_ (hsb _ _)
  refine wpAny_getItem_list_slice ht.isList (Heap.IsSliceOf.new ..) .none .none pu (by simp) ?_ (by rw [List.size_toArray] <;> omega)
  rw [APB]
  refine ⟨.ref _, _, I4.laid (t' := s3.toks) (o := .lst xs.reverse) (fun b ob q => Heap.get?_push_of_some _ q) (Nat.le_refl _) ?_, rfl, q _ (I4.hok.fresh (Nat.le_refl _))⟩
  exact ⟨by rw [List.length_reverse]; exact hz, _, 0, AM6 r, Heap.get?_push_size _ rfl⟩
 ·cases r1
  obtain ⟨its, r, ht, hz⟩ := I4.tuple hx
  have hlen := r.length
  refine tail_any (ops := [.ref a, .ref s3.heap.objs.size]) ht.typeIs PyProof.Rows.slot_tuple_getitem.lookup ?_ (hsb _ _)
  refine ACS ht (Heap.IsSliceOf.new ..) pu ?_ (by rw [List.size_toArray] <;> omega)
  refine ⟨.ref _, _, I4.laid (t' := s3.toks) (o := .tup xs.reverse) (fun b ob q => Heap.get?_push_of_some _ q) (Nat.le_refl _) ?_, rfl, q _ (I4.hok.fresh (Nat.le_refl _))⟩
  exact ⟨by rw [List.length_reverse]; exact hz, _, AM6 r, IsTup.new _ _⟩
theorem AX6 {a : Expr} {st : Option Expr} {ta : FE} {ts : FO} {pos p2 : Pos} (hsb : ∀ v k, subscripted (.Slice none none st p2) false v k = operate [v, k] (getItem v k)) (ha : JE X Ek a ta) (hs : JO X Ek st ts) : JE X Ek (.Subscript a (.Slice none none st p2) pos) (AZ2 ta ts) := by
 refine PE.weak (AXJ hsb ha hs) fun σ H Q h => ?_
 obtain ⟨ρ, R0, h⟩ := h
 refine ⟨ρ, R0, D0 (Same.refl H) (fun x hx => ?_) (C7 h)⟩
 intro v H1 s1 rx
 refine ⟨ρ, R0.mono s1, D0 s1 (fun l hl => ?_) (C7 hx)⟩
 intro H2 s2
 by_cases hm : l = some (-1)
 ·rw [if_pos hm] at hl
  refine ⟨hm, ?_⟩
  cases x with
  | tuple xs =>
   unfold Rep at rx
   obtain ⟨p, vs, rfl, hp, l1⟩ := rx
   refine .inr ⟨p, vs, rfl, S1 s2 hp, fun r hr => hl _ _ (s1.trans (s2.trans (E6 hr _))) ?_⟩
   unfold Rep
   exact ⟨r, _, rfl, SqT.of D9, RepL.mono (s2.trans (E6 hr _)) _ _ l1.rev⟩
  | list xs =>
   unfold Rep at rx
   obtain ⟨p, vs, rfl, hp, l1⟩ := rx
   refine .inl ⟨p, vs, rfl, d4 s2 hp, fun r hr => hl _ _ (s1.trans (s2.trans (E6 hr _))) ?_⟩
   unfold Rep
   exact ⟨r, _, rfl, SqL.of D9, RepL.mono (s2.trans (E6 hr _)) _ _ l1.rev⟩
  | _ => exact hl.elim
 ·rw [if_neg hm] at hl
  exact hl.elim
theorem ALX {pins : List (Addr × Obj)} {σ : L2.St} {H : Hp} {s : Shared} {h' : Heap} {e0 it : Addr} {t : Nat} (I : L2.Inv X pins σ H s) (hf : ∀ a ∈ [e0, it], AK0 X pins H a) (old : ∀ a o, a ≠ e0 → a ≠ it → s.heap.get? a = some o → h'.get? a = some o) : L2.Inv X pins σ H { s with heap := h', toks := t } := by
 have fe := hf e0 (by simp)
 have fi := hf it (by simp)
 have far : ∀ a u, H a = some u → a ≠ e0 ∧ a ≠ it := fun a u q => ⟨fun z => (by rw [z, fe.1] at q; cases q), fun z => (by rw [z, fi.1] at q; cases q)⟩
 have off : ∀ a, a ∉ [e0, it] → a ≠ e0 ∧ a ≠ it := fun a q => by
  simp only [List.mem_cons, List.not_mem_nil, or_false, not_or] at q
  exact q
 refine I.step (g' := s.gens) (d' := s.drawn) (t' := t) (ch := [e0, it]) (fun a ha => ?_) (fun a o _ _ q e _ => ?_) (fun a o _ _ q e _ => ⟨o.slots, ?_⟩) (fun _ _ _ _ q => q) (fun a o q e => ⟨o, ?_⟩) (fun _ _ e => e) (fun _ _ _ e => e) (fun a ps e => ⟨#[], by rw [e]; simp⟩) (fun mm hm => ?_) (fun a u e => ?_) I.bare
 ·simp only [List.mem_cons, List.not_mem_nil, or_false] at ha
  rcases ha with rfl | rfl
  ·exact ⟨fe.2.2.2.1, fe.2.1, fe.2.2.2.2.1, fe.2.2.2.2.2⟩
  ·exact ⟨fi.2.2.2.1, fi.2.1, fi.2.2.2.2.1, fi.2.2.2.2.2⟩
 ·obtain ⟨q1, q2⟩ := off a q
  exact old a o q1 q2 e
 ·obtain ⟨q1, q2⟩ := off a q
  exact old a o q1 q2 e
 ·obtain ⟨q1, q2⟩ := off a q
  exact old a o q1 q2 e
 ·obtain ⟨o, es, ep, ho, r⟩ := hm
  exact ⟨o, es, ep, old _ o (Ne.symm fe.2.1) (Ne.symm fi.2.1) ho, r⟩
 ·refine (I.hok a u e).stay (fun c' v hc q => ?_) (fun _ q => q) fun _ _ q => q
  have hfar : c' ≠ e0 ∧ c' ≠ it := by
   rcases hc with r | r
   ·rw [r]; exact far a u e
   ·exact far c' _ r
  exact old c' v hfar.1 hfar.2 q
def AFC : Nat → List T → List T
 | _, [] => []
 | n, x :: xs => .tuple [.int (n : Int), x] :: AFC (n + 1) xs
theorem AI3 : ∀ (xs : List T) (n i : Nat), (AFC n xs)[i]? = (xs[i]?).map fun x => PyData.tuple [.int ((n + i : Nat) : Int), x]
 | [], _, _ => by simp [AFC]
 | x :: xs, n, 0 => by simp [AFC]
 | x :: xs, n, i + 1 => by
  have := AI3 xs (n + 1) i
  simp only [AFC, List.getElem?_cons_succ]
  rw [this, show n + 1 + i = n + (i + 1) by omega]
theorem AI5 : ∀ (xs : List T) (n : Nat), (AFC n xs).length = xs.length
 | [], _ => rfl
 | x :: xs, n => by rw [AFC, List.length_cons, List.length_cons, AI5 xs]
end
theorem AUA {prog : Program} {w : World} {A : Around} (hh : A.handled = none) (b : Bool) (it l : Addr) (hne : l ≠ it) (vs : Array Value) :
  Draws prog w A it [it, l] vs.size (fun i v => vs[i]? = some v) (fun i h => IterB b h it l i ∧ SeqB b h l vs) where
 live := fun _ _ st => let ⟨o, ho, _⟩ := st.1.obj; ⟨o, ho⟩
 frame := fun _ _ _ st hk => ⟨st.1.keep fun o e => hk it (by simp) o e, st.2.keep fun o e => hk l (by simp) o e⟩
 item := fun i s Q E hi st hQ => by
  refine ABR st.1 st.2 (x := vs[i]) (by simp [hi]) fun h' hit' hs' => ?_
  exact hQ _ h' s.toks (by simp [hi]) ⟨hit', st.2.keep fun o e => (hs'.2 l hne).trans e⟩ hs'
 done := fun s Q E st hE => ADA hh st.1 st.2 (by simp) hE
theorem AQA (b : Bool) (l : Addr) (items : Array Value) :
  Meets (Builtin.«enumerate.__new__» ⟨[.type "enumerate", .ref l], []⟩) (fun _ R s => SeqB b s.heap l items ∧
   R (.ok (.ret (.ref (s.heap.push { cls := .type (AAI b), data := .fields #[.ref l, .int 0 0] }).objs.size)))
    { s with heap := (s.heap.push { cls := .type (AAI b), data := .fields #[.ref l, .int 0 0] }).push { cls := .type "enumerate", data := .fields #[.none, .bool false, .ref s.heap.objs.size, rawInt 0, .none, .none] } }) :=
 .of_wp fun prog w A R s h => by
  obtain ⟨hp, g, d, tk, os⟩ := s; obtain ⟨hl, h⟩ := h
  have hsub := sub_enumerate
  have hL : SeqB b (Shared.heap ⟨hp, g, d, tk, os⟩) l items := hl
  wp_walk using ADO hL
  refine wpAny_stack_any fun st => wpAny_pure ?_
  split
  ·rename_i c _ _ _ _ _
   cases (c == Value.type "enumerate")
   ·wp_walk using ADO hL
    exact ⟨_, rfl, h⟩
   ·wp_walk using ADO hL
    exact ⟨_, rfl, h⟩
  ·wp_walk using ADO hL
   exact ⟨_, rfl, h⟩
section
variable {prog : Program} {w : World} {A : Around} {E : Value → Shared → Prop} {s : Shared}
theorem AOW {b : Bool} {e it l : Addr} {i : Nat} {items : Array Value} {old : Value} {Q : Option Value → Shared → Prop} (hh : A.handled = none) (he : IsEnum s.heap e it i old) (hit : IterB b s.heap it l i) (hl : SeqB b s.heap l items) (hx : items[i]? = none)
  (hQ : ∀ h', Heap.ExtBut it s.heap h' → Q none { s with heap := h' }) : wpAny (model prog w) A (pyNext (.ref e)) Q E s := by
 have hT : s.TypeIs (.ref e) "enumerate" := ⟨_, he, rfl⟩
 unfold pyNext
 refine wpAny_bind (wpAny_attempt (wpAny_callSpecial?_slot (name := Str.ofString "__next__") hT F.slot_enumerate_next (wpAny_call_entry F.slot_enumerate_next hT F.entry_enumerate_next ?_ (F.args_enumerate_next_1 _))))
 show wpAny _ _ (field (.ref e) 2 >>= _) _ _ _
 refine wpAny_bind (wpAny_field he rfl (x := .ref it) rfl ?_)
 refine wpAny_bind (ADA (A := A.in1) hh hit hl hx fun h' x he' hx' => ?_)
 obtain ⟨o, ho, hc⟩ := hx'
 refine wpAny_bind (wpAny_isInstance (T := "StopIteration") (b := true) ⟨o, ho, hc⟩ isSubtype_stop ?_)
 exact wpAny_pure (hQ _ he')
end
section
variable {X : Cx} {Ek : EK}
def AbM (K : PySem.W.Frag) (b : Bool) (l : Addr) : It :=
 ⟨fun i H => ∃ xs x, SqB b K H l xs ∧ xs[i]? = some x,
  fun i H v H' => ∃ p x, v = .ref p ∧ H p = none ∧ H' = upd H p (.tup [.int (i : Int), x]) ∧ ∀ xs, SqB b K H l xs → xs[i]? = some x,
  fun i H => ∃ xs, SqB b K H l xs ∧ xs.length ≤ i⟩
theorem AMM {P : Program} {w : World} {K : PySem.W.Frag} {elts : List Expr} {k0 : Nat} {pos : Pos} (b : Bool) {e it l : Addr} (hei : e ≠ it) (hle : l ≠ e) (hli : l ≠ it) :
  Turn P w K (.Tuple elts k0 pos) (AbM K b l) [e, it] e (fun n h => (∃ old, IsEnum h e it (n : Int) old) ∧ IterB b h it l n) where
 mem := by simp
 obj := fun n h st a ha => by
  obtain ⟨⟨old, he⟩, hi⟩ := st
  simp only [List.mem_cons, List.not_mem_nil, or_false] at ha
  rcases ha with rfl | rfl
  ·exact ⟨_, he, fun v r => by cases r⟩
  ·exact hi.obj
 keep := fun n h h' st k => by
  obtain ⟨⟨old, he⟩, hi⟩ := st
  exact ⟨⟨old, k e (by simp) _ he⟩, hi.keep fun o q => k it (by simp) o q⟩
 item := by
  intro X hP hw hK hc n pins s σ H E I hf st hg
  subst hP hw hK
  obtain ⟨xs, x, hq, hx⟩ := hg
  obtain ⟨⟨old, he⟩, hit⟩ := st
  obtain ⟨its, r, p⟩ := AAU I hq
  obtain ⟨u, hu, ru⟩ := r.get hx
  have hlt : n < its.toArray.size := by
   have := (List.getElem?_eq_some_iff.mp hu).1
   simpa using this
  have helt : e < s.heap.objs.size := Heap.lt_size he
  have hilt : it < s.heap.objs.size := by obtain ⟨_, y, _⟩ := hit.obj; exact Heap.lt_size y
  refine wpAny_pyNext_enum_itemD (AUA (A := X.A.in1) (I.ok.hd hc) b it l hli its.toArray) he ⟨hit, p⟩ hlt hei (by simp [hei, Ne.symm hle]) fun y h1 tk hy ho st1 hT hsz hk => ⟨_, rfl, ?_⟩
  have hyu : y = u := by
   have h1 : its[n]? = some y := by simpa using hy
   rw [hu] at h1
   exact (Option.some.inj h1).symm
  subst hyu
  refine wpAny_letOwnedTupleGo_enum ho fun h2 he2 sb => ?_
  replace sb : Heap.SameBut e h1 h2 := sb
  have T2 : h2.get? s.heap.objs.size = some { cls := .type "tuple", data := .seq #[.int n tk, y] } := (sb.2 _ (Nat.ne_of_gt helt)).trans hT
  have it2 : IterB b h2 it l (n + 1) := st1.1.keep fun o q => (sb.2 it hei.symm).trans q
  have I2 : L2.Inv X pins σ H { s with heap := h2, toks := tk + 1 } := ALX I hf fun a o a1 a2 q => (sb.2 a a1).trans (hk a o a1 a2 q)
  have fresh : H s.heap.objs.size = none := I.hok.fresh (Nat.le_refl _)
  have I3 := AI6 (p := s.heap.objs.size) (x := .int (n : Int)) (u := .int n tk) I2 T2 fresh I.sz (Nat.ne_of_lt I.lt) (fun a cc q => by
   obtain ⟨w', o, ho, _⟩ := I.cell a cc q
   exact Nat.ne_of_lt (Heap.lt_size ho)) (fun q hq => Nat.ne_of_lt (Heap.lt_size (I.pin q hq).1)) ⟨_, rfl⟩ ru
  refine ⟨.ref s.heap.objs.size, _, I3, rfl, ⟨_, x, rfl, fresh, rfl, fun xs' h => ?_⟩, ⟨⟨_, by simpa using he2⟩, it2⟩, fun a ha => ?_⟩
  ·rw [AGU I h hq]; exact hx
  ·have hne : a ≠ s.heap.objs.size := by
    simp only [List.mem_cons, List.not_mem_nil, or_false] at ha
    rcases ha with rfl | rfl
    ·exact Nat.ne_of_lt helt
    ·exact Nat.ne_of_lt hilt
   rw [C0 hne]; exact (hf a ha).1
 done := by
  intro X hP hw hK hc n pins s σ H E I hf st hg
  subst hP hw hK
  obtain ⟨xs, hq, hx⟩ := hg
  obtain ⟨⟨old, he⟩, hit⟩ := st
  obtain ⟨its, r, p⟩ := AAU I hq
  have e1 := r.length
  refine AOW (I.ok.hd hc) he hit p (by simp; omega) fun h1 hk => ⟨rfl, ?_⟩
  exact ALX (t := s.toks) I hf fun a o _ a2 q => hk a o a2 q
 self := fun _ _ _ _ _ st h => by
  obtain ⟨⟨old, he⟩, _⟩ := st
  exact wpAny_pyIter_enum he h
def AYS (b : Bool) (K : PySem.W.Frag) (ta : TA) : TI := fun σ H R => ta σ H fun vs H1 => ∃ l xs, vs = [.ref l] ∧ SqB b K H1 l xs ∧ R (AbM K b l) H1
theorem ARZ {elts : List Expr} {k0 : Nat} {tp : Pos} {a : Expr} {ta : TA} {p pos : Pos} (b : Bool) (hg : Gl X "enumerate") (hm : X.mg "enumerate" = none) (ha : PA X [a] ta) (hs : starEach [a] X.env = (false, eval a X.env) :: starEach [] X.env) (hpl : (backTo pos (starEach [] X.env)).any (·.1) = false) :
  PI X (.Tuple elts k0 tp) (.Call (.Name "enumerate" p) [a] [] pos) (AYS b X.K ta) := by
 intro pins s σ H R I h
 refine Call_ (AGR I hg hm boot_enumerate (PyProof.Rows.callWith_type1 (thn (ha pos pins s σ H _ I h) fun us s1 ⟨vs, H1, I1, r1, q1⟩ => ?_) hs hpl))
 obtain ⟨l, xs, e, hq, q⟩ := q1
 subst e
 obtain ⟨u1, rfl, ru1⟩ := r1.one
 cases ru1
 obtain ⟨its, r, p⟩ := AAU I1 hq
 have hl : l < s1.heap.objs.size := by
  cases b with
  | false => obtain ⟨_, y, _⟩ := p; exact Heap.lt_size y
  | true => obtain ⟨_, y, _⟩ := p; exact Heap.lt_size y
 refine callType_new F.called_enumerate (by decide) (F.typeCall_enumerate_1 _) (F.newCall_enumerate_1 _) (fun obj => F.args_object_init_2 obj _) F.entry_enumerate_new (AQA b l its.toArray) ⟨p, ?_⟩
 generalize hN : s1.heap.objs.size = N at *
 have z1 : (s1.heap.push { cls := .type (AAI b), data := .fields #[.ref l, .int 0 0] }).objs.size = N + 1 := by rw [Heap.size_push, hN]
 have g1 : ((s1.heap.push { cls := .type (AAI b), data := .fields #[.ref l, .int 0 0] }).push { cls := .type "enumerate", data := .fields #[.none, .bool false, .ref N, rawInt 0, .none, .none] }).get? (N + 1) = some { cls := .type "enumerate", data := .fields #[.none, .bool false, .ref N, rawInt 0, .none, .none] } := by
  rw [← z1]; exact Heap.get?_push_size _ rfl
 have g0 : ((s1.heap.push { cls := .type (AAI b), data := .fields #[.ref l, .int 0 0] }).push { cls := .type "enumerate", data := .fields #[.none, .bool false, .ref N, rawInt 0, .none, .none] }).get? N = some { cls := .type (AAI b), data := .fields #[.ref l, .int 0 0] } := by
  rw [← hN]; exact Heap.get?_push_of_some _ (Heap.get?_push_size _ rfl)
 have old : ∀ a o, s1.heap.get? a = some o → ((s1.heap.push { cls := .type (AAI b), data := .fields #[.ref l, .int 0 0] }).push { cls := .type "enumerate", data := .fields #[.none, .bool false, .ref N, rawInt 0, .none, .none] }).get? a = some o := fun a o e => Heap.get?_push_of_some _ (Heap.get?_push_of_some _ e)
 have it0 : ∀ {h : Heap}, h.get? N = some { cls := .type (AAI b), data := .fields #[.ref l, .int 0 0] } → IterB b h N l 0 := fun {h} e => by
  cases b with
  | false => exact ⟨_, e, rfl, rfl⟩
  | true => exact ⟨_, e, rfl, rfl⟩
 refine ⟨⟨_, by rw [z1]; exact g1, rfl⟩, ?_⟩
 rw [z1]
 refine wpAny_pyIter_enum (it := N) (i := 0) (old := .none) g1 ⟨N + 1, [N + 1, N], _, _, H1, rfl, I1.kept (t' := s1.toks) old, AMM b (Nat.succ_ne_self _) (Nat.ne_of_lt (Nat.lt_succ_of_lt hl)) (Nat.ne_of_lt hl), ⟨⟨.none, g1⟩, it0 g0⟩, fun a ha => ?_, q⟩
 have hle : s1.heap.objs.size ≤ a := by
  rw [hN]
  simp only [List.mem_cons, List.not_mem_nil, or_false] at ha
  rcases ha with rfl | rfl
  ·exact Nat.le_succ _
  ·exact Nat.le_refl _
 exact I1.fpOk hle (I1.hok.fresh hle)
def AV8 (b : Bool) : List T → Option (List T)
 | [x] => (AQM b x).bind fun xs => some (AFC 0 xs)
 | _ => none
theorem ASM {elts : List Expr} {k0 : Nat} {tp : Pos} {a : Expr} {t : FA} {p pos : Pos} (b : Bool) (hg : Gl X "enumerate") (hm : X.mg "enumerate" = none) (ha : JA X Ek [a] t) (hs : starEach [a] X.env = (false, eval a X.env) :: starEach [] X.env) (hpl : (backTo pos (starEach [] X.env)).any (·.1) = false) :
  JI X Ek (.Tuple elts k0 tp) (.Call (.Name "enumerate" p) [a] [] pos) (iN (AV8 b) t) := by
 refine PI.weak (ARZ b hg hm ha hs hpl) fun σ H Q h => ?_
 obtain ⟨ρ, R, h⟩ := h
 refine ⟨ρ, R, D0 (Same.refl H) (fun x hx => ?_) (C7 h)⟩
 intro vs H1 s1 rx
 obtain ⟨ts, e, q⟩ := ACB hx
 match x, e, rx with
 | [tx], e, rx =>
  have e' : ((AQM b tx).bind fun xs => some (AFC 0 xs)) = some ts := e
  cases ex : AQM b tx with
  | none => rw [ex] at e'; cases e'
  | some xs =>
   rw [ex] at e'
   have e'' : AFC 0 xs = ts := Option.some.inj e'
   subst e''
   unfold RepL at rx
   obtain ⟨v, r, rfl, r1, rx⟩ := rx
   unfold RepL at rx
   subst rx
   obtain ⟨l, vx, rfl, q1, l1⟩ := AHL r1 ex
   refine ⟨l, vx, rfl, q1, q _ H1 s1 fun i H2 s2 => ⟨fun t ht => ?_, fun hi => ?_⟩⟩
   ·rw [AI3, Nat.zero_add] at ht
    cases exi : xs[i]? with
    | none => rw [exi] at ht; cases ht
    | some xi =>
     rw [exi] at ht
     have ht' : PyData.tuple [.int (i : Int), xi] = t := Option.some.inj ht
     subst ht'
     obtain ⟨wx, f1, f2⟩ := l1.get exi
     refine ⟨⟨vx, wx, V3 s2 q1, f1⟩, fun x H3 y => ?_⟩
     obtain ⟨p, x1, rfl, n, rfl, k1⟩ := y
     have k3 := k1 vx (V3 s2 q1)
     rw [f1] at k3
     have k5 := Option.some.inj k3
     subst k5
     have sm := E6 n (.tup [.int (i : Int), wx])
     refine ⟨sm, ?_⟩
     unfold Rep
     exact ⟨p, [.int (i : Int), wx], rfl, SqT.of D9, B7 D3 (B7 (Rep.mono (s2.trans sm) xi wx f2) G6)⟩
   ·rw [AI5] at hi
    refine ⟨vx, V3 s2 q1, ?_⟩
    rw [l1.length]
    omega
end
abbrev cx (P : Program) (w : World) (K : PySem.W.Frag) (mg : Str → Option Value) (base : Heap) (N : List Str) (x : Str) (st : Stmt) (f : Addr) (cdv : Value) (A : Around) (outer : List Env) (s : Shared) (H : Hp) (E : XK) : Cx := AB5 (CXE P w base) P w K mg base N x (A6 st) f cdv A outer s H E
abbrev Df (P : Program) (w : World) (K : PySem.W.Frag) (mg : Str → Option Value) (base : Heap) (x : Str) (k n : Nat) (m : List T → R T) : Prop := Dfn (CXE P w base) P w K mg base x k n m
section
variable {X : Cx} {Ek : EK}
theorem vL {N : List Str} (nb : NB N) (i : Nat) {x : Str} {pos : Pos} (hX : X.N = N) (hN : N[i]? = some x) (h : X.env.scope.names.lookup x = some .local) : JE X Ek (.Name x pos) (A3 i) := AFB nb i hX hN (.inl h)
theorem aj1 {e : Expr} {t : FE} (h : JE X Ek e t) (hs : starEach [e] X.env = (false, eval e X.env) :: starEach [] X.env) : JA X Ek [e] (A0 t B2) := C3 h w5 hs
theorem aj2 {e e2 : Expr} {t t2 : FE} (h : JE X Ek e t) (h2 : JE X Ek e2 t2) (hs : starEach [e, e2] X.env = (false, eval e X.env) :: starEach [e2] X.env) (hs2 : starEach [e2] X.env = (false, eval e2 X.env) :: starEach [] X.env) : JA X Ek [e, e2] (A0 t (A0 t2 B2)) := C3 h (aj1 h2 hs2) hs
theorem aj3 {e e2 e3 : Expr} {t t2 t3 : FE} (h : JE X Ek e t) (h2 : JE X Ek e2 t2) (h3 : JE X Ek e3 t3) (hs : starEach [e, e2, e3] X.env = (false, eval e X.env) :: starEach [e2, e3] X.env) (hs2 : starEach [e2, e3] X.env = (false, eval e2 X.env) :: starEach [e3] X.env) (hs3 : starEach [e3] X.env = (false, eval e3 X.env) :: starEach [] X.env) : JA X Ek [e, e2, e3] (A0 t (A0 t2 (A0 t3 B2))) := C3 h (aj2 h2 h3 hs2 hs3) hs
end
def FnX (K : PySem.W.Frag) (x : Str) (st : Stmt) : Prop := ∃ (f : Addr) (od an : Option Addr) (sl : Array (Option Value)) (oc kV dc pm cd ct : Value), PySem.W.nsIn K mainGlobals x = some (some (.ref f)) ∧ K.lookup f = some ⟨oc, od, .func (PySem.W.fnOf x x (AC7 st) (B8 st) (A6 st) .none kV dc pm an cd ct), sl⟩ ∧ PySem.W.codeIn K cd x = true ∧ PySem.W.keepIn K (.ref f) = true
theorem fnX_mk {K : PySem.W.Frag} {x : Str} {st : Stmt} {f : Addr} {od an : Option Addr} {sl : Array (Option Value)} {oc kV dc pm cd ct : Value} (a : PySem.W.nsIn K mainGlobals x = some (some (.ref f))) (l : K.lookup f = some ⟨oc, od, .func (PySem.W.fnOf x x (AC7 st) (B8 st) (A6 st) .none kV dc pm an cd ct), sl⟩) (c : PySem.W.codeIn K cd x = true) (k : PySem.W.keepIn K (.ref f) = true) : FnX K x st := ⟨f, od, an, sl, oc, kV, dc, pm, cd, ct, a, l, c, k⟩
end Tr
end
section
namespace Kw
theorem AT1 (a b : Int) : (b.gcd a) = Nat.gcd a.natAbs b.natAbs := by
 show Nat.gcd b.natAbs a.natAbs = _
 exact Nat.gcd_comm _ _
theorem AZW (a b : Int) (hb : b ≠ 0) : (if b < 0 then -a else a) / ((Nat.gcd a.natAbs b.natAbs : Nat) : Int) = (Rat.divInt a b).num := by
 rw [Rat.num_divInt, AT1]
 congr 1
 by_cases h : b < 0
 ·rw [if_pos h, Int.sign_eq_neg_one_of_neg h]; omega
 ·rw [if_neg h, Int.sign_eq_one_of_pos (by omega)]; omega
theorem AaT (a b : Int) (hb : b ≠ 0) : (if b < 0 then -b else b) / ((Nat.gcd a.natAbs b.natAbs : Nat) : Int) = ((Rat.divInt a b).den : Int) := by
 rw [Rat.den_divInt, if_neg hb, AT1, Int.natCast_ediv]
 congr 1
 split <;> omega
theorem AaH (a b : Int) (hb : b ≠ 0) : (Rat.divInt a b).num.natAbs ≤ a.natAbs := by
 rw [← AZW a b hb]
 refine Nat.le_trans (Int.natAbs_ediv_le_natAbs _ _) ?_
 split <;> omega
theorem Aa6 (a b : Int) (hb : b ≠ 0) : (Rat.divInt a b).den ≤ b.natAbs := by
 rw [Rat.den_divInt, if_neg hb]
 exact Nat.div_le_self _ _
theorem AH8 {b : Int} (h : b ≠ 0) : (b : Rat) ≠ 0 := fun e => h (Rat.intCast_inj.mp (by rw [e]; rfl))
theorem ACP {b : Nat} (h : b ≠ 0) : (b : Rat) ≠ 0 := fun e => h (Rat.natCast_inj.mp (by rw [e]; rfl))
theorem AaQ (r : Rat) : (r.num : Rat) / (r.den : Rat) = r := by
 have h := Rat.num_divInt_den r
 rw [Rat.divInt_eq_div] at h
 rw [Rat.intCast_natCast] at h
 exact h
theorem z9 (r : Rat) : r * (r.den : Rat) = (r.num : Rat) := by
 have h := AaQ r
 have hd := ACP r.den_nz
 grind
def At (r : Rat) (q : Int) (p : Nat) : Prop := ∃ a : Int, r * (q : Rat) = (a : Rat) ∧ a.natAbs ≤ p
theorem AW9 {r : Rat} {q : Int} {p : Nat} (h : At r q p) (hq : q ≠ 0) : ∃ a : Int, r = Rat.divInt a q ∧ a.natAbs ≤ p := by
 obtain ⟨a, e, l⟩ := h
 refine ⟨a, ?_, l⟩
 rw [Rat.divInt_eq_div]
 have := AH8 hq
 grind
theorem APV {r : Rat} {q : Int} {p : Nat} (h : At r q p) (hq : q ≠ 0) : r.num.natAbs ≤ p ∧ r.den ≤ q.natAbs := by
 obtain ⟨a, rfl, l⟩ := AW9 h hq
 exact ⟨Nat.le_trans (AaH a q hq) l, Aa6 a q hq⟩
theorem At.mono {r : Rat} {q : Int} {p p' : Nat} (h : At r q p) (l : p ≤ p') : At r q p' := by
 obtain ⟨a, e, k⟩ := h
 exact ⟨a, e, Nat.le_trans k l⟩
theorem At.add {r s : Rat} {q : Int} {p p' : Nat} (h : At r q p) (k : At s q p') : At (r + s) q (p + p') := by
 obtain ⟨a, e, l⟩ := h
 obtain ⟨b, e', l'⟩ := k
 refine ⟨a + b, ?_, by omega⟩
 rw [Rat.intCast_add]
 grind
theorem At.neg {r : Rat} {q : Int} {p : Nat} (h : At r q p) : At (-r) q p := by
 obtain ⟨a, e, l⟩ := h
 refine ⟨-a, ?_, by omega⟩
 rw [Rat.intCast_neg]
 grind
theorem At.mul {r s : Rat} {q q' : Int} {p p' : Nat} (h : At r q p) (k : At s q' p') : At (r * s) (q * q') (p * p') := by
 obtain ⟨a, e, l⟩ := h
 obtain ⟨b, e', l'⟩ := k
 refine ⟨a * b, ?_, by rw [Int.natAbs_mul]; exact Nat.mul_le_mul l l'⟩
 rw [Rat.intCast_mul, Rat.intCast_mul]
 grind
theorem At.up {r : Rat} {q : Int} {p : Nat} (h : At r q p) (k : Int) : At r (q * k) (p * k.natAbs) := by
 obtain ⟨a, e, l⟩ := h
 refine ⟨a * k, ?_, by rw [Int.natAbs_mul]; exact Nat.mul_le_mul l (Nat.le_refl _)⟩
 rw [Rat.intCast_mul, Rat.intCast_mul]
 grind
theorem At.zero {q : Int} : At 0 q 0 := ⟨0, by rw [Rat.zero_mul]; rfl, Nat.le_refl _⟩
theorem AT3 (r s : Rat) : r + s = Rat.divInt (r.num * (s.den : Int) + s.num * (r.den : Int)) ((r.den : Int) * (s.den : Int)) := by
 rw [Rat.divInt_eq_div, Rat.intCast_add, Rat.intCast_mul, Rat.intCast_mul, Rat.intCast_mul, Rat.intCast_natCast, Rat.intCast_natCast]
 have h1 := z9 r
 have h2 := z9 s
 have h3 := ACP r.den_nz
 have h4 := ACP s.den_nz
 grind
theorem ASZ (r s : Rat) : r * s = Rat.divInt (r.num * s.num) ((r.den : Int) * (s.den : Int)) := by
 rw [Rat.divInt_eq_div, Rat.intCast_mul, Rat.intCast_mul, Rat.intCast_natCast, Rat.intCast_natCast]
 have h1 := z9 r
 have h2 := z9 s
 have h3 := ACP r.den_nz
 have h4 := ACP s.den_nz
 grind
end Kw
end
section
namespace Kw
open PySem hiding start
open PyProof.Rows hiding St
open L2 PySem.Spec Tr
theorem ev0 (x : T) (r : Ev) : A3 0 (some x :: r) = .ok x := rfl
theorem ev1 (o0 : Option T) (x : T) (r : Ev) : A3 1 (o0 :: some x :: r) = .ok x := rfl
theorem ev2 (o0 o1 : Option T) (x : T) (r : Ev) : A3 2 (o0 :: o1 :: some x :: r) = .ok x := rfl
theorem ev3 (o0 o1 o2 : Option T) (x : T) (r : Ev) : A3 3 (o0 :: o1 :: o2 :: some x :: r) = .ok x := rfl
theorem ev4 (o0 o1 o2 o3 : Option T) (x : T) (r : Ev) : A3 4 (o0 :: o1 :: o2 :: o3 :: some x :: r) = .ok x := rfl
theorem ev5 (o0 o1 o2 o3 o4 : Option T) (x : T) (r : Ev) : A3 5 (o0 :: o1 :: o2 :: o3 :: o4 :: some x :: r) = .ok x := rfl
theorem ev6 (o0 o1 o2 o3 o4 o5 : Option T) (x : T) (r : Ev) : A3 6 (o0 :: o1 :: o2 :: o3 :: o4 :: o5 :: some x :: r) = .ok x := rfl
theorem ev7 (o0 o1 o2 o3 o4 o5 o6 : Option T) (x : T) (r : Ev) : A3 7 (o0 :: o1 :: o2 :: o3 :: o4 :: o5 :: o6 :: some x :: r) = .ok x := rfl
theorem ev8 (o0 o1 o2 o3 o4 o5 o6 o7 : Option T) (x : T) (r : Ev) : A3 8 (o0 :: o1 :: o2 :: o3 :: o4 :: o5 :: o6 :: o7 :: some x :: r) = .ok x := rfl
theorem ev9 (o0 o1 o2 o3 o4 o5 o6 o7 o8 : Option T) (x : T) (r : Ev) : A3 9 (o0 :: o1 :: o2 :: o3 :: o4 :: o5 :: o6 :: o7 :: o8 :: some x :: r) = .ok x := rfl
theorem ACJ (o0 o1 o2 o3 o4 o5 o6 o7 o8 o9 : Option T) (x : T) (r : Ev) : A3 10 (o0 :: o1 :: o2 :: o3 :: o4 :: o5 :: o6 :: o7 :: o8 :: o9 :: some x :: r) = .ok x := rfl
theorem ACH (o0 o1 o2 o3 o4 o5 o6 o7 o8 o9 o10 : Option T) (x : T) (r : Ev) : A3 11 (o0 :: o1 :: o2 :: o3 :: o4 :: o5 :: o6 :: o7 :: o8 :: o9 :: o10 :: some x :: r) = .ok x := rfl
def AP5 : T → Bool
 | .dict _ => true
 | _ => false
def AU0 : T → Bool
 | .int _ => true
 | _ => false
def N2 : List T → R T
 | [t] => if AP5 t then .bad else .ok (.bool (AU0 t))
 | _ => .bad
def C5 : List T → R T
 | [.int a, .int b] => if 0 ≤ a ∧ 0 ≤ b then .ok (.int (Nat.gcd a.natAbs b.natAbs : Nat)) else .bad
 | _ => .bad
def K8 : List T → R T := C5
theorem ATA : ∃ G : Int, G = 10000000000000000000000000000000000000000 := ⟨_, rfl⟩
noncomputable def big : Int := Classical.choose ATA
theorem J5 : big = 10000000000000000000000000000000000000000 := Classical.choose_spec ATA
noncomputable def short (a b : Int) : Bool := decide ((a.natAbs : Int) < big) && decide (b < big)
noncomputable def L9 : List T → R T
 | [.int a, .int b] => .ok (.bool (short a b))
 | _ => .bad
noncomputable def AND : T → Bool
 | .tuple [.int a, .int b] => decide (0 < b) && short a b && decide (Nat.gcd a.natAbs b.natAbs = 1)
 | _ => false
def hasDict : T → Bool
 | .dict _ => true
 | .tuple [x, y] => AP5 x || AP5 y
 | _ => false
noncomputable def E4 : List T → R T
 | [t] => cond (hasDict t) .bad (.ok (.bool (AND t)))
 | _ => .bad
theorem AH0 : ∀ ts : List T, okR (E4 ts) = true
 | [] => rfl
 | [t] => by
  show okR (cond (hasDict t) (R.bad : R T) (.ok (PyData.bool (AND t)))) = true
  cases hasDict t <;> rfl
 | _ :: _ :: _ => rfl
noncomputable def AUP (a b : Int) : T :=
 let a' := if b < 0 then -a else a
 let b' := if b < 0 then -b else b
 let g : Int := (Nat.gcd a.natAbs b.natAbs : Nat)
 if short (a' / g) (b' / g) then .tuple [.int (a' / g), .int (b' / g)] else .none
noncomputable def R9 : List T → R T
 | [.int a, .int b] => if b ≠ 0 ∧ b.natAbs.log2 < 9000 then .ok (AUP a b) else .bad
 | _ => .bad
def clR : R T → R T
 | .ex _ (_ :: _) => .bad
 | r => r
theorem E9 {r : R T} {c : Str} {fs : List (Str × T)} (h : clR r = .ex c fs) : fs = [] := by
 cases r with
 | ok a => cases h
 | bad => cases h
 | ex c' fs' =>
  cases fs' with
  | nil => cases h; rfl
  | cons a b => cases h
theorem C8 {r : R T} (h : clR r ≠ .bad) : r = clR r := by
 cases r with
 | ok a => rfl
 | bad => rfl
 | ex c' fs' =>
  cases fs' with
  | nil => rfl
  | cons a b => exact absurd rfl h
noncomputable def Z3 : T := .int big
noncomputable def ADI : FS := (G5 (AAT (e1 (AIC "int") (A3 0)) (e1 AbG (e1 (AIC "bool") (A3 0)))))
noncomputable def n8 : FS := (C4 (ABJ (bV (e2 neT (A3 1) (eC (.int 0)))) (y8 0 1 (A0 (A3 1) (A0 (e2 ABS (A3 0) (A3 1)) B2))))
  (G5 (A3 0)))
noncomputable def ABT : FS := (G5 (AAT (e2 ltT (eN ATE (A0 (A3 0) B2)) (eC Z3)) (e2 ltT (A3 1) (eC Z3))))
noncomputable def S4 : FS := (C4 (sIf (bOr (Y3 (bV (e1 (AIC "tuple") (A3 0)))) (bV (e2 neT (eN AFJ (A0 (A3 0) B2)) (eC (.int 2))))) (G5 (eC (.bool false))) C6)
  (C4 (E7 (Tr.gTup [(Tr.gName 1), (Tr.gName 2)]) (A3 0))
  (C4 (sIf (bOr (Y3 (bV (eF (A5 1 [] N2) (A0 (A3 1) B2)))) (Y3 (bV (eF (A5 1 [] N2) (A0 (A3 2) B2))))) (G5 (eC (.bool false))) C6)
  (G5 (AAT (e2 gtT (A3 2) (eC (.int 0))) (AAT (eF (A5 2 [] L9) (A0 (A3 1) (A0 (A3 2) B2))) (e2 eqT (eF (A5 2 [] C5) (A0 (eN ATE (A0 (A3 1) B2)) (A0 (A3 2) B2))) (eC (.int 1)))))))))
noncomputable def AD0 : FS := (C4 (sIf (bV (e2 ltT (A3 1) (eC (.int 0)))) (y8 0 1 (A0 (e1 AEH (A3 0)) (A0 (e1 AEH (A3 1)) B2))) C6)
  (C4 (E7 (Tr.gName 2) (eF (A5 2 [] C5) (A0 (eN ATE (A0 (A3 0) B2)) (A0 (A3 1) B2))))
  (C4 (y8 0 1 (A0 (e2 M7 (A3 0) (A3 2)) (A0 (e2 M7 (A3 1) (A3 2)) B2)))
  (G5 (eIf (bV (eF (A5 2 [] L9) (A0 (A3 0) (A0 (A3 1) B2)))) (J3 (A0 (A3 0) (A0 (A3 1) B2))) (eC .none))))))
noncomputable def W6 : FS := (sIf (Y3 (bV (eF (A5 1 [] E4) (A0 (A3 0) B2)))) (AB9 "NoNumber" (A0 (eC (.str (Str.ofString "this is no number"))) B2)) C6)
noncomputable def L0 : List T → R T := fun ts => clR (Tr.run 1 W6 ts)
noncomputable def S9 : FS := (C4 (E7 (Tr.gName 3) (e2 J0 (eC (.int 7)) (A3 1)))
  (C4 (sIf (bV (e2 neT (A3 0) (ABC B2))) (C4 (E7 (Tr.gName 3) (e2 ixT (A3 0) (e2 ABS (A3 1) (eN AFJ (A0 (A3 0) B2)))))
  (C4 (E7 (Tr.gName 4) (e2 M7 (A3 1) (eN AFJ (A0 (A3 0) B2))))
  (C4 (sIf (x9 (bV (e2 geT (A3 3) (eC (.int 1000000000000000000)))) (bV (e2 ltT (A3 4) (eC (.int 60))))) (C4 (E7 (Tr.gName 5) (e2 M7 (A3 3) (eC (.int 1000000000000000000))))
  (C4 (ABJ (x9 (bV (e2 gtT (A3 5) (eC (.int 0)))) (bV (e2 gtT (A3 4) (eC (.int 0))))) (C4 (E7 (Tr.gName 5) (e2 M7 (A3 5) (eC (.int 1000000))))
  (E7 (Tr.gName 4) (e2 AC9 (A3 4) (eC (.int 1))))))
  (sIf (bV (e2 gtT (A3 5) (eC (.int 0)))) (G5 (e2 ABS (e2 ABS (A3 5) (eC (.int 1000000))) (A3 2))) C6))) C6)
  (E7 (Tr.gName 3) (e2 t9 (A3 3) (e2 J0 (eC (.int 6553)) (e2 M7 (A3 1) (eN AFJ (A0 (A3 0) B2))))))))) C6)
  (C4 (E7 (Tr.gName 3) (e2 ABS (e2 t9 (e2 J0 (e2 ABS (A3 3) (eC (.int 2147483563))) (eC (.int 69069))) (e2 J0 (eC (.int 104723)) (e2 t9 (A3 1) (eC (.int 1))))) (eC (.int 2147483563))))
  (C4 (E7 (Tr.gName 3) (e2 ABS (e2 t9 (e2 J0 (A3 3) (A3 3)) (e2 M7 (A3 3) (eC (.int 3)))) (eC (.int 2147483399))))
  (G5 (e2 ABS (e2 M7 (e2 ABS (e2 t9 (e2 J0 (A3 3) (A3 3)) (e2 M7 (A3 3) (eC (.int 7)))) (eC (.int 2147483647))) (eC (.int 11))) (A3 2)))))))
noncomputable def G4 : List T → R T := fun ts => clR (Tr.run 6 S9 ts)
noncomputable def m9 : FS := (C4 (ABJ (bV (e2 gtT (A3 1) (eC (.int 0)))) (y8 0 1 (A0 (A3 1) (A0 (e2 ABS (A3 0) (A3 1)) B2))))
  (G5 (A3 0)))
noncomputable def Y4 : FS := (C4 (E7 (Tr.gName 2) (eF (A5 2 [] K8) (A0 (eN ATE (A0 (A3 0) B2)) (A0 (eN ATE (A0 (A3 1) B2)) B2))))
  (C4 (E7 (Tr.gName 2) (eIf (bV (e2 ltT (A3 1) (eC (.int 0)))) (e1 AEH (A3 2)) (A3 2)))
  (G5 (J3 (A0 (e2 M7 (A3 0) (A3 2)) (A0 (e2 M7 (A3 1) (A3 2)) B2))))))
noncomputable def G8 : List T → R T := fun ts => clR (Tr.run 3 Y4 ts)
theorem AKL : ∀ ts : List T, ts.length = 1 → N2 ts ≠ .bad → run 1 ADI ts = N2 ts
 | [t], _, h => by cases t <;> first | rfl | exact absurd rfl h
theorem AQF : ∀ (n m : Nat), ∃ k, L4 (bV (e2 neT (A3 1) (eC (.int 0)))) (y8 0 1 (A0 (A3 1) (A0 (e2 ABS (A3 0) (A3 1)) B2))) k [some (.int (m : Nat)), some (.int (n : Nat))] = some (.nx [some (.int (Nat.gcd m n : Nat)), some (.int 0)]) := by
 intro n
 induction n using Nat.strongRecOn with
 | ind n ih =>
  intro m
  by_cases hn : n = 0
  ·subst hn
   exact ⟨1, by simp only [L4]; rw [show (bV (e2 neT (A3 1) (eC (.int 0)))) [some (.int (m : Nat)), some (.int ((0 : Nat) : Int))] = .ok false from rfl]; simp⟩
  ·obtain ⟨k, hk⟩ := ih (m % n) (Nat.mod_lt _ (Nat.pos_of_ne_zero hn)) n
   refine ⟨k + 1, ?_⟩
   have hb : ((n : Int) == 0) = false := by simpa using hn
   rw [L4]
   rw [show (bV (e2 neT (A3 1) (eC (.int 0)))) [some (.int (m : Nat)), some (.int (n : Nat))] = .ok (!((n : Int) == 0)) from rfl, hb]
   have hm : ABS (.int (m : Nat)) (.int (n : Nat)) = some (.int ((m % n : Nat) : Int)) := by
    show (if (n : Int) = 0 then none else some (PyData.int ((m : Int).fmod (n : Int)))) = _
    rw [if_neg (by omega), Int.fmod_eq_emod_of_nonneg _ (by omega)]
    rfl
   have hs : (y8 0 1 (A0 (A3 1) (A0 (e2 ABS (A3 0) (A3 1)) B2))) [some (.int (m : Nat)), some (.int (n : Nat))] = .nx [some (.int (n : Nat)), some (.int ((m % n : Nat) : Int))] := by
    show M4 ((R.of (ABS (.int (m : Nat)) (.int (n : Nat)))).bind _ |>.bind _) _ = _
    rw [hm]; rfl
   simp only [Bool.not_false, hs]
   rw [hk, Nat.gcd_comm n, ← Nat.gcd_rec, Nat.gcd_comm]
theorem AG3 : ∀ ts : List T, ts.length = 2 → C5 ts ≠ .bad → run 2 n8 ts = C5 ts
 | [x, y], _, h => by
  match x, y, h with
  | .int a, .int b, h =>
   have hc : 0 ≤ a ∧ 0 ≤ b := by
    by_cases hc : 0 ≤ a ∧ 0 ≤ b
    ·exact hc
    ·exact absurd (if_neg hc) h
   show run 2 n8 [.int a, .int b] = if 0 ≤ a ∧ 0 ≤ b then _ else _
   rw [if_pos hc]
   obtain ⟨m, rfl⟩ := Int.eq_ofNat_of_zero_le hc.1
   obtain ⟨n, rfl⟩ := Int.eq_ofNat_of_zero_le hc.2
   obtain ⟨k, hk⟩ := AQF n m
   show fin ((C4 (ABJ _ _) _) [some (.int (m : Nat)), some (.int (n : Nat))]) = _
   unfold C4
   rw [ADC hk]
   rfl
  | .none, _, h => exact absurd rfl h
  | .bool _, _, h => exact absurd rfl h
  | .str _, _, h => exact absurd rfl h
  | .list _, _, h => exact absurd rfl h
  | .tuple _, _, h => exact absurd rfl h
  | .dict _, _, h => exact absurd rfl h
  | .int _, .none, h => exact absurd rfl h
  | .int _, .bool _, h => exact absurd rfl h
  | .int _, .str _, h => exact absurd rfl h
  | .int _, .list _, h => exact absurd rfl h
  | .int _, .tuple _, h => exact absurd rfl h
  | .int _, .dict _, h => exact absurd rfl h
theorem AMT (a : Int) : (if a < 0 then -a else a) = (a.natAbs : Int) := by split <;> omega
theorem AM3 {m : List T → R T} (hm : ∀ x y, m [x, y] ≠ .bad → ∃ a b, x = .int a ∧ y = .int b) {t : FS} (h : ∀ a b, m [.int a, .int b] ≠ .bad → run 2 t [.int a, .int b] = m [.int a, .int b]) : ∀ ts : List T, ts.length = 2 → m ts ≠ .bad → run 2 t ts = m ts
 | [x, y], _, q => by
  obtain ⟨a, b, rfl, rfl⟩ := hm x y q
  exact h a b q
theorem ABK (a b : Int) : ltT (.int a) (.int b) = some (.bool (decide (a < b))) := rfl
theorem AC4 (a b : Int) : gtT (.int a) (.int b) = some (.bool (decide (b < a))) := rfl
theorem AKN (a b : Int) : geT (.int a) (.int b) = some (.bool (decide (b ≤ a))) := rfl
theorem ABU (a : Int) : ATE [.int a] = some (.int (a.natAbs : Int)) := by rw [← AMT]; rfl
theorem AHQ (a : Int) : AEH (.int a) = some (.int (-a)) := rfl
theorem AKH (a b : Int) : eqT (.int a) (.int b) = some (.bool (a == b)) := rfl
theorem AL0 (a b : Int) : neT (.int a) (.int b) = some (.bool (!(a == b))) := rfl
theorem AKY : ∀ ts : List T, ts.length = 2 → L9 ts ≠ .bad → Tr.run 2 ABT ts = L9 ts := by
 refine AM3 (fun x y h => ?_) fun a b _ => ?_
 ·cases x with
  | int a => cases y with
   | int b => exact ⟨a, b, rfl, rfl⟩
   | _ => exact absurd rfl h
  | _ => exact absurd rfl h
 ·simp only [ABT, Tr.run, O4, List.map_cons, List.map_nil, List.length_cons, List.length_nil, List.replicate_succ, List.replicate_zero, List.cons_append, List.nil_append, List.append_nil, Nat.sub_self, Nat.zero_add, Nat.reduceAdd, Nat.reduceSub, List.replicate, C4, sIf, G5, U4, M4, E7, y8, C6, K5, Tr.gName, List.set_cons_zero, List.set_cons_succ, Tr.e1, Tr.e2, eN, eF, eC, A0, B2, eIf, bV, x9, bOr, Y3, AAT, eOr, R.bind, R.of, ev0, ev1, ev2, ev3, ev4, ev5, ev6, ev7, ev8, ev9, ACJ, ACH, A5, N8, fin, Option.map_some, Option.map_none, ite_true, ite_false, Bool.not_true, Bool.not_false, if_true, if_false, Bool.false_eq_true, not_true_eq_false, not_false_eq_true, ABU, ABK, Z3, L9, short]
  cases decide ((a.natAbs : Int) < big) <;> rfl
theorem AUN (m n : Nat) : (((Nat.gcd m n : Nat) : Int) == 1) = decide (Nat.gcd m n = 1) := by
 rw [Bool.eq_iff_iff, beq_iff_eq, decide_eq_true_iff]; omega
theorem AQ7 (a b : Int) : Tr.run 3 S4 [.tuple [.int a, .int b]] = .ok (.bool (AND (.tuple [.int a, .int b]))) := by
 have l2 : AFJ [.tuple [.int a, .int b]] = some (.int 2) := rfl
 have g : Tr.gTup [Tr.gName 1, Tr.gName 2] (.tuple [.int a, .int b]) [some (.tuple [.int a, .int b]), none, none] = some [some (.tuple [.int a, .int b]), some (.int a), some (.int b)] := rfl
 have w : ∀ i : Int, N2 [.int i] = .ok (.bool true) := fun _ => rfl
 have s2 : L9 [.int a, .int b] = .ok (.bool (short a b)) := rfl
 have it : AIC "tuple" (.tuple [.int a, .int b]) = some (.bool true) := rfl
 have n2 : ((2 : Int) == 2) = true := rfl
 simp only [S4, Tr.run, O4, List.map_cons, List.map_nil, List.length_cons, List.length_nil, List.replicate_succ, List.replicate_zero, List.cons_append, List.nil_append, List.append_nil, Nat.sub_self, Nat.zero_add, Nat.reduceAdd, Nat.reduceSub, List.replicate, C4, sIf, G5, U4, M4, E7, y8, C6, K5, Tr.gName, List.set_cons_zero, List.set_cons_succ, Tr.e1, Tr.e2, eN, eF, eC, A0, B2, eIf, bV, x9, bOr, Y3, AAT, eOr, R.bind, R.of, ev0, ev1, ev2, ev3, ev4, ev5, ev6, ev7, ev8, ev9, ACJ, ACH, A5, N8, fin, Option.map_some, Option.map_none, ite_true, ite_false, Bool.not_true, Bool.not_false, if_true, if_false, Bool.false_eq_true, not_true_eq_false, not_false_eq_true, l2, AL0, it, n2, g, w, s2, AC4, ABU, AND]
 by_cases hb : 0 < b
 ·have c2 : C5 [.int (a.natAbs : Int), .int b] = .ok (.int (Nat.gcd a.natAbs b.natAbs : Nat)) := by
   show (if 0 ≤ (a.natAbs : Int) ∧ 0 ≤ b then _ else _) = _
   rw [if_pos ⟨by omega, by omega⟩]; rfl
  simp only [hb, c2, AKH, AUN, decide_true]
  cases short a b <;> rfl
 ·simp only [hb, decide_false]
  rfl
theorem AIW : ∀ ts : List T, ts.length = 1 → E4 ts ≠ .bad → Tr.run 3 S4 ts = E4 ts
 | [t], _, h => by
  cases t with
  | dict _ => exact absurd rfl h
  | none => rfl
  | bool _ => rfl
  | int _ => rfl
  | str _ => rfl
  | list _ => rfl
  | tuple xs =>
   match xs, h with
   | [], h => rfl
   | [x], h => cases x <;> rfl
   | x :: y :: z :: r, h =>
    have e : Tr.run 3 S4 [.tuple (x :: y :: z :: r)] = .ok (.bool false) := by
     have l3 : AFJ [.tuple (x :: y :: z :: r)] = some (.int ((r.length + 3 : Nat) : Int)) := rfl
     have n3 : (((r.length + 3 : Nat) : Int) == 2) = false := by rw [beq_eq_false_iff_ne]; omega
     have it : AIC "tuple" (.tuple (x :: y :: z :: r)) = some (.bool true) := rfl
     simp only [S4, Tr.run, O4, List.map_cons, List.map_nil, List.length_cons, List.length_nil, List.replicate_succ, List.replicate_zero, List.cons_append, List.nil_append, List.append_nil, Nat.sub_self, Nat.zero_add, Nat.reduceAdd, Nat.reduceSub, List.replicate, C4, sIf, G5, U4, M4, E7, y8, C6, K5, Tr.gName, List.set_cons_zero, List.set_cons_succ, Tr.e1, Tr.e2, eN, eF, eC, A0, B2, eIf, bV, x9, bOr, Y3, AAT, eOr, R.bind, R.of, ev0, ev1, ev2, ev3, ev4, ev5, ev6, ev7, ev8, ev9, ACJ, ACH, A5, N8, fin, Option.map_some, Option.map_none, ite_true, ite_false, Bool.not_true, Bool.not_false, if_true, if_false, Bool.false_eq_true, not_true_eq_false, not_false_eq_true, l3, AL0, n3, it]
    rw [e]
    first | rfl | (cases x <;> first | rfl | (cases y <;> first | rfl | exact absurd rfl h))
   | [x, y], h =>
    have hd : hasDict (.tuple [x, y]) = false := by
     cases e : hasDict (.tuple [x, y]) with
     | false => rfl
     | true =>
      refine absurd ?_ h
      show cond (hasDict (.tuple [x, y])) (R.bad : R T) _ = _
      rw [e]; rfl
    have hm : E4 [.tuple [x, y]] = .ok (.bool (AND (.tuple [x, y]))) := by
     show cond (hasDict (.tuple [x, y])) (R.bad : R T) _ = _
     rw [hd]; rfl
    rw [hm]
    cases x with
    | int a => cases y with
     | int b => exact AQ7 _ _
     | dict _ => exact absurd hd Bool.noConfusion
     | _ => rfl
    | dict _ => exact absurd hd Bool.noConfusion
    | _ => rfl
theorem ACM (a : Int) {g : Nat} (h0 : 0 < g) (h : g.log2 < 9000) : M7 (.int a) (.int (g : Nat)) = some (.int (a / (g : Int))) := by
 show (if (g : Int) = 0 ∨ ¬ (g : Int).natAbs.log2 < 9000 then none else some (PyData.int (a.fdiv (g : Int)))) = _
 rw [if_neg (by rw [Int.natAbs_natCast]; omega), Int.fdiv_eq_ediv_of_nonneg _ (by omega)]
theorem AQ2 {g n : Nat} (h : g ≤ n) : g.log2 ≤ n.log2 := by
 by_cases hg : g = 0
 ·rw [hg]; exact Nat.zero_le _
 ·exact (Nat.le_log2 (by omega)).mpr (Nat.le_trans (Nat.log2_self_le hg) h)
theorem AOE : ∀ ts : List T, ts.length = 2 → R9 ts ≠ .bad → Tr.run 3 AD0 ts = R9 ts := by
 intro ts hl h
 match ts, hl, h with
 | [x, y], _, h =>
  have hx : ∃ a b, x = .int a ∧ y = .int b := by
   cases x with
    | int a => cases y with
     | int b => exact ⟨a, b, rfl, rfl⟩
     | _ => exact absurd rfl h
    | _ => exact absurd rfl h
  obtain ⟨a, b, rfl, rfl⟩ := hx
  have hc : b ≠ 0 ∧ b.natAbs.log2 < 9000 := by
   by_cases hc : b ≠ 0 ∧ b.natAbs.log2 < 9000
   ·exact hc
   ·exact absurd (if_neg hc) h
  have hm : R9 [.int a, .int b] = .ok (AUP a b) := if_pos hc
  rw [hm]
  have core : ∀ c d : Int, 0 < d → d.natAbs.log2 < 9000 → c.natAbs = a.natAbs → d.natAbs = b.natAbs →
    C5 [.int (c.natAbs : Int), .int d] = .ok (.int (Nat.gcd a.natAbs b.natAbs : Nat)) ∧ M7 (.int c) (.int (Nat.gcd a.natAbs b.natAbs : Nat)) = some (.int (c / (Nat.gcd a.natAbs b.natAbs : Nat))) ∧ M7 (.int d) (.int (Nat.gcd a.natAbs b.natAbs : Nat)) = some (.int (d / (Nat.gcd a.natAbs b.natAbs : Nat))) := by
   intro c d hd hl e1 e2
   have hb0 : 0 < b.natAbs := by omega
   have hg : 0 < Nat.gcd a.natAbs b.natAbs := Nat.gcd_pos_of_pos_right _ hb0
   have hgl : (Nat.gcd a.natAbs b.natAbs).log2 < 9000 := Nat.lt_of_le_of_lt (AQ2 (Nat.le_of_dvd hb0 (Nat.gcd_dvd_right _ _))) hc.2
   refine ⟨?_, ACM c hg hgl, ACM d hg hgl⟩
   show (if 0 ≤ (c.natAbs : Int) ∧ 0 ≤ d then _ else _) = _
   rw [if_pos ⟨by omega, by omega⟩, Int.natAbs_natCast, e1, e2]
  have sm : ∀ u v : Int, L9 [.int u, .int v] = .ok (.bool (short u v)) := fun _ _ => rfl
  have t2 : ∀ u v : T, J3 (A0 (A3 0) (A0 (A3 1) B2)) [some u, some v, some (.int (Nat.gcd a.natAbs b.natAbs : Nat))] = .ok (.tuple [u, v]) := fun _ _ => rfl
  by_cases hb : b < 0
  ·obtain ⟨c1, c2, c3⟩ := core (-a) (-b) (by omega) (by rw [Int.natAbs_neg]; exact hc.2) (Int.natAbs_neg a) (Int.natAbs_neg b)
   simp only [AD0, Tr.run, O4, List.map_cons, List.map_nil, List.length_cons, List.length_nil, List.replicate_succ, List.replicate_zero, List.cons_append, List.nil_append, List.append_nil, Nat.sub_self, Nat.zero_add, Nat.reduceAdd, Nat.reduceSub, List.replicate, C4, sIf, G5, U4, M4, E7, y8, C6, K5, Tr.gName, List.set_cons_zero, List.set_cons_succ, Tr.e1, Tr.e2, eN, eF, eC, A0, B2, eIf, bV, x9, bOr, Y3, AAT, eOr, R.bind, R.of, ev0, ev1, ev2, ev3, ev4, ev5, ev6, ev7, ev8, ev9, ACJ, ACH, A5, N8, fin, Option.map_some, Option.map_none, ite_true, ite_false, Bool.not_true, Bool.not_false, if_true, if_false, Bool.false_eq_true, not_true_eq_false, not_false_eq_true, ABK, hb, decide_true, AHQ, ABU, c1, c2, c3, sm, t2, AUP]
   cases short (-a / (Nat.gcd a.natAbs b.natAbs : Nat)) (-b / (Nat.gcd a.natAbs b.natAbs : Nat)) <;> rfl
  ·obtain ⟨c1, c2, c3⟩ := core a b (by omega) hc.2 rfl rfl
   simp only [AD0, Tr.run, O4, List.map_cons, List.map_nil, List.length_cons, List.length_nil, List.replicate_succ, List.replicate_zero, List.cons_append, List.nil_append, List.append_nil, Nat.sub_self, Nat.zero_add, Nat.reduceAdd, Nat.reduceSub, List.replicate, C4, sIf, G5, U4, M4, E7, y8, C6, K5, Tr.gName, List.set_cons_zero, List.set_cons_succ, Tr.e1, Tr.e2, eN, eF, eC, A0, B2, eIf, bV, x9, bOr, Y3, AAT, eOr, R.bind, R.of, ev0, ev1, ev2, ev3, ev4, ev5, ev6, ev7, ev8, ev9, ACJ, ACH, A5, N8, fin, Option.map_some, Option.map_none, ite_true, ite_false, Bool.not_true, Bool.not_false, if_true, if_false, Bool.false_eq_true, not_true_eq_false, not_false_eq_true, ABK, hb, decide_false, AHQ, ABU, c1, c2, c3, sm, t2, AUP]
   cases short (a / (Nat.gcd a.natAbs b.natAbs : Nat)) (b / (Nat.gcd a.natAbs b.natAbs : Nat)) <;> rfl
end Kw
end
section
namespace Kw
open PySem hiding start
open PyProof.Rows hiding St
open L2 PySem.Spec Tr PySem.NumText
theorem AIX {n : Nat} (h : (n : Int) < big) : n.log2 < 400 := by
 rw [J5] at h
 by_cases hn : n = 0
 ·subst hn; exact Nat.lt_of_le_of_lt (Nat.le_refl _) (by decide +kernel)
 ·refine (Nat.log2_lt hn).mpr (Nat.lt_of_lt_of_le (m := 10000000000000000000000000000000000000000) (by omega) (by decide +kernel))
theorem AUU {t : T} (h : E4 [t] = .ok (.bool true)) : L0 [t] = .ok .none := by
 show clR (fin (W6 [some t])) = _
 simp only [W6, Tr.run, C4, sIf, G5, U4, M4, E7, y8, C6, K5, Tr.gName, List.set_cons_zero, List.set_cons_succ, Tr.e1, Tr.e2, eN, eF, eC, A0, B2, eIf, bV, x9, bOr, Y3, AAT, eOr, eM, M5, R.bind, R.of, ev0, ev1, ev2, ev3, ev4, ev5, ev6, ev7, ev8, ev9, ACJ, ACH, A5, N8, fin, ite_true, ite_false, Bool.not_true, Bool.not_false, if_true, if_false, Bool.false_eq_true, List.length_cons, List.length_nil, Nat.reduceAdd, Nat.zero_add, List.append_nil, h]
 rfl
theorem Z7 (i : Int) {j : Int} (h : 0 < j) : ABS (.int i) (.int j) = some (.int (i % j)) := by
 show (if j = 0 then none else some (PyData.int (i.fmod j))) = _
 rw [if_neg (by omega), Int.fmod_eq_emod_of_nonneg _ (by omega)]
theorem ACC (i : Int) {j : Int} (h : 0 < j) (hl : j < 2 ^ 63) : M7 (.int i) (.int j) = some (.int (i / j)) := by
 have hlog : j.natAbs.log2 < 9000 := by
  have : j.natAbs < 2 ^ 63 := by omega
  exact Nat.lt_trans ((Nat.log2_lt (by omega)).mpr this) (by decide)
 show (if j = 0 ∨ ¬ j.natAbs.log2 < 9000 then none else some (PyData.int (i.fdiv j))) = _
 rw [if_neg (fun z => z.elim (fun e => by omega) fun e => e hlog), Int.fdiv_eq_ediv_of_nonneg _ (by omega)]
theorem AGA {i : Int} (j : Int) (h1 : -(2 ^ 64) < i) (h2 : i < 2 ^ 64) : J0 (.int i) (.int j) = some (.int (i * j)) := by
 show (if CMulG i j then some (PyData.int (i * j)) else none) = _
 rw [if_pos (.inl (.inl ⟨h1, h2⟩))]
theorem AH6 (i j : Int) : t9 (.int i) (.int j) = some (.int (i + j)) := rfl
theorem ARJ (i j : Int) : AC9 (.int i) (.int j) = some (.int (i - j)) := rfl
noncomputable def AUC : FS := (C4 (E7 (Tr.gName 3) (e2 ABS (e2 t9 (e2 J0 (e2 ABS (A3 3) (eC (.int 2147483563))) (eC (.int 69069))) (e2 J0 (eC (.int 104723)) (e2 t9 (A3 1) (eC (.int 1))))) (eC (.int 2147483563))))
  (C4 (E7 (Tr.gName 3) (e2 ABS (e2 t9 (e2 J0 (A3 3) (A3 3)) (e2 M7 (A3 3) (eC (.int 3)))) (eC (.int 2147483399))))
  (G5 (e2 ABS (e2 M7 (e2 ABS (e2 t9 (e2 J0 (A3 3) (A3 3)) (e2 M7 (A3 3) (eC (.int 7)))) (eC (.int 2147483647))) (eC (.int 11))) (A3 2)))))
theorem AK7 (o0 o4 o5 : Option T) (c k many : Int) (hm : 0 < many) : ∃ d, AUC [o0, some (.int k), some (.int many), some (.int c), o4, o5] = .rt (.int d) ∧ 0 ≤ d ∧ d < many := by
 have r1 : ∀ u : Int, 0 ≤ u % 2147483563 ∧ u % 2147483563 < 2147483563 := fun u => ⟨Int.emod_nonneg _ (by decide), Int.emod_lt_of_pos _ (by decide)⟩
 have r2 : ∀ u : Int, 0 ≤ u % 2147483399 ∧ u % 2147483399 < 2147483399 := fun u => ⟨Int.emod_nonneg _ (by decide), Int.emod_lt_of_pos _ (by decide)⟩
 have m1 : J0 (.int (c % 2147483563)) (.int 69069) = some (.int (c % 2147483563 * 69069)) := AGA _ (by have := (r1 c).1; omega) (by have := (r1 c).2; omega)
 have m2 : J0 (.int 104723) (.int (k + 1)) = some (.int (104723 * (k + 1))) := AGA _ (by decide) (by decide)
 generalize hc1 : (c % 2147483563 * 69069 + 104723 * (k + 1)) % 2147483563 = c1
 have b1 : 0 ≤ c1 ∧ c1 < 2147483563 := by rw [← hc1]; exact r1 _
 have m3 : J0 (.int c1) (.int c1) = some (.int (c1 * c1)) := AGA _ (by omega) (by omega)
 generalize hc2 : (c1 * c1 + c1 / 3) % 2147483399 = c2
 have b2 : 0 ≤ c2 ∧ c2 < 2147483399 := by rw [← hc2]; exact r2 _
 have m4 : J0 (.int c2) (.int c2) = some (.int (c2 * c2)) := AGA _ (by omega) (by omega)
 refine ⟨(c2 * c2 + c2 / 7) % 2147483647 / 11 % many, ?_, Int.emod_nonneg _ (by omega), Int.emod_lt_of_pos _ hm⟩
 simp only [AUC, Tr.run, C4, sIf, G5, U4, M4, E7, y8, C6, K5, Tr.gName, List.set_cons_zero, List.set_cons_succ, Tr.e1, Tr.e2, eN, eF, eC, A0, B2, eIf, bV, x9, bOr, Y3, AAT, eOr, eM, M5, R.bind, R.of, ev0, ev1, ev2, ev3, ev4, ev5, ev6, ev7, ev8, ev9, ACJ, ACH, A5, N8, fin, ite_true, ite_false, Bool.not_true, Bool.not_false, if_true, if_false, Bool.false_eq_true, List.length_cons, List.length_nil, Nat.reduceAdd, Nat.zero_add, List.append_nil, Z7 c (show (0 : Int) < 2147483563 by decide), m1, m2, AH6, Z7 _ (show (0 : Int) < 2147483563 by decide), hc1, m3, ACC c1 (show (0 : Int) < 3 by decide) (by decide), Z7 _ (show (0 : Int) < 2147483399 by decide), hc2, m4, ACC c2 (show (0 : Int) < 7 by decide) (by decide), Z7 _ (show (0 : Int) < 2147483647 by decide), ACC _ (show (0 : Int) < 11 by decide) (by decide), Z7 _ hm]
theorem AMD (o0 o1 o2 o3 : Option T) : ∀ (n : Nat) (r : Int), ∃ (k : Nat) (r' t' : Int), L4 (x9 (bV (e2 gtT (A3 5) (eC (.int 0)))) (bV (e2 gtT (A3 4) (eC (.int 0))))) (C4 (E7 (Tr.gName 5) (e2 M7 (A3 5) (eC (.int 1000000))))
  (E7 (Tr.gName 4) (e2 AC9 (A3 4) (eC (.int 1))))) k [o0, o1, o2, o3, some (.int (n : Nat)), some (.int r)] = some (.nx [o0, o1, o2, o3, some (.int t'), some (.int r')]) := by
 intro n
 induction n with
 | zero =>
  intro r
  refine ⟨1, r, 0, ?_⟩
  have hb : decide ((0 : Int) < ((0 : Nat) : Int)) = false := by decide
  rw [L4]
  simp only [Tr.run, C4, sIf, G5, U4, M4, E7, y8, C6, K5, Tr.gName, List.set_cons_zero, List.set_cons_succ, Tr.e1, Tr.e2, eN, eF, eC, A0, B2, eIf, bV, x9, bOr, Y3, AAT, eOr, eM, M5, R.bind, R.of, ev0, ev1, ev2, ev3, ev4, ev5, ev6, ev7, ev8, ev9, ACJ, ACH, A5, N8, fin, ite_true, ite_false, Bool.not_true, Bool.not_false, if_true, if_false, Bool.false_eq_true, List.length_cons, List.length_nil, Nat.reduceAdd, Nat.zero_add, List.append_nil, AC4]
  cases decide (0 < r) <;> rfl
 | succ n ih =>
  intro r
  by_cases hr : 0 < r
  ·obtain ⟨k, r', t', hk⟩ := ih (r / 1000000)
   refine ⟨k + 1, r', t', ?_⟩
   have hn : decide ((0 : Int) < ((n + 1 : Nat) : Int)) = true := decide_eq_true (by omega)
   have hs : (((n + 1 : Nat) : Int) - 1) = (n : Int) := by omega
   rw [L4]
   simp only [Tr.run, C4, sIf, G5, U4, M4, E7, y8, C6, K5, Tr.gName, List.set_cons_zero, List.set_cons_succ, Tr.e1, Tr.e2, eN, eF, eC, A0, B2, eIf, bV, x9, bOr, Y3, AAT, eOr, eM, M5, R.bind, R.of, ev0, ev1, ev2, ev3, ev4, ev5, ev6, ev7, ev8, ev9, ACJ, ACH, A5, N8, fin, ite_true, ite_false, Bool.not_true, Bool.not_false, if_true, if_false, Bool.false_eq_true, List.length_cons, List.length_nil, Nat.reduceAdd, Nat.zero_add, List.append_nil, AC4, hr, decide_true, hn, ACC r (show (0 : Int) < 1000000 by decide) (by decide), ARJ, hs]
   exact hk
  ·refine ⟨1, r, ((n + 1 : Nat) : Int), ?_⟩
   rw [L4]
   simp only [Tr.run, C4, sIf, G5, U4, M4, E7, y8, C6, K5, Tr.gName, List.set_cons_zero, List.set_cons_succ, Tr.e1, Tr.e2, eN, eF, eC, A0, B2, eIf, bV, x9, bOr, Y3, AAT, eOr, eM, M5, R.bind, R.of, ev0, ev1, ev2, ev3, ev4, ev5, ev6, ev7, ev8, ev9, ACJ, ACH, A5, N8, fin, ite_true, ite_false, Bool.not_true, Bool.not_false, if_true, if_false, Bool.false_eq_true, List.length_cons, List.length_nil, Nat.reduceAdd, Nat.zero_add, List.append_nil, AC4, hr, decide_false]
mutual
theorem AFI : ∀ ns : List Int, PyData.canLayAll0 (ns.map PyData.int) = true ∧ PyData.depthAll (ns.map PyData.int) = 0
 | [] => ⟨rfl, rfl⟩
 | n :: r => by
  obtain ⟨h1, h2⟩ := AFI r
  refine ⟨?_, ?_⟩
  ·show (PyData.canLay0 (.int n) && PyData.canLayAll0 (r.map PyData.int)) = true
   rw [h1]; rfl
  ·show max (PyData.depth (.int n)) (PyData.depthAll (r.map PyData.int)) = 0
   rw [h2]; rfl
end
theorem AKE (ns : List Int) : SeqAt.shaped (.list (ns.map PyData.int)) = true := by
 obtain ⟨h1, h2⟩ := AFI ns
 show (PyData.canLayAll0 (ns.map PyData.int) && decide (PyData.depthAll (ns.map PyData.int) + 1 ≤ 64)) = true
 rw [h1, h2]; rfl
theorem ASV (ns : List Int) : neT (.list (ns.map PyData.int)) (.list []) = some (.bool (!ns.isEmpty)) := by
 have e : eqB (.list (ns.map PyData.int)) (.list []) = some ns.isEmpty := by
  show (if (SeqAt.shaped (.list (ns.map PyData.int)) && SeqAt.shaped (.list [])) = true then some (PyData.eqv (.list (ns.map PyData.int)) (.list [])) else none) = _
  rw [AKE]
  cases ns <;> rfl
 unfold Tr.neT
 rw [e]; rfl
noncomputable def AYY : FS := (ABJ (x9 (bV (e2 gtT (A3 5) (eC (.int 0)))) (bV (e2 gtT (A3 4) (eC (.int 0))))) (C4 (E7 (Tr.gName 5) (e2 M7 (A3 5) (eC (.int 1000000))))
  (E7 (Tr.gName 4) (e2 AC9 (A3 4) (eC (.int 1))))))
theorem AEL : S9 = (C4 (E7 (Tr.gName 3) (e2 J0 (eC (.int 7)) (A3 1)))
  (C4 (sIf (bV (e2 neT (A3 0) (ABC B2))) (C4 (E7 (Tr.gName 3) (e2 ixT (A3 0) (e2 ABS (A3 1) (eN AFJ (A0 (A3 0) B2)))))
  (C4 (E7 (Tr.gName 4) (e2 M7 (A3 1) (eN AFJ (A0 (A3 0) B2))))
  (C4 (sIf (x9 (bV (e2 geT (A3 3) (eC (.int 1000000000000000000)))) (bV (e2 ltT (A3 4) (eC (.int 60))))) (C4 (E7 (Tr.gName 5) (e2 M7 (A3 3) (eC (.int 1000000000000000000))))
  (C4 AYY
  (sIf (bV (e2 gtT (A3 5) (eC (.int 0)))) (G5 (e2 ABS (e2 ABS (A3 5) (eC (.int 1000000))) (A3 2))) C6))) C6)
  (E7 (Tr.gName 3) (e2 t9 (A3 3) (e2 J0 (eC (.int 6553)) (e2 M7 (A3 1) (eN AFJ (A0 (A3 0) B2))))))))) C6)
  AUC)) := rfl
theorem n9 (ns : List Int) (k many : Int) (hk : 0 ≤ k) (hm : 0 < many) (hl : ns.length ≤ 63) : ∃ d, G4 [.list (ns.map PyData.int), .int k, .int many] = .ok (.int d) ∧ 0 ≤ d ∧ d < many := by
 have fin1 : ∀ {d : Int}, S9 [some (.list (ns.map PyData.int)), some (.int k), some (.int many), none, none, none] = .rt (.int d) → G4 [.list (ns.map PyData.int), .int k, .int many] = .ok (.int d) := fun {d} h => by
  show clR (fin (S9 [some (.list (ns.map PyData.int)), some (.int k), some (.int many), none, none, none])) = _
  rw [h]; rfl
 have m7 : J0 (.int 7) (.int k) = some (.int (7 * k)) := AGA _ (by decide) (by decide)
 have el : ABC B2 = fun _ => .ok (.list []) := rfl
 by_cases hn : ns = []
 ·subst hn
  obtain ⟨d, h1, h2, h3⟩ := AK7 (some (.list [])) none none (7 * k) k many hm
  refine ⟨d, fin1 ?_, h2, h3⟩
  have nn := ASV []
  simp only [List.map_nil, List.isEmpty_nil, Bool.not_true] at nn
  rw [← h1]
  simp only [AEL, List.map_nil, Tr.run, C4, sIf, G5, U4, M4, E7, y8, C6, K5, Tr.gName, List.set_cons_zero, List.set_cons_succ, Tr.e1, Tr.e2, eN, eF, eC, A0, B2, eIf, bV, x9, bOr, Y3, AAT, eOr, eM, M5, R.bind, R.of, ev0, ev1, ev2, ev3, ev4, ev5, ev6, ev7, ev8, ev9, ACJ, ACH, A5, N8, fin, ite_true, ite_false, Bool.not_true, Bool.not_false, if_true, if_false, Bool.false_eq_true, List.length_cons, List.length_nil, Nat.reduceAdd, Nat.zero_add, List.append_nil, m7, el, nn]
 ·have nn := ASV ns
  have ie : ns.isEmpty = false := by cases ns with | nil => exact absurd rfl hn | cons a b => rfl
  rw [ie, Bool.not_false] at nn
  have hlen : 0 < ns.length := List.length_pos_iff.mpr hn
  have ln : AFJ [.list (ns.map PyData.int)] = some (.int (ns.length : Nat)) := by show some (PyData.int (((ns.map PyData.int).length : Nat) : Int)) = _; rw [List.length_map]
  have hj0 : 0 ≤ k % (ns.length : Int) := Int.emod_nonneg _ (by omega)
  have hj1 : k % (ns.length : Int) < ns.length := Int.emod_lt_of_pos _ (by omega)
  obtain ⟨j, hj⟩ := Int.eq_ofNat_of_zero_le hj0
  have hjl : j < ns.length := by omega
  have ix : ixT (.list (ns.map PyData.int)) (.int (k % (ns.length : Int))) = some (.int ns[j]) := by
   show atI (ns.map PyData.int) (k % (ns.length : Int)) = _
   rw [hj]
   exact AOJ (by rw [List.getElem?_map, List.getElem?_eq_getElem hjl]; rfl)
  have hT : 0 ≤ k / (ns.length : Int) := Int.ediv_nonneg hk (by omega)
  obtain ⟨n, hnT⟩ := Int.eq_ofNat_of_zero_le hT
  have fd : M7 (.int k) (.int (ns.length : Nat)) = some (.int (n : Nat)) := by rw [ACC k (by omega) (by omega), hnT]
  have md : ABS (.int k) (.int (ns.length : Nat)) = some (.int (k % (ns.length : Int))) := Z7 k (by omega)
  have m65 : J0 (.int 6553) (.int (n : Nat)) = some (.int (6553 * (n : Int))) := AGA _ (by decide) (by decide)
  generalize hcell : ns[j] = cell at ix
  by_cases hc : decide (1000000000000000000 ≤ cell) = true ∧ decide (((n : Nat) : Int) < 60) = true
  ·obtain ⟨kk, r', t', hw⟩ := AMD (some (.list (ns.map PyData.int))) (some (.int k)) (some (.int many)) (some (.int cell)) n (cell / 1000000000000000000)
   have hw' : AYY [some (.list (ns.map PyData.int)), some (.int k), some (.int many), some (.int cell), some (.int (n : Nat)), some (.int (cell / 1000000000000000000))] = _ := ADC hw
   by_cases hr : 0 < r'
   ·refine ⟨r' % 1000000 % many, fin1 ?_, Int.emod_nonneg _ (by omega), Int.emod_lt_of_pos _ hm⟩
    simp only [AEL, Tr.run, C4, sIf, G5, U4, M4, E7, y8, C6, K5, Tr.gName, List.set_cons_zero, List.set_cons_succ, Tr.e1, Tr.e2, eN, eF, eC, A0, B2, eIf, bV, x9, bOr, Y3, AAT, eOr, eM, M5, R.bind, R.of, ev0, ev1, ev2, ev3, ev4, ev5, ev6, ev7, ev8, ev9, ACJ, ACH, A5, N8, fin, ite_true, ite_false, Bool.not_true, Bool.not_false, if_true, if_false, Bool.false_eq_true, List.length_cons, List.length_nil, Nat.reduceAdd, Nat.zero_add, List.append_nil, m7, el, nn, ln, md, ix, fd, AKN, ABK, hc.1, hc.2, ACC cell (show (0 : Int) < 1000000000000000000 by decide) (by decide), hw', AC4, hr, decide_true, Z7 r' (show (0 : Int) < 1000000 by decide), Z7 _ hm]
   ·obtain ⟨d, h1, h2, h3⟩ := AK7 (some (.list (ns.map PyData.int))) (some (.int t')) (some (.int r')) (cell + 6553 * (n : Int)) k many hm
    refine ⟨d, fin1 ?_, h2, h3⟩
    rw [← h1]
    simp only [AEL, Tr.run, C4, sIf, G5, U4, M4, E7, y8, C6, K5, Tr.gName, List.set_cons_zero, List.set_cons_succ, Tr.e1, Tr.e2, eN, eF, eC, A0, B2, eIf, bV, x9, bOr, Y3, AAT, eOr, eM, M5, R.bind, R.of, ev0, ev1, ev2, ev3, ev4, ev5, ev6, ev7, ev8, ev9, ACJ, ACH, A5, N8, fin, ite_true, ite_false, Bool.not_true, Bool.not_false, if_true, if_false, Bool.false_eq_true, List.length_cons, List.length_nil, Nat.reduceAdd, Nat.zero_add, List.append_nil, m7, el, nn, ln, md, ix, fd, AKN, ABK, hc.1, hc.2, ACC cell (show (0 : Int) < 1000000000000000000 by decide) (by decide), hw', AC4, hr, decide_false, m65, AH6]
  ·obtain ⟨d, h1, h2, h3⟩ := AK7 (some (.list (ns.map PyData.int))) (some (.int (n : Nat))) none (cell + 6553 * (n : Int)) k many hm
   refine ⟨d, fin1 ?_, h2, h3⟩
   rw [← h1]
   have cc : (if decide (1000000000000000000 ≤ cell) = true then (Tr.R.ok (decide (((n : Nat) : Int) < 60)) : Tr.R Bool) else .ok false) = .ok false := by
    cases q1 : decide (1000000000000000000 ≤ cell) <;> cases q2 : decide (((n : Nat) : Int) < 60) <;> first | rfl | exact absurd ⟨q1, q2⟩ hc
   simp only [AEL, Tr.run, C4, sIf, G5, U4, M4, E7, y8, C6, K5, Tr.gName, List.set_cons_zero, List.set_cons_succ, Tr.e1, Tr.e2, eN, eF, eC, A0, B2, eIf, bV, x9, bOr, Y3, AAT, eOr, eM, M5, R.bind, R.of, ev0, ev1, ev2, ev3, ev4, ev5, ev6, ev7, ev8, ev9, ACJ, ACH, A5, N8, fin, ite_true, ite_false, Bool.not_true, Bool.not_false, if_true, if_false, Bool.false_eq_true, List.length_cons, List.length_nil, Nat.reduceAdd, Nat.zero_add, List.append_nil, m7, el, nn, ln, md, ix, fd, AKN, ABK, cc, m65, AH6]
theorem AMQ : ∀ (n m : Nat), ∃ k, L4 (bV (e2 gtT (A3 1) (eC (.int 0)))) (y8 0 1 (A0 (A3 1) (A0 (e2 ABS (A3 0) (A3 1)) B2))) k [some (.int (m : Nat)), some (.int (n : Nat))] = some (.nx [some (.int (Nat.gcd m n : Nat)), some (.int 0)]) := by
 intro n
 induction n using Nat.strongRecOn with
 | ind n ih =>
  intro m
  by_cases hn : n = 0
  ·subst hn
   exact ⟨1, by simp only [L4]; rw [show (bV (e2 gtT (A3 1) (eC (.int 0)))) [some (.int (m : Nat)), some (.int ((0 : Nat) : Int))] = .ok false from rfl]; simp⟩
  ·obtain ⟨k, hk⟩ := ih (m % n) (Nat.mod_lt _ (Nat.pos_of_ne_zero hn)) n
   refine ⟨k + 1, ?_⟩
   have hb : decide ((0 : Int) < (n : Int)) = true := decide_eq_true (by omega)
   have hm : ABS (.int (m : Nat)) (.int (n : Nat)) = some (.int ((m % n : Nat) : Int)) := by
    rw [Z7 _ (show (0 : Int) < (n : Int) by omega)]; rfl
   rw [L4]
   simp only [Tr.run, C4, sIf, G5, U4, M4, E7, y8, C6, K5, Tr.gName, List.set_cons_zero, List.set_cons_succ, Tr.e1, Tr.e2, eN, eF, eC, A0, B2, eIf, bV, x9, bOr, Y3, AAT, eOr, eM, M5, R.bind, R.of, ev0, ev1, ev2, ev3, ev4, ev5, ev6, ev7, ev8, ev9, ACJ, ACH, A5, N8, fin, ite_true, ite_false, Bool.not_true, Bool.not_false, if_true, if_false, Bool.false_eq_true, List.length_cons, List.length_nil, Nat.reduceAdd, Nat.zero_add, List.append_nil, AC4, hb, hm]
   rw [hk, Nat.gcd_comm n, ← Nat.gcd_rec, Nat.gcd_comm]
theorem AFK : ∀ ts : List T, ts.length = 2 → K8 ts ≠ .bad → Tr.run 2 m9 ts = K8 ts := by
 refine AM3 (fun x y h => ?_) fun a b h => ?_
 ·cases x with
  | int a => cases y with
   | int b => exact ⟨a, b, rfl, rfl⟩
   | _ => exact absurd rfl h
  | _ => exact absurd rfl h
 ·have hc : 0 ≤ a ∧ 0 ≤ b := by
   by_cases hc : 0 ≤ a ∧ 0 ≤ b
   ·exact hc
   ·exact absurd (if_neg hc) h
  show Tr.run 2 m9 [.int a, .int b] = if 0 ≤ a ∧ 0 ≤ b then _ else _
  rw [if_pos hc]
  obtain ⟨m, rfl⟩ := Int.eq_ofNat_of_zero_le hc.1
  obtain ⟨n, rfl⟩ := Int.eq_ofNat_of_zero_le hc.2
  obtain ⟨k, hk⟩ := AMQ n m
  show fin ((C4 (ABJ _ _) _) [some (.int (m : Nat)), some (.int (n : Nat))]) = _
  unfold C4
  rw [ADC hk]
  rfl
def AQI (a b : Int) : T :=
 let a' := if b < 0 then -a else a
 let b' := if b < 0 then -b else b
 let g : Int := (Nat.gcd a.natAbs b.natAbs : Nat)
 .tuple [.int (a' / g), .int (b' / g)]
theorem AU5 (a b : Int) (hb : b ≠ 0) (hl : b.natAbs.log2 < 9000) : G8 [.int a, .int b] = .ok (AQI a b) := by
 have hb0 : 0 < b.natAbs := by omega
 have hg : 0 < Nat.gcd a.natAbs b.natAbs := Nat.gcd_pos_of_pos_right _ hb0
 have hgl : (Nat.gcd a.natAbs b.natAbs).log2 < 9000 := Nat.lt_of_le_of_lt (AQ2 (Nat.le_of_dvd hb0 (Nat.gcd_dvd_right _ _))) hl
 have c : K8 [.int (a.natAbs : Int), .int (b.natAbs : Int)] = .ok (.int (Nat.gcd a.natAbs b.natAbs : Nat)) := by
  have q : K8 [.int (a.natAbs : Int), .int (b.natAbs : Int)] = if 0 ≤ (a.natAbs : Int) ∧ 0 ≤ (b.natAbs : Int) then .ok (.int (Nat.gcd (a.natAbs : Int).natAbs (b.natAbs : Int).natAbs : Nat)) else .bad := rfl
  rw [q, if_pos ⟨by omega, by omega⟩, Int.natAbs_natCast, Int.natAbs_natCast]
 have fneg : ∀ u : Int, M7 (.int u) (.int (-(Nat.gcd a.natAbs b.natAbs : Nat))) = some (.int (-u / (Nat.gcd a.natAbs b.natAbs : Nat))) := fun u => by
  show (if (-(Nat.gcd a.natAbs b.natAbs : Nat) : Int) = 0 ∨ ¬ (-(Nat.gcd a.natAbs b.natAbs : Nat) : Int).natAbs.log2 < 9000 then none else some (PyData.int (u.fdiv (-(Nat.gcd a.natAbs b.natAbs : Nat))))) = _
  rw [if_neg (by rw [Int.natAbs_neg, Int.natAbs_natCast]; omega)]
  have e : u.fdiv (-((Nat.gcd a.natAbs b.natAbs : Nat) : Int)) = (-u).fdiv ((Nat.gcd a.natAbs b.natAbs : Nat) : Int) := by
   rw [← Int.neg_fdiv_neg u, Int.neg_neg]
  rw [e, Int.fdiv_eq_ediv_of_nonneg _ (by omega)]
 have tt : ∀ (a b : FE) (ρ : Ev) (u v : T), a ρ = .ok u → b ρ = .ok v → J3 (A0 a (A0 b B2)) ρ = .ok (.tuple [u, v]) := fun a b ρ u v h1 h2 => by
  simp only [J3, Tr.run, C4, sIf, G5, U4, M4, E7, y8, C6, K5, Tr.gName, List.set_cons_zero, List.set_cons_succ, Tr.e1, Tr.e2, eN, eF, eC, A0, B2, eIf, bV, x9, bOr, Y3, AAT, eOr, eM, M5, R.bind, R.of, ev0, ev1, ev2, ev3, ev4, ev5, ev6, ev7, ev8, ev9, ACJ, ACH, A5, N8, fin, ite_true, ite_false, Bool.not_true, Bool.not_false, if_true, if_false, Bool.false_eq_true, List.length_cons, List.length_nil, Nat.reduceAdd, Nat.zero_add, List.append_nil, h1, h2]
  rfl
 show clR (fin (Y4 [some (.int a), some (.int b), none])) = _
 by_cases h : b < 0
 ·have t0 := tt (e2 M7 (A3 0) (A3 2)) (e2 M7 (A3 1) (A3 2)) [some (.int a), some (.int b), some (.int (-(Nat.gcd a.natAbs b.natAbs : Nat)))] (.int (-a / (Nat.gcd a.natAbs b.natAbs : Nat))) (.int (-b / (Nat.gcd a.natAbs b.natAbs : Nat))) (by simp only [Tr.run, C4, sIf, G5, U4, M4, E7, y8, C6, K5, Tr.gName, List.set_cons_zero, List.set_cons_succ, Tr.e1, Tr.e2, eN, eF, eC, A0, B2, eIf, bV, x9, bOr, Y3, AAT, eOr, eM, M5, R.bind, R.of, ev0, ev1, ev2, ev3, ev4, ev5, ev6, ev7, ev8, ev9, ACJ, ACH, A5, N8, fin, ite_true, ite_false, Bool.not_true, Bool.not_false, if_true, if_false, Bool.false_eq_true, List.length_cons, List.length_nil, Nat.reduceAdd, Nat.zero_add, List.append_nil, fneg a]) (by simp only [Tr.run, C4, sIf, G5, U4, M4, E7, y8, C6, K5, Tr.gName, List.set_cons_zero, List.set_cons_succ, Tr.e1, Tr.e2, eN, eF, eC, A0, B2, eIf, bV, x9, bOr, Y3, AAT, eOr, eM, M5, R.bind, R.of, ev0, ev1, ev2, ev3, ev4, ev5, ev6, ev7, ev8, ev9, ACJ, ACH, A5, N8, fin, ite_true, ite_false, Bool.not_true, Bool.not_false, if_true, if_false, Bool.false_eq_true, List.length_cons, List.length_nil, Nat.reduceAdd, Nat.zero_add, List.append_nil, fneg b])
  simp only [Y4, Tr.run, C4, sIf, G5, U4, M4, E7, y8, C6, K5, Tr.gName, List.set_cons_zero, List.set_cons_succ, Tr.e1, Tr.e2, eN, eF, eC, A0, B2, eIf, bV, x9, bOr, Y3, AAT, eOr, eM, M5, R.bind, R.of, ev0, ev1, ev2, ev3, ev4, ev5, ev6, ev7, ev8, ev9, ACJ, ACH, A5, N8, fin, ite_true, ite_false, Bool.not_true, Bool.not_false, if_true, if_false, Bool.false_eq_true, List.length_cons, List.length_nil, Nat.reduceAdd, Nat.zero_add, List.append_nil, ABU, c, ABK, h, decide_true, AHQ, t0, AQI, clR]
 ·have t0 := tt (e2 M7 (A3 0) (A3 2)) (e2 M7 (A3 1) (A3 2)) [some (.int a), some (.int b), some (.int (Nat.gcd a.natAbs b.natAbs : Nat))] (.int (a / (Nat.gcd a.natAbs b.natAbs : Nat))) (.int (b / (Nat.gcd a.natAbs b.natAbs : Nat))) (by simp only [Tr.run, C4, sIf, G5, U4, M4, E7, y8, C6, K5, Tr.gName, List.set_cons_zero, List.set_cons_succ, Tr.e1, Tr.e2, eN, eF, eC, A0, B2, eIf, bV, x9, bOr, Y3, AAT, eOr, eM, M5, R.bind, R.of, ev0, ev1, ev2, ev3, ev4, ev5, ev6, ev7, ev8, ev9, ACJ, ACH, A5, N8, fin, ite_true, ite_false, Bool.not_true, Bool.not_false, if_true, if_false, Bool.false_eq_true, List.length_cons, List.length_nil, Nat.reduceAdd, Nat.zero_add, List.append_nil, ACM a hg hgl]) (by simp only [Tr.run, C4, sIf, G5, U4, M4, E7, y8, C6, K5, Tr.gName, List.set_cons_zero, List.set_cons_succ, Tr.e1, Tr.e2, eN, eF, eC, A0, B2, eIf, bV, x9, bOr, Y3, AAT, eOr, eM, M5, R.bind, R.of, ev0, ev1, ev2, ev3, ev4, ev5, ev6, ev7, ev8, ev9, ACJ, ACH, A5, N8, fin, ite_true, ite_false, Bool.not_true, Bool.not_false, if_true, if_false, Bool.false_eq_true, List.length_cons, List.length_nil, Nat.reduceAdd, Nat.zero_add, List.append_nil, ACM b hg hgl])
  simp only [Y4, Tr.run, C4, sIf, G5, U4, M4, E7, y8, C6, K5, Tr.gName, List.set_cons_zero, List.set_cons_succ, Tr.e1, Tr.e2, eN, eF, eC, A0, B2, eIf, bV, x9, bOr, Y3, AAT, eOr, eM, M5, R.bind, R.of, ev0, ev1, ev2, ev3, ev4, ev5, ev6, ev7, ev8, ev9, ACJ, ACH, A5, N8, fin, ite_true, ite_false, Bool.not_true, Bool.not_false, if_true, if_false, Bool.false_eq_true, List.length_cons, List.length_nil, Nat.reduceAdd, Nat.zero_add, List.append_nil, ABU, c, ABK, h, decide_false, t0, AQI, clR]
end Kw
end
section
namespace Kw
open PySem hiding start
open PyProof.Rows hiding St
open L2 PySem.Spec Tr
theorem S8 {c : FT} {s R4 : FS} {ρ : Ev} (h : c ρ = .ok false) : C4 (sIf c s C6) R4 ρ = R4 ρ := by
 unfold C4 sIf
 rw [h]; rfl
theorem AB0 {i : Nat} {e : FE} {R4 : FS} {ρ ρ' : Ev} {v : T} (h : e ρ = .ok v) (hi : ρ.set i (some v) = ρ') : C4 (E7 (Tr.gName i) e) R4 ρ = R4 ρ' := by
 unfold C4 E7
 rw [h, ← hi]; rfl
theorem N6 {e : FE} {ρ : Ev} {v : T} (h : e ρ = .ok v) : G5 e ρ = .rt v := by
 unfold G5
 rw [h]; rfl
theorem ABN {e : FE} {R4 : FS} {ρ : Ev} {v : T} (h : e ρ = .ok v) : C4 (ADQ e) R4 ρ = R4 ρ := by
 unfold C4 ADQ
 rw [h]; rfl
theorem AFS {gs : List FG} {e : FE} {R4 : FS} {ρ ρ' : Ev} {v : T} (h : e ρ = .ok v) (hg : Tr.gTup gs v ρ = some ρ') : C4 (E7 (Tr.gTup gs) e) R4 ρ = R4 ρ' := by
 unfold C4 E7
 rw [h]
 show (match (match Tr.gTup gs v ρ with | some ρ' => SR.nx ρ' | none => .bad) with | .nx ρ' => R4 ρ' | r => r) = _
 rw [hg]
theorem ASD {i j : Nat} {a b : FE} {R4 : FS} {ρ ρ' : Ev} {x y : T} (h1 : a ρ = .ok x) (h2 : b ρ = .ok y) (hi : (ρ.set i (some x)).set j (some y) = ρ') : C4 (y8 i j (A0 a (A0 b B2))) R4 ρ = R4 ρ' := by
 unfold C4 y8
 have e : (A0 a (A0 b B2)) ρ = .ok [x, y] := by unfold A0 B2; rw [h1, h2]; rfl
 rw [e, ← hi]; rfl
theorem h_1 {f : T → Option T} {a : FE} {ρ : Ev} {x z : T} (h1 : a ρ = .ok x) (h : f x = some z) : e1 f a ρ = .ok z := by
 unfold Tr.e1; rw [h1]; show R.of (f x) = _; rw [h]; rfl
theorem h_2 {f : T → T → Option T} {a b : FE} {ρ : Ev} {x y z : T} (h1 : a ρ = .ok x) (h2 : b ρ = .ok y) (h : f x y = some z) : e2 f a b ρ = .ok z := by
 unfold Tr.e2; rw [h1]; show (b ρ).bind _ = _; rw [h2]; show R.of (f x y) = _; rw [h]; rfl
theorem h_c {t : T} {ρ : Ev} : eC t ρ = .ok t := rfl
theorem AEA {f : List T → Option T} {a : FE} {ρ : Ev} {x z : T} (h1 : a ρ = .ok x) (h : f [x] = some z) : eN f (A0 a B2) ρ = .ok z := by
 unfold eN A0 B2; rw [h1]; show R.of (f [x]) = _; rw [h]; rfl
theorem ABY {m : List T → R T} {a : FE} {ρ : Ev} {x : T} {r : R T} (h1 : a ρ = .ok x) (h : m [x] = r) : eF (A5 1 [] m) (A0 a B2) ρ = r := by
 unfold eF A0 B2; rw [h1]; show m ([x] ++ []) = _; rw [List.append_nil]; exact h
theorem ACG {m : List T → R T} {a b : FE} {ρ : Ev} {x y : T} {r : R T} (h1 : a ρ = .ok x) (h2 : b ρ = .ok y) (h : m [x, y] = r) : eF (A5 2 [] m) (A0 a (A0 b B2)) ρ = r := by
 unfold eF A0 B2; rw [h1, h2]; show m ([x, y] ++ []) = _; rw [List.append_nil]; exact h
theorem AEW {m : List T → R T} {a b c : FE} {ρ : Ev} {x y z : T} {r : R T} (h1 : a ρ = .ok x) (h2 : b ρ = .ok y) (h3 : c ρ = .ok z) (h : m [x, y, z] = r) : eF (A5 3 [] m) (A0 a (A0 b (A0 c B2))) ρ = r := by
 unfold eF A0 B2; rw [h1, h2, h3]; show m ([x, y, z] ++ []) = _; rw [List.append_nil]; exact h
theorem APP {a b : FE} {ρ : Ev} {x y : T} (h1 : a ρ = .ok x) (h2 : b ρ = .ok y) : J3 (A0 a (A0 b B2)) ρ = .ok (.tuple [x, y]) := by
 unfold J3 A0 B2; rw [h1, h2]; rfl
theorem AbY {ρ : Ev} : ABC B2 ρ = .ok (.list []) := rfl
theorem Ab8 {a b : FE} {ρ : Ev} {x y : T} (h1 : a ρ = .ok x) (h2 : b ρ = .ok y) : ABC (A0 a (A0 b B2)) ρ = .ok (.list [x, y]) := by
 unfold ABC A0 B2; rw [h1, h2]; rfl
theorem h_b {a : FE} {ρ : Ev} {k : Bool} (h : a ρ = .ok (.bool k)) : bV a ρ = .ok k := by
 unfold bV; rw [h]; rfl
theorem AD9 {a : FT} {ρ : Ev} {k : Bool} (h : a ρ = .ok k) : Y3 a ρ = .ok (!k) := by
 unfold Y3; rw [h]; rfl
theorem AYP {a b : FT} {ρ : Ev} (h1 : a ρ = .ok false) (h2 : b ρ = .ok false) : bOr a b ρ = .ok false := by
 unfold bOr; rw [h1]; exact h2
theorem Aa9 {a b : FT} {ρ : Ev} (h1 : a ρ = .ok true) : bOr a b ρ = .ok true := by
 unfold bOr; rw [h1]; rfl
theorem Aa8 {a b : FT} {ρ : Ev} {k : Bool} (h1 : a ρ = .ok false) (h2 : b ρ = .ok k) : bOr a b ρ = .ok k := by
 unfold bOr; rw [h1]; exact h2
theorem X0 {it : FI} {sel : List (Option Nat)} {g : FG} {test : FT} {te : FE} {ρ : Ev} {ts xs : List T} (h1 : it ρ = .ok ts) (h2 : ts.length ≤ 100000) (h3 : O6 g test te (L6 sel ρ) ts = .ok xs) : U5 it sel g test te ρ = .ok (.list xs) := by
 unfold U5
 rw [h1]
 show (if ts.length ≤ 100000 then (O6 g test te (L6 sel ρ) ts).bind _ else _) = _
 rw [if_pos h2, h3]
 rfl
theorem AEO {e : FE} {ρ : Ev} {ts : List T} (h : e ρ = .ok (.list ts)) : iOf V9 e ρ = .ok ts := by
 unfold iOf; rw [h]; rfl
theorem P4 {n : Nat} {t : FS} {ts : List T} {ρ : Ev} {r : SR} (h : O4 n ts = ρ) (h2 : t ρ = r) : Tr.run n t ts = fin r := by
 rw [← h2, ← h]; rfl
theorem ASO {m : List T → R T} {a b c d : FE} {ρ : Ev} {x y z w : T} {r : R T} (h1 : a ρ = .ok x) (h2 : b ρ = .ok y) (h3 : c ρ = .ok z) (h4 : d ρ = .ok w) (h : m [x, y, z, w] = r) : eF (A5 4 [] m) (A0 a (A0 b (A0 c (A0 d B2)))) ρ = r := by
 unfold eF A0 B2; rw [h1, h2, h3, h4]; show m ([x, y, z, w] ++ []) = _; rw [List.append_nil]; exact h
theorem AZU {a : FE} {ρ : Ev} {x : T} (h1 : a ρ = .ok x) : J3 (A0 a B2) ρ = .ok (.tuple [x]) := by
 unfold J3 A0 B2; rw [h1]; rfl
theorem APU {c : FT} {e : FE} {R4 : FS} {ρ : Ev} {v : T} (h : c ρ = .ok true) (h2 : e ρ = .ok v) : C4 (sIf c (G5 e) C6) R4 ρ = .rt v := by
 unfold C4 sIf G5
 rw [h, h2]; rfl
theorem AZ5 {c : FT} {s u : FS} {ρ : Ev} {r : SR} (h : c ρ = .ok true) (h2 : s ρ = r) : sIf c s u ρ = r := by
 unfold sIf; rw [h]; exact h2
theorem AU3 {c : FT} {s u : FS} {ρ : Ev} {r : SR} (h : c ρ = .ok false) (h2 : u ρ = r) : sIf c s u ρ = r := by
 unfold sIf; rw [h]; exact h2
theorem AX3 {c : FT} {a b : FE} {ρ : Ev} {r : R T} (h : c ρ = .ok false) (h2 : b ρ = r) : eIf c a b ρ = r := by
 unfold eIf; rw [h]; exact h2
theorem AXF {c : FT} {a b : FE} {ρ : Ev} {r : R T} (h : c ρ = .ok true) (h2 : a ρ = r) : eIf c a b ρ = r := by
 unfold eIf; rw [h]; exact h2
theorem AP4 {a b : FE} {ρ : Ev} {r : R T} (h1 : a ρ = .ok (.bool true)) (h2 : b ρ = r) : AAT a b ρ = r := by
 unfold AAT; rw [h1]; exact h2
theorem AaL {c : FT} {s u R4 : FS} {ρ ρ' : Ev} (h : c ρ = .ok true) (h2 : s ρ = .nx ρ') : C4 (sIf c s u) R4 ρ = R4 ρ' := by
 unfold C4 sIf; rw [h]
 show (match s ρ with | .nx ρ' => R4 ρ' | r => r) = _
 rw [h2]
theorem AQK {c : FT} {s R4 : FS} {ρ : Ev} {v : T} (h : c ρ = .ok true) (h2 : s ρ = .rt v) : C4 (sIf c s C6) R4 ρ = .rt v := by
 unfold C4 sIf; rw [h]
 show (match s ρ with | .nx ρ' => R4 ρ' | r => r) = _
 rw [h2]
theorem AD1 {i : Nat} {e : FE} {ρ : Ev} {v : T} (h : e ρ = .ok v) : E7 (Tr.gName i) e ρ = .nx (ρ.set i (some v)) := by
 unfold E7; rw [h]; rfl
theorem AcT {a b c d : FE} {ρ : Ev} {x y z w : T} (h1 : a ρ = .ok x) (h2 : b ρ = .ok y) (h3 : c ρ = .ok z) (h4 : d ρ = .ok w) : J3 (A0 a (A0 b (A0 c (A0 d B2)))) ρ = .ok (.tuple [x, y, z, w]) := by
 unfold J3 A0 B2; rw [h1, h2, h3, h4]; rfl
theorem AL9 {te : FE} {ρ : Ev} {f : T → T} : ∀ ts : List T, (∀ t ∈ ts, te (ρ.set 0 (some t)) = .ok (f t)) → O6 (Tr.gName 0) (fun _ => .ok true) te ρ ts = .ok (ts.map f)
 | [], _ => rfl
 | t :: ts, h => by
  rw [O6]
  have g : Tr.gName 0 t ρ = some (ρ.set 0 (some t)) := rfl
  simp only [g, h t List.mem_cons_self, AL9 ts fun u hu => h u (List.mem_cons_of_mem _ hu)]
  rfl
theorem all_map {f : T → Bool} (ts : List T) : ATB [.list (ts.map fun t => PyData.bool (f t))] = some (.bool (ts.all f)) := by
 have h1 : (ts.map fun t => PyData.bool (f t)).all AIL = true := by
  rw [List.all_map]; exact List.all_eq_true.mpr fun _ _ => rfl
 have h2 : (ts.map fun t => PyData.bool (f t)).all AK3 = ts.all f := by
  rw [List.all_map]; rfl
 show (if (ts.map fun t => PyData.bool (f t)).all AIL = true then some (PyData.bool ((ts.map fun t => PyData.bool (f t)).all AK3)) else none) = _
 rw [if_pos h1, h2]
theorem AR8 (n : Nat) : AE4 0 n = ((List.range n).map fun (i : Nat) => (i : Int)).map PyData.int := by
 unfold AE4
 rw [List.map_map]
 refine List.map_congr_left fun i _ => ?_
 show PyData.int (0 + (i : Int)) = PyData.int i
 rw [Int.zero_add]
theorem APQ {n : Nat} {k : Int} (h : k ∈ (List.range n).map fun (i : Nat) => (i : Int)) : 0 ≤ k ∧ k < n := by
 obtain ⟨i, hi, rfl⟩ := List.mem_map.mp h
 have := List.mem_range.mp hi
 omega
theorem AYB {a : FE} {ρ : Ev} {n : Int} (h : a ρ = .ok (.int n)) (h0 : 0 ≤ n) (h1 : n < 1000) : iN ATV (A0 a B2) ρ = .ok (((List.range n.toNat).map fun (i : Nat) => (i : Int)).map PyData.int) := by
 unfold iN A0 B2
 rw [h]
 show R.of (if -100000 < n ∧ n < 100000 then some (AE4 0 n.toNat) else none) = _
 rw [if_pos ⟨by omega, by omega⟩, AR8]
 rfl
end Kw
end
section
namespace Kw
open PySem hiding start
open PyProof.Rows hiding St
open L2 PySem.Spec Tr PySem.NumText
theorem AL8 {a b : Int} (ha : a.natAbs ≤ 1000) (hb : b.natAbs ≤ 100000) : J0 (.int a) (.int b) = some (.int (a * b)) := by
 have h : CMulG a b := .inl (.inl ⟨by omega, by omega⟩)
 show (if CMulG a b then some (PyData.int (a * b)) else none) = _
 rw [if_pos h]
def Sh (d : Nat) (t : T) : Prop := t.canLay0 = true ∧ t.depth ≤ d
theorem AT0 {d : Nat} : ∀ ts : List T, (∀ t ∈ ts, Sh d t) → PyData.canLayAll0 ts = true ∧ PyData.depthAll ts ≤ d
 | [], _ => ⟨by unfold PyData.canLayAll0; rfl, by unfold PyData.depthAll; omega⟩
 | t :: ts, h => by
  obtain ⟨h1, h2⟩ := AT0 ts fun u hu => h u (List.mem_cons_of_mem _ hu)
  obtain ⟨h3, h4⟩ := h t List.mem_cons_self
  refine ⟨by unfold PyData.canLayAll0; rw [h3, h1]; rfl, ?_⟩
  unfold PyData.depthAll
  exact Nat.max_le.mpr ⟨h4, h2⟩
theorem ACQ {d : Nat} {ts : List T} (h : ∀ t ∈ ts, Sh d t) : Sh (d + 1) (.tuple ts) := by
 obtain ⟨h1, h2⟩ := AT0 ts h
 refine ⟨by unfold PyData.canLay0; exact h1, ?_⟩
 unfold PyData.depth
 omega
theorem AP9 (i : Int) (d : Nat) : Sh d (.int i) := ⟨by unfold PyData.canLay0; rfl, by unfold PyData.depth; omega⟩
theorem AK2 (i : Bool) (d : Nat) : Sh d (.bool i) := ⟨by unfold PyData.canLay0; rfl, by unfold PyData.depth; omega⟩
theorem Sh.shaped {d : Nat} {t : T} (h : Sh d t) (hd : d ≤ 64) : SeqAt.shaped t = true := by
 unfold SeqAt.shaped
 rw [h.1, decide_eq_true (Nat.le_trans h.2 hd)]
 rfl
theorem ALL {m : List T → R T} {ts : List T} {ρ : Ev} (h : ∀ t ∈ ts, m [t] = .ok (.bool true)) (hl : ts.length ≤ 100000) {it : FI} (hi : it ρ = .ok ts) : eN ATB (A0 (U5 it [none] (Tr.gName 0) (fun _ => .ok true) (eF (A5 1 [] m) (A0 (A3 0) B2))) B2) ρ = .ok (.bool true) := by
 have c := AL9 (te := eF (A5 1 [] m) (A0 (A3 0) B2)) (ρ := [none]) (f := fun _ => PyData.bool true) ts fun t ht => ABY (x := t) rfl (h t ht)
 refine AEA (X0 hi hl c) ?_
 have := all_map (f := fun _ => true) ts
 rw [this]
 simp
theorem j8 {e : FE} {ρ : Ev} {ts : List T} (h : e ρ = .ok (.tuple ts)) : iOf G7 e ρ = .ok ts := by
 unfold iOf; rw [h]; rfl
theorem ACA (a b : Int) : t9 (.int a) (.int b) = some (.int (a + b)) := rfl
theorem AE5 (a b : Int) : AC9 (.int a) (.int b) = some (.int (a - b)) := rfl
theorem AYL {a b : FT} {ρ : Ev} {x y : Bool} (h1 : a ρ = .ok x) (h2 : b ρ = .ok y) : bOr a b ρ = .ok (x || y) := by
 unfold bOr; rw [h1]
 cases x with
 | true => rfl
 | false => exact h2
theorem AD2 {i a : Nat} {ρ : Ev} (h : ρ[i]? = some (some (W0 a))) : N9 i a ρ = true := by
 unfold N9
 rw [h]
 show decide ((a : Int) = (a : Int)) = true
 exact decide_eq_true rfl
theorem AC1 {t u : FB} {a : Nat} {ρ ρ' : Ev} {acc acc' : List T} {r : BR} (h : t a ρ acc = .nx ρ' acc') (h2 : u a ρ' acc' = r) : AE8 t u a ρ acc = r := by
 unfold AE8; rw [h]; exact h2
theorem AA1 {i a : Nat} {t : FS} {ρ ρ' : Ev} {acc : List T} (h : t ρ = .nx ρ') (hk : ρ'[i]? = some (some (W0 a))) : i8 i t a ρ acc = .nx ρ' acc := by
 unfold i8; rw [h]
 show (if N9 i a ρ' = true then BR.nx ρ' acc else .bad) = _
 rw [if_pos (AD2 hk)]
theorem ALI {a : Nat} {te : FE} {ρ : Ev} {acc : List T} {y : T} (h : te ρ = .ok y) (hl : acc.length ≤ 1000) : ANL te a ρ acc = .nx ρ (acc ++ [y]) := by
 unfold ANL; rw [h]
 show (if O5 acc.length = true then BR.nx ρ (acc ++ [y]) else .bad) = _
 rw [if_pos (show O5 acc.length = true from decide_eq_true hl)]
theorem ADV {i a : Nat} {g : FG} {body : FB} {t : T} {ts : List T} {ρ ρ1 ρ2 : Ev} {acc acc2 : List T} {r : BR} (hg : g t ρ = some ρ1) (hk : ρ1[i]? = some (some (W0 a))) (hb : body a ρ1 acc = .nx ρ2 acc2)
  (hr : W9 (fun t ρ => (g t ρ).bind fun ρ' => if N9 i a ρ' = true then some ρ' else none) body ts a ρ2 acc2 = r) : W9 (fun t ρ => (g t ρ).bind fun ρ' => if N9 i a ρ' = true then some ρ' else none) body (t :: ts) a ρ acc = r := by
 rw [W9]
 have e : ((g t ρ).bind fun ρ' => if N9 i a ρ' = true then some ρ' else none) = some ρ1 := by
  rw [hg]
  show (if N9 i a ρ1 = true then some ρ1 else none) = _
  rw [if_pos (AD2 hk)]
 simp only [e, hb]
 exact hr
theorem AGO {i a : Nat} {it : FI} {g : FG} {body : FB} {ρ : Ev} {acc : List T} {ts : List T} {r : BR} (h : it ρ = .ok ts) (h2 : W9 (fun t ρ => (g t ρ).bind fun ρ' => if N9 i a ρ' = true then some ρ' else none) body ts a ρ acc = r) : ALE i it g body a ρ acc = r := by
 unfold ALE; rw [h]; exact h2
theorem AHW {i : Nat} {tb : FB} {R4 : FS} {ρ r : Ev} (hi : i < ρ.length) (h : ∀ a, ∃ ρ' acc, tb a (ρ.set i (some (W0 a))) [] = .nx ρ' acc ∧ ρ'.set i (some (.list acc)) = r) : C4 (ACU i tb) R4 ρ = R4 r := by
 unfold C4; rw [AIF hi h]
theorem AIQ {it : FI} {g : FG} {body R4 : FS} {ρ ρ' : Ev} {ts : List T} (h1 : it ρ = .ok ts) (h2 : AHH g body ts ρ = .nx ρ') : C4 (AEP it g body) R4 ρ = R4 ρ' := by
 unfold C4 AEP
 rw [h1]
 show (match AHH g body ts ρ with | .nx ρ' => R4 ρ' | r => r) = _
 rw [h2]
theorem M3 {g : FG} {body : FS} {t : T} {ts : List T} {ρ ρ1 ρ2 : Ev} {r : SR} (hg : g t ρ = some ρ1) (hb : body ρ1 = .nx ρ2) (hr : AHH g body ts ρ2 = r) : AHH g body (t :: ts) ρ = r := by
 rw [AHH]
 simp only [hg, hb]
 exact hr
theorem Sh.self {d : Nat} {t : T} (h : Sh d t) (hd : d ≤ 64) : PyData.eqv t t = true := SeqAt.eqv_refl t h.1
theorem ARE {d : Nat} {t : T} (h : Sh d t) (hd : d ≤ 64) : eqB t t = some true := by
 rcases ADH t t with ⟨x, y, e1, e2⟩ | e
 ·rw [e1] at e2
  have : x = y := by injection e2
  subst this
  rw [e1]
  show some (x == x) = some true
  simp
 ·rw [e, h.shaped hd, h.self hd]
  rfl
theorem AOI {d : Nat} {t : T} (h : Sh d t) (hd : d ≤ 64) : Tr.neT t t = some (.bool false) := by
 unfold Tr.neT
 rw [ARE h hd]
 rfl
theorem W2 {α : Type} {g : FG} {te : FE} {ρ : Ev} {f i : α → T} : ∀ xs : List α, (∀ x ∈ xs, ∃ ρ1, g (i x) ρ = some ρ1 ∧ te ρ1 = .ok (f x)) → O6 g (fun _ => .ok true) te ρ (xs.map i) = .ok (xs.map f)
 | [], _ => rfl
 | x :: xs, h => by
  obtain ⟨ρ1, h1, h2⟩ := h x List.mem_cons_self
  rw [List.map_cons, O6]
  simp only [h1, h2, W2 xs fun u hu => h u (List.mem_cons_of_mem _ hu)]
  rfl
end Kw
end
section
namespace Kw
open PySem hiding start
open PyProof.Rows hiding St
open L2 PySem.Spec Tr
def X6 : T := .tuple [.tuple [.int 1, .int 0, .int 0, .int 1, .int 0, .int 0], .tuple [.int 0, .int 1, .int (-1), .int 0, .int 0, .int 0], .tuple [.int (-1), .int 0, .int 0, .int (-1), .int 0, .int 0], .tuple [.int 0, .int (-1), .int 1, .int 0, .int 0, .int 0]]
noncomputable def AJA : FS := (C4 (sIf (bOr (bV (e2 isT (A3 0) (eC .none))) (bV (e2 isT (A3 1) (eC .none)))) (G5 (eC .none)) C6)
  (G5 (eF (A5 2 [] R9) (A0 (e2 t9 (e2 J0 (e2 ixT (A3 0) (eC (.int 0))) (e2 ixT (A3 1) (eC (.int 1)))) (e2 J0 (e2 ixT (A3 1) (eC (.int 0))) (e2 ixT (A3 0) (eC (.int 1))))) (A0 (e2 J0 (e2 ixT (A3 0) (eC (.int 1))) (e2 ixT (A3 1) (eC (.int 1)))) B2)))))
noncomputable def ACO : List T → R T := fun ts => clR (Tr.run 2 AJA ts)
noncomputable def AF0 : FS := (C4 (sIf (bOr (bV (e2 isT (A3 0) (eC .none))) (bV (e2 isT (A3 1) (eC .none)))) (G5 (eC .none)) C6)
  (G5 (eF (A5 2 [] R9) (A0 (e2 J0 (e2 ixT (A3 0) (eC (.int 0))) (e2 ixT (A3 1) (eC (.int 0)))) (A0 (e2 J0 (e2 ixT (A3 0) (eC (.int 1))) (e2 ixT (A3 1) (eC (.int 1)))) B2)))))
noncomputable def AAV : List T → R T := fun ts => clR (Tr.run 2 AF0 ts)
noncomputable def v6 : FS := (C4 (sIf (bOr (Y3 (bV (e1 (AIC "tuple") (A3 0)))) (bV (e2 neT (eN AFJ (A0 (A3 0) B2)) (eC (.int 6))))) (G5 (eC (.bool false))) C6)
  (G5 (eN ATB (A0 (U5 (iOf G7 (A3 0)) [none] (Tr.gName 0) (fun _ => .ok true) (eF (A5 1 [] E4) (A0 (A3 0) B2))) B2))))
noncomputable def v0 : List T → R T := fun ts => clR (Tr.run 1 v6 ts)
noncomputable def V1 : FS := (sIf (Y3 (bV (eF (A5 1 [] v0) (A0 (A3 0) B2)))) (AB9 "NoMatrix" (A0 (eC (.str (Str.ofString "this is no matrix"))) B2)) C6)
noncomputable def V0 : List T → R T := fun ts => clR (Tr.run 1 V1 ts)
noncomputable def AAR : FS := (G5 (eIf (bV (e2 AW1 (eC .none) (A3 0))) (eC .none) (eN AFV (A0 (A3 0) B2))))
noncomputable def K7 : List T → R T := fun ts => clR (Tr.run 1 AAR ts)
noncomputable def AEY : FS := (C4 (E7 (Tr.gTup [(Tr.gName 3), (Tr.gName 4), (Tr.gName 5), (Tr.gName 6), (Tr.gName 7), (Tr.gName 8)]) (A3 0))
  (C4 (E7 (Tr.gName 9) (eF (A5 2 [] ACO) (A0 (eF (A5 2 [] ACO) (A0 (eF (A5 2 [] AAV) (A0 (A3 3) (A0 (A3 1) B2))) (A0 (eF (A5 2 [] AAV) (A0 (A3 5) (A0 (A3 2) B2))) B2))) (A0 (A3 7) B2))))
  (C4 (E7 (Tr.gName 10) (eF (A5 2 [] ACO) (A0 (eF (A5 2 [] ACO) (A0 (eF (A5 2 [] AAV) (A0 (A3 4) (A0 (A3 1) B2))) (A0 (eF (A5 2 [] AAV) (A0 (A3 6) (A0 (A3 2) B2))) B2))) (A0 (A3 8) B2))))
  (G5 (eF (A5 1 [] K7) (A0 (ABC (A0 (A3 9) (A0 (A3 10) B2))) B2))))))
noncomputable def ADW : List T → R T := fun ts => clR (Tr.run 11 AEY ts)
noncomputable def AAK : FS := (C4 (sIf (Y3 (bV (eF (A5 1 [] N2) (A0 (A3 0) B2)))) (AB9 "NoNumber" (A0 (eC (.str (Str.ofString "quarter turns are counted by a whole number"))) B2)) C6)
  (G5 (eN AFV (A0 (U5 (iOf G7 (e2 ixT (eC X6) (e2 ABS (A3 0) (eC (.int 4))))) [none] (Tr.gName 0) (fun _ => .ok true) (J3 (A0 (A3 0) (A0 (eC (.int 1)) B2)))) B2))))
noncomputable def ABE : List T → R T := fun ts => clR (Tr.run 1 AAK ts)
noncomputable def P5 : FS := (C4 (E7 (Tr.gName 2) (e2 ixT (eC (.list [(.int 1), (.int 1), (.int 1), (.int 2), (.int 3), (.int 4), (.int 6)])) (eF (A5 3 [] G4) (A0 (A3 0) (A0 (A3 1) (A0 (eC (.int 7)) B2))))))
  (G5 (eF (A5 2 [] G8) (A0 (e2 AC9 (eF (A5 3 [] G4) (A0 (A3 0) (A0 (e2 t9 (A3 1) (eC (.int 1))) (A0 (e2 ixT (eC (.list [(.int 9), (.int 9), (.int 41), (.int 200)])) (eF (A5 3 [] G4) (A0 (A3 0) (A0 (e2 t9 (A3 1) (eC (.int 2))) (A0 (eC (.int 4)) B2))))) B2)))) (eC (.int 4))) (A0 (A3 2) B2)))))
noncomputable def U9 : List T → R T := fun ts => clR (Tr.run 3 P5 ts)
noncomputable def v3 : FS := (G5 (eF (A5 2 [] G8) (A0 (e2 t9 (e2 J0 (e2 ixT (A3 0) (eC (.int 0))) (e2 ixT (A3 1) (eC (.int 1)))) (e2 J0 (e2 ixT (A3 1) (eC (.int 0))) (e2 ixT (A3 0) (eC (.int 1))))) (A0 (e2 J0 (e2 ixT (A3 0) (eC (.int 1))) (e2 ixT (A3 1) (eC (.int 1)))) B2))))
noncomputable def J6 : List T → R T := fun ts => clR (Tr.run 2 v3 ts)
noncomputable def i7 : FS := (G5 (eF (A5 2 [] G8) (A0 (e2 J0 (e2 ixT (A3 0) (eC (.int 0))) (e2 ixT (A3 1) (eC (.int 0)))) (A0 (e2 J0 (e2 ixT (A3 0) (eC (.int 1))) (e2 ixT (A3 1) (eC (.int 1)))) B2))))
noncomputable def M6 : List T → R T := fun ts => clR (Tr.run 2 i7 ts)
end Kw
end
section
namespace Kw
open PySem hiding start
open PyProof.Rows hiding St
open L2 PySem.Spec Tr PySem.NumText
theorem AE2 {n : Nat} {t : FS} {ts : List T} {ρ : Ev} (h : O4 n ts = ρ) : Tr.run n t ts = fin (t ρ) := by
 rw [← h]; rfl
def RT (r : Rat) : T := .tuple [.int r.num, .int (r.den : Int)]
def Sm (r : Rat) : Prop := (r.num.natAbs : Int) < big ∧ ((r.den : Nat) : Int) < big
theorem v7 {r : Rat} {q : Int} {p : Nat} (h : At r q p) (hq : q ≠ 0) (hp : (p : Int) < big) (hb : (q.natAbs : Int) < big) : Sm r := by
 obtain ⟨h1, h2⟩ := APV h hq
 exact ⟨by omega, by omega⟩
theorem ALS {r : Rat} (h : Sm r) : short r.num (r.den : Int) = true := by
 unfold short
 rw [decide_eq_true h.1, decide_eq_true h.2]; rfl
theorem AS1 {r : Rat} (h : Sm r) : AND (RT r) = true := by
 show (decide (0 < (r.den : Int)) && short r.num (r.den : Int) && decide (Nat.gcd r.num.natAbs (r.den : Int).natAbs = 1)) = true
 have hd := r.den_nz
 rw [ALS h, decide_eq_true (show (0 : Int) < (r.den : Int) by omega), Int.natAbs_natCast, decide_eq_true (show Nat.gcd r.num.natAbs r.den = 1 from r.reduced)]
 rfl
theorem d0 {r : Rat} (h : Sm r) : E4 [RT r] = .ok (.bool true) := by
 rw [← AS1 h]; rfl
theorem ABX {r : Rat} (h : Sm r) : L0 [RT r] = .ok .none := AUU (d0 h)
theorem ATL {a b : Int} (hb : b ≠ 0) (h : Sm (Rat.divInt a b)) : AUP a b = RT (Rat.divInt a b) := by
 unfold AUP
 dsimp only
 rw [AZW a b hb, AaT a b hb, ALS h, if_pos rfl]
 rfl
theorem AR4 {a b : Int} (hb : b ≠ 0) : AQI a b = RT (Rat.divInt a b) := by
 unfold AQI
 dsimp only
 rw [AZW a b hb, AaT a b hb]
 rfl
theorem lg {a : Int} (h : (a.natAbs : Int) < big) : a.natAbs.log2 < 400 := AIX h
theorem lgd {n : Nat} (h : (n : Int) < big) : (n : Int).natAbs.log2 < 400 := by rw [Int.natAbs_natCast]; exact AIX h
theorem S2 {a b : Int} (ha : a.natAbs.log2 < 400) (hb : b.natAbs.log2 < 400) : J0 (.int a) (.int b) = some (.int (a * b)) := by
 show (if CMulG a b then some (PyData.int (a * b)) else none) = _
 rw [if_pos (.inr ⟨by omega, by omega⟩)]
theorem ATH {a b : Nat} (ha : a.log2 < 400) (hb : b.log2 < 400) : (a * b).log2 < 9000 := by
 by_cases h : a * b = 0
 ·rw [h]; decide
 ·refine (Nat.log2_lt h).mpr ?_
  have h1 : a < 2 ^ 400 := (Nat.log2_lt (fun z => h (by rw [z, Nat.zero_mul]))).mp ha
  have h2 : b < 2 ^ 400 := (Nat.log2_lt (fun z => h (by rw [z, Nat.mul_zero]))).mp hb
  refine Nat.lt_of_lt_of_le (Nat.mul_lt_mul'' h1 h2) ?_
  rw [← Nat.pow_add]
  exact Nat.pow_le_pow_right (by decide) (by decide)
theorem AEJ {a b : Int} (ha : a.natAbs.log2 < 400) (hb : b.natAbs.log2 < 400) : (a * b).natAbs.log2 < 9000 := by
 rw [Int.natAbs_mul]; exact ATH ha hb
theorem AT9 {a b : Int} {r : Rat} (hb : b ≠ 0) (hl : b.natAbs.log2 < 9000) (e : r = Rat.divInt a b) (h : Sm r) : R9 [.int a, .int b] = .ok (RT r) := by
 subst e
 show (if b ≠ 0 ∧ b.natAbs.log2 < 9000 then Tr.R.ok (AUP a b) else .bad) = _
 rw [if_pos ⟨hb, hl⟩, ATL hb h]
theorem AF7 {a b : Int} {r : Rat} (hb : b ≠ 0) (hl : b.natAbs.log2 < 9000) (e : r = Rat.divInt a b) : G8 [.int a, .int b] = .ok (RT r) := by
 subst e
 rw [AU5 a b hb hl, AR4 hb]
theorem ix0 (r : Rat) : ixT (RT r) (.int 0) = some (.int r.num) := rfl
theorem ix1 (r : Rat) : ixT (RT r) (.int 1) = some (.int (r.den : Int)) := rfl
theorem AW4 (a b : Int) : t9 (.int a) (.int b) = some (.int (a + b)) := rfl
theorem ARI (r s : Rat) : (r.den : Int) * (s.den : Int) ≠ 0 := by
 have h1 := r.den_nz
 have h2 := s.den_nz
 exact Int.mul_ne_zero (by omega) (by omega)
theorem ixa (a b : Int) : ixT (.tuple [.int a, .int b]) (.int 0) = some (.int a) := rfl
theorem ixb (a b : Int) : ixT (.tuple [.int a, .int b]) (.int 1) = some (.int b) := rfl
theorem isp (a b : Int) : isT (.tuple [.int a, .int b]) .none = some (.bool false) := rfl
theorem AQ4 {a b c d : Int} {t : T} (ha : a.natAbs.log2 < 400) (hb : b.natAbs.log2 < 400) (hc : c.natAbs.log2 < 400) (hd : d.natAbs.log2 < 400) (l : R9 [.int (a * d + c * b), .int (b * d)] = .ok t) : ACO [.tuple [.int a, .int b], .tuple [.int c, .int d]] = .ok t := by
 rw [show ACO [.tuple [.int a, .int b], .tuple [.int c, .int d]] = clR (Tr.run 2 AJA [.tuple [.int a, .int b], .tuple [.int c, .int d]]) from rfl, AE2 (show O4 2 [.tuple [.int a, .int b], .tuple [.int c, .int d]] = [some (.tuple [.int a, .int b]), some (.tuple [.int c, .int d])] from rfl)]
 simp only [AJA, Tr.run, C4, sIf, G5, U4, M4, E7, y8, C6, K5, Tr.gName, List.set_cons_zero, List.set_cons_succ, Tr.e1, Tr.e2, eN, eF, eC, A0, B2, eIf, bV, x9, bOr, Y3, AAT, eOr, eM, M5, R.bind, R.of, ev0, ev1, ev2, ev3, ev4, ev5, ev6, ev7, ev8, ev9, ACJ, ACH, A5, N8, fin, ite_true, ite_false, Bool.not_true, Bool.not_false, if_true, if_false, Bool.false_eq_true, List.length_cons, List.length_nil, Nat.reduceAdd, Nat.zero_add, List.append_nil, isp, ixa, ixb, AW4, S2 ha hd, S2 hc hb, S2 hb hd, l]
 rfl
theorem ANA {a b c d : Int} {t : T} (ha : a.natAbs.log2 < 400) (hb : b.natAbs.log2 < 400) (hc : c.natAbs.log2 < 400) (hd : d.natAbs.log2 < 400) (l : R9 [.int (a * c), .int (b * d)] = .ok t) : AAV [.tuple [.int a, .int b], .tuple [.int c, .int d]] = .ok t := by
 rw [show AAV [.tuple [.int a, .int b], .tuple [.int c, .int d]] = clR (Tr.run 2 AF0 [.tuple [.int a, .int b], .tuple [.int c, .int d]]) from rfl, AE2 (show O4 2 [.tuple [.int a, .int b], .tuple [.int c, .int d]] = [some (.tuple [.int a, .int b]), some (.tuple [.int c, .int d])] from rfl)]
 simp only [AF0, Tr.run, C4, sIf, G5, U4, M4, E7, y8, C6, K5, Tr.gName, List.set_cons_zero, List.set_cons_succ, Tr.e1, Tr.e2, eN, eF, eC, A0, B2, eIf, bV, x9, bOr, Y3, AAT, eOr, eM, M5, R.bind, R.of, ev0, ev1, ev2, ev3, ev4, ev5, ev6, ev7, ev8, ev9, ACJ, ACH, A5, N8, fin, ite_true, ite_false, Bool.not_true, Bool.not_false, if_true, if_false, Bool.false_eq_true, List.length_cons, List.length_nil, Nat.reduceAdd, Nat.zero_add, List.append_nil, isp, ixa, ixb, AW4, S2 ha hc, S2 hb hd, l]
 rfl
theorem AMH {a b c d : Int} {t : T} (ha : a.natAbs.log2 < 400) (hb : b.natAbs.log2 < 400) (hc : c.natAbs.log2 < 400) (hd : d.natAbs.log2 < 400) (l : G8 [.int (a * d + c * b), .int (b * d)] = .ok t) : J6 [.tuple [.int a, .int b], .tuple [.int c, .int d]] = .ok t := by
 rw [show J6 [.tuple [.int a, .int b], .tuple [.int c, .int d]] = clR (Tr.run 2 v3 [.tuple [.int a, .int b], .tuple [.int c, .int d]]) from rfl, AE2 (show O4 2 [.tuple [.int a, .int b], .tuple [.int c, .int d]] = [some (.tuple [.int a, .int b]), some (.tuple [.int c, .int d])] from rfl)]
 simp only [v3, Tr.run, C4, sIf, G5, U4, M4, E7, y8, C6, K5, Tr.gName, List.set_cons_zero, List.set_cons_succ, Tr.e1, Tr.e2, eN, eF, eC, A0, B2, eIf, bV, x9, bOr, Y3, AAT, eOr, eM, M5, R.bind, R.of, ev0, ev1, ev2, ev3, ev4, ev5, ev6, ev7, ev8, ev9, ACJ, ACH, A5, N8, fin, ite_true, ite_false, Bool.not_true, Bool.not_false, if_true, if_false, Bool.false_eq_true, List.length_cons, List.length_nil, Nat.reduceAdd, Nat.zero_add, List.append_nil, ixa, ixb, AW4, S2 ha hd, S2 hc hb, S2 hb hd, l]
 rfl
theorem AKO {a b c d : Int} {t : T} (ha : a.natAbs.log2 < 400) (hb : b.natAbs.log2 < 400) (hc : c.natAbs.log2 < 400) (hd : d.natAbs.log2 < 400) (l : G8 [.int (a * c), .int (b * d)] = .ok t) : M6 [.tuple [.int a, .int b], .tuple [.int c, .int d]] = .ok t := by
 rw [show M6 [.tuple [.int a, .int b], .tuple [.int c, .int d]] = clR (Tr.run 2 i7 [.tuple [.int a, .int b], .tuple [.int c, .int d]]) from rfl, AE2 (show O4 2 [.tuple [.int a, .int b], .tuple [.int c, .int d]] = [some (.tuple [.int a, .int b]), some (.tuple [.int c, .int d])] from rfl)]
 simp only [i7, Tr.run, C4, sIf, G5, U4, M4, E7, y8, C6, K5, Tr.gName, List.set_cons_zero, List.set_cons_succ, Tr.e1, Tr.e2, eN, eF, eC, A0, B2, eIf, bV, x9, bOr, Y3, AAT, eOr, eM, M5, R.bind, R.of, ev0, ev1, ev2, ev3, ev4, ev5, ev6, ev7, ev8, ev9, ACJ, ACH, A5, N8, fin, ite_true, ite_false, Bool.not_true, Bool.not_false, if_true, if_false, Bool.false_eq_true, List.length_cons, List.length_nil, Nat.reduceAdd, Nat.zero_add, List.append_nil, ixa, ixb, AW4, S2 ha hc, S2 hb hd, l]
 rfl
theorem AHT {r s : Rat} (hr : Sm r) (hs : Sm s) (h : Sm (r + s)) : ACO [RT r, RT s] = .ok (RT (r + s)) :=
 AQ4 (lg hr.1) (lgd hr.2) (lg hs.1) (lgd hs.2) (AT9 (ARI r s) (AEJ (lgd hr.2) (lgd hs.2)) (AT3 r s) h)
theorem AED {r s : Rat} (hr : Sm r) (hs : Sm s) (h : Sm (r * s)) : AAV [RT r, RT s] = .ok (RT (r * s)) :=
 ANA (lg hr.1) (lgd hr.2) (lg hs.1) (lgd hs.2) (AT9 (ARI r s) (AEJ (lgd hr.2) (lgd hs.2)) (ASZ r s) h)
theorem ATC (s : Rat) : (.tuple [.int (-s.num), .int (s.den : Int)] : T) = RT (-s) := by
 unfold RT
 rw [Rat.neg_num, Rat.neg_den]
theorem AEG {r s : Rat} (hr : Sm r) (hs : Sm s) : J6 [RT r, RT s] = .ok (RT (r + s)) :=
 AMH (lg hr.1) (lgd hr.2) (lg hs.1) (lgd hs.2) (AF7 (ARI r s) (AEJ (lgd hr.2) (lgd hs.2)) (AT3 r s))
theorem AJP {r s : Rat} (hr : Sm r) (hs : Sm s) : M6 [RT r, RT s] = .ok (RT (r * s)) :=
 AKO (lg hr.1) (lgd hr.2) (lg hs.1) (lgd hs.2) (AF7 (ARI r s) (AEJ (lgd hr.2) (lgd hs.2)) (ASZ r s))
structure Mt where
 a : Rat
 b : Rat
 c : Rat
 d : Rat
 e : Rat
 f : Rat
def MT (m : Mt) : T := .tuple [RT m.a, RT m.b, RT m.c, RT m.d, RT m.e, RT m.f]
structure MSm (m : Mt) : Prop where
 a : Sm m.a
 b : Sm m.b
 c : Sm m.c
 d : Sm m.d
 e : Sm m.e
 f : Sm m.f
theorem ANZ : ∀ (rs : List T), rs.all SeqAt.shaped = true → rs.any ADZ = false → K7 [.list rs] = .ok (.tuple rs) := by
 intro rs h1 h2
 have i : AW1 .none (.list rs) = some (.bool false) := by
  show (if rs.all SeqAt.shaped = true then some (rs.any ADZ) else none).map PyData.bool = _
  rw [if_pos h1, h2]; rfl
 have tp : AFV [.list rs] = some (.tuple rs) := rfl
 rw [show K7 [(.list rs)] = clR (Tr.run 1 AAR [(.list rs)]) from rfl, AE2 (show O4 1 [(.list rs)] = [some (.list rs)] from rfl)]
 simp only [AAR, Tr.run, C4, sIf, G5, U4, M4, E7, y8, C6, K5, Tr.gName, List.set_cons_zero, List.set_cons_succ, Tr.e1, Tr.e2, eN, eF, eC, A0, B2, eIf, bV, x9, bOr, Y3, AAT, eOr, eM, M5, R.bind, R.of, ev0, ev1, ev2, ev3, ev4, ev5, ev6, ev7, ev8, ev9, ACJ, ACH, A5, N8, fin, ite_true, ite_false, Bool.not_true, Bool.not_false, if_true, if_false, Bool.false_eq_true, List.length_cons, List.length_nil, Nat.reduceAdd, Nat.zero_add, List.append_nil, i, tp]
 rfl
structure MvSm (m : Mt) (x y : Rat) : Prop where
 sm : MSm m
 sx : Sm x
 sy : Sm y
 ax : Sm (m.a * x)
 cy : Sm (m.c * y)
 axcy : Sm (m.a * x + m.c * y)
 tx : Sm (m.a * x + m.c * y + m.e)
 bx : Sm (m.b * x)
 dy : Sm (m.d * y)
 bxdy : Sm (m.b * x + m.d * y)
 ty : Sm (m.b * x + m.d * y + m.f)
theorem g6 (m : Mt) (o0 o1 o2 o3 o4 o5 o6 o7 o8 o9 o10 : Option T) : Tr.gTup [Tr.gName 3, Tr.gName 4, Tr.gName 5, Tr.gName 6, Tr.gName 7, Tr.gName 8] (MT m) [o0, o1, o2, o3, o4, o5, o6, o7, o8, o9, o10] = some [o0, o1, o2, some (RT m.a), some (RT m.b), some (RT m.c), some (RT m.d), some (RT m.e), some (RT m.f), o9, o10] := rfl
theorem ARM {m : Mt} {x y : Rat} (h : MvSm m x y) : ADW [MT m, RT x, RT y] = .ok (.tuple [RT (m.a * x + m.c * y + m.e), RT (m.b * x + m.d * y + m.f)]) := by
 have al := ANZ [RT (m.a * x + m.c * y + m.e), RT (m.b * x + m.d * y + m.f)] rfl rfl
 have el : ∀ u v : T, ∀ o0 o1 o2 o3 o4 o5 o6 o7 o8 : Option T, ABC (A0 (A3 9) (A0 (A3 10) B2)) [o0, o1, o2, o3, o4, o5, o6, o7, o8, some u, some v] = .ok (.list [u, v]) := fun _ _ _ _ _ _ _ _ _ _ _ => rfl
 rw [show ADW [(MT m), (RT x), (RT y)] = clR (Tr.run 11 AEY [(MT m), (RT x), (RT y)]) from rfl, AE2 (show O4 11 [(MT m), (RT x), (RT y)] = [some (MT m), some (RT x), some (RT y), none, none, none, none, none, none, none, none] from rfl)]
 simp only [AEY, Tr.run, C4, sIf, G5, U4, M4, E7, y8, C6, K5, Tr.gName, List.set_cons_zero, List.set_cons_succ, Tr.e1, Tr.e2, eN, eF, eC, A0, B2, eIf, bV, x9, bOr, Y3, AAT, eOr, eM, M5, R.bind, R.of, ev0, ev1, ev2, ev3, ev4, ev5, ev6, ev7, ev8, ev9, ACJ, ACH, A5, N8, fin, ite_true, ite_false, Bool.not_true, Bool.not_false, if_true, if_false, Bool.false_eq_true, List.length_cons, List.length_nil, Nat.reduceAdd, Nat.zero_add, List.append_nil, g6, AED h.sm.a h.sx h.ax, AED h.sm.c h.sy h.cy, AHT h.ax h.cy h.axcy, AHT h.axcy h.sm.e h.tx, AED h.sm.b h.sx h.bx, AED h.sm.d h.sy h.dy, AHT h.bx h.dy h.bxdy, AHT h.bxdy h.sm.f h.ty, el, al]
 rfl
def turn (m : Mt) : Mt := ⟨m.a, m.b, m.c, m.d, 0, 0⟩
theorem ARO {it : FI} {sel : List (Option Nat)} {g : FG} {test : FT} {te : FE} {ρ : Ev} {ts xs : List T} (h1 : it ρ = .ok ts) (h2 : ts.length ≤ 100000) (h3 : O6 g test te (L6 sel ρ) ts = .ok xs) : U5 it sel g test te ρ = .ok (.list xs) := by
 unfold U5
 rw [h1]
 show (if ts.length ≤ 100000 then (O6 g test te (L6 sel ρ) ts).bind _ else _) = _
 rw [if_pos h2, h3]
 rfl
theorem AZX (m : Mt) (h : MSm m) : O6 (Tr.gName 0) (fun _ => .ok true) (eF (A5 1 [] E4) (A0 (A3 0) B2)) [none] [RT m.a, RT m.b, RT m.c, RT m.d, RT m.e, RT m.f] = .ok [.bool true, .bool true, .bool true, .bool true, .bool true, .bool true] := by
 have g : ∀ t : T, Tr.gName 0 t [none] = some [some t] := fun _ => rfl
 simp only [O6, g, eF, A0, B2, R.bind, ev0, A5, List.length_cons, List.length_nil, Nat.reduceAdd, Nat.zero_add, List.append_nil, if_true, d0 h.a, d0 h.b, d0 h.c, d0 h.d, d0 h.e, d0 h.f]
theorem ASA {m : Mt} (h : MSm m) : v0 [MT m] = .ok (.bool true) := by
 have c : U5 (iOf G7 (A3 0)) [none] (Tr.gName 0) (fun _ => .ok true) (eF (A5 1 [] E4) (A0 (A3 0) B2)) [some (MT m)] = .ok (.list [.bool true, .bool true, .bool true, .bool true, .bool true, .bool true]) := by
  exact ARO (ts := [RT m.a, RT m.b, RT m.c, RT m.d, RT m.e, RT m.f]) rfl (show 6 ≤ 100000 by decide) (AZX m h)
 have i : AIC "tuple" (MT m) = some (.bool true) := rfl
 have l : AFJ [MT m] = some (.int 6) := rfl
 have n6 : neT (.int 6) (.int 6) = some (.bool false) := rfl
 have al : ATB [.list [.bool true, .bool true, .bool true, .bool true, .bool true, .bool true]] = some (.bool true) := rfl
 rw [show v0 [(MT m)] = clR (Tr.run 1 v6 [(MT m)]) from rfl, AE2 (show O4 1 [(MT m)] = [some (MT m)] from rfl)]
 simp only [v6, Tr.run, C4, sIf, G5, U4, M4, E7, y8, C6, K5, Tr.gName, List.set_cons_zero, List.set_cons_succ, Tr.e1, Tr.e2, eN, eF, eC, A0, B2, eIf, bV, x9, bOr, Y3, AAT, eOr, eM, M5, R.bind, R.of, ev0, ev1, ev2, ev3, ev4, ev5, ev6, ev7, ev8, ev9, ACJ, ACH, A5, N8, fin, ite_true, ite_false, Bool.not_true, Bool.not_false, if_true, if_false, Bool.false_eq_true, List.length_cons, List.length_nil, Nat.reduceAdd, Nat.zero_add, List.append_nil, i, l, n6, c, al]
 rfl
theorem ANK {m : Mt} (h : MSm m) : V0 [MT m] = .ok .none := by
 rw [show V0 [(MT m)] = clR (Tr.run 1 V1 [(MT m)]) from rfl, AE2 (show O4 1 [(MT m)] = [some (MT m)] from rfl)]
 simp only [V1, Tr.run, C4, sIf, G5, U4, M4, E7, y8, C6, K5, Tr.gName, List.set_cons_zero, List.set_cons_succ, Tr.e1, Tr.e2, eN, eF, eC, A0, B2, eIf, bV, x9, bOr, Y3, AAT, eOr, eM, M5, R.bind, R.of, ev0, ev1, ev2, ev3, ev4, ev5, ev6, ev7, ev8, ev9, ACJ, ACH, A5, N8, fin, ite_true, ite_false, Bool.not_true, Bool.not_false, if_true, if_false, Bool.false_eq_true, List.length_cons, List.length_nil, Nat.reduceAdd, Nat.zero_add, List.append_nil, ASA h]
 rfl
structure MAt (m : Mt) (q : Int) (p : Nat) : Prop where
 a : At m.a q p
 b : At m.b q p
 c : At m.c q p
 d : At m.d q p
 e : At m.e q p
 f : At m.f q p
structure MB (m : Mt) (q : Int) (p B : Nat) : Prop where
 m : MAt m q p
 nz : q ≠ 0
 le : q.natAbs ≤ B
theorem MB.sm {m : Mt} {q : Int} {p B : Nat} (h : MB m q p B) (hp : (p : Int) < big) (hB : (B : Int) < big) : MSm m := by
 have hq : (q.natAbs : Int) < big := by have := h.le; omega
 exact ⟨v7 h.m.a h.nz hp hq, v7 h.m.b h.nz hp hq, v7 h.m.c h.nz hp hq, v7 h.m.d h.nz hp hq, v7 h.m.e h.nz hp hq, v7 h.m.f h.nz hp hq⟩
theorem AXZ {q s : Int} (hq : q ≠ 0) (hs : s ≠ 0) : q * s ≠ 0 := Int.mul_ne_zero hq hs
theorem AYT {q s : Int} {B C : Nat} (h : q.natAbs ≤ B) (k : s.natAbs ≤ C) : (q * s).natAbs ≤ B * C := by
 rw [Int.natAbs_mul]; exact Nat.mul_le_mul h k
theorem AT5 {m : Mt} {x y : Rat} {q s : Int} {p t B C : Nat} (h : MB m q p B) (hx : At x s t) (hy : At y s t) (hs : s ≠ 0) (hC : s.natAbs ≤ C)
  (n1 : (p : Int) < big) (n2 : (B : Int) < big) (n3 : (t : Int) < big) (n4 : (C : Int) < big) (n5 : ((p * t + p * t + p * C : Nat) : Int) < big) (n6 : ((B * C : Nat) : Int) < big) :
  MvSm m x y ∧ At (m.a * x + m.c * y + m.e) (q * s) (p * t + p * t + p * C) ∧ At (m.b * x + m.d * y + m.f) (q * s) (p * t + p * t + p * C) := by
 have hq := AXZ h.nz hs
 have hl : ((q * s).natAbs : Int) < big := by have := AYT h.le hC; omega
 have up : ∀ {r : Rat}, At r q p → At r (q * s) (p * C) := fun hr => (hr.up s).mono (Nat.mul_le_mul (Nat.le_refl _) hC)
 have ax := h.m.a.mul hx
 have cy := h.m.c.mul hy
 have bx := h.m.b.mul hx
 have dy := h.m.d.mul hy
 have k1 : ((p * t : Nat) : Int) < big := by omega
 have k2 : ((p * t + p * t : Nat) : Int) < big := by omega
 have hsl : (s.natAbs : Int) < big := by omega
 exact ⟨⟨h.sm n1 n2, v7 hx hs n3 hsl, v7 hy hs n3 hsl, v7 ax hq k1 hl, v7 cy hq k1 hl, v7 (ax.add cy) hq k2 hl, v7 ((ax.add cy).add (up h.m.e)) hq n5 hl, v7 bx hq k1 hl, v7 dy hq k1 hl, v7 (bx.add dy) hq k2 hl, v7 ((bx.add dy).add (up h.m.f)) hq n5 hl⟩,
  (ax.add cy).add (up h.m.e), (bx.add dy).add (up h.m.f)⟩
def idM : Mt := ⟨1, 0, 0, 1, 0, 0⟩
theorem AYA {t b c : Int} (hb : b ≠ 0) (h : b * c = 12) (ht : t.natAbs ≤ 200) (hc : c.natAbs ≤ 12) : At (Rat.divInt t b) 12 2400 := by
 refine ⟨t * c, ?_, by rw [Int.natAbs_mul]; exact Nat.mul_le_mul ht hc⟩
 rw [Rat.divInt_eq_div, ← h, Rat.intCast_mul, Rat.intCast_mul]
 have := AH8 hb
 grind
theorem AZO {d : Int} (h0 : 0 ≤ d) (h1 : d < 7) : ∃ b c : Int, ixT (.list [(.int 1), (.int 1), (.int 1), (.int 2), (.int 3), (.int 4), (.int 6)]) (.int d) = some (.int b) ∧ b * c = 12 ∧ 0 < b ∧ b ≤ 6 ∧ c.natAbs ≤ 12 := by
 have : d = 0 ∨ d = 1 ∨ d = 2 ∨ d = 3 ∨ d = 4 ∨ d = 5 ∨ d = 6 := by omega
 rcases this with rfl | rfl | rfl | rfl | rfl | rfl | rfl
 ·exact ⟨1, 12, rfl, by decide, by decide, by decide, by decide⟩
 ·exact ⟨1, 12, rfl, by decide, by decide, by decide, by decide⟩
 ·exact ⟨1, 12, rfl, by decide, by decide, by decide, by decide⟩
 ·exact ⟨2, 6, rfl, by decide, by decide, by decide, by decide⟩
 ·exact ⟨3, 4, rfl, by decide, by decide, by decide, by decide⟩
 ·exact ⟨4, 3, rfl, by decide, by decide, by decide, by decide⟩
 ·exact ⟨6, 2, rfl, by decide, by decide, by decide, by decide⟩
theorem AaB {d : Int} (h0 : 0 ≤ d) (h1 : d < 4) : ∃ M : Int, ixT (.list [(.int 9), (.int 9), (.int 41), (.int 200)]) (.int d) = some (.int M) ∧ 0 < M ∧ M ≤ 200 := by
 have : d = 0 ∨ d = 1 ∨ d = 2 ∨ d = 3 := by omega
 rcases this with rfl | rfl | rfl | rfl
 ·exact ⟨9, rfl, by decide, by decide⟩
 ·exact ⟨9, rfl, by decide, by decide⟩
 ·exact ⟨41, rfl, by decide, by decide⟩
 ·exact ⟨200, rfl, by decide, by decide⟩
theorem AIS {ns : List Int} (hl : ns.length ≤ 63) {k : Int} (hk : 0 ≤ k) : ∃ r : Rat, U9 [.list (ns.map PyData.int), .int k] = .ok (RT r) ∧ At r 12 2400 := by
 obtain ⟨d1, e1, a1, b1⟩ := n9 ns k 7 hk (by decide) hl
 obtain ⟨b, c, hb, hbc, b0, b6, hc⟩ := AZO a1 b1
 obtain ⟨d2, e2', a2, b2⟩ := n9 ns (k + 2) 4 (by omega) (by decide) hl
 obtain ⟨M, hM, M0, M1⟩ := AaB a2 b2
 obtain ⟨d3, e3, a3, b3⟩ := n9 ns (k + 1) M (by omega) M0 hl
 generalize hL : PyData.list (ns.map PyData.int) = L at e1 e2' e3 ⊢
 have lg : b.natAbs.log2 < 9000 := (Nat.log2_lt (by omega)).mpr (Nat.lt_of_lt_of_le (show b.natAbs < 2 ^ 10 by omega) (Nat.pow_le_pow_right (by decide) (by decide)))
 have md : G8 [.int (d3 - 4), .int b] = .ok (RT (Rat.divInt (d3 - 4) b)) := AF7 (by omega) lg rfl
 refine ⟨Rat.divInt (d3 - 4) b, ?_, AYA (by omega) hbc (by omega) hc⟩
 have e0 : P5 [some L, some (.int k), none] = .rt (RT (Rat.divInt (d3 - 4) b)) := by
  unfold P5
  rw [AB0 (v := .int b) (ρ' := [some L, some (.int k), some (.int b)]) (h_2 rfl (AEW (x := L) (y := .int k) rfl rfl rfl e1) hb) rfl]
  exact N6 (ACG (h_2 (AEW (x := L) rfl (h_2 (x := .int k) rfl h_c (AW4 k 1)) (h_2 rfl (AEW (x := L) rfl (h_2 (x := .int k) rfl h_c (AW4 k 2)) rfl e2') hM) e3) h_c (show AC9 (.int d3) (.int 4) = some (.int (d3 - 4)) from rfl)) (y := .int b) rfl md)
 show clR (Tr.run 3 P5 [L, .int k]) = _
 rw [P4 (ρ := [some L, some (.int k), none]) rfl e0]
 rfl
theorem Ab1 {r : Rat} (h : At r 12 2400) : Sm r := v7 h (by decide) (by rw [J5]; omega) (by rw [J5]; omega)
theorem AbU {a b : Int} (ha : a.natAbs ≤ 1000) (h0 : 0 ≤ b) (hb : b ≤ 1000) : J0 (.int a) (.int b) = some (.int (a * b)) := by
 have lg : ∀ u : Int, u.natAbs ≤ 1000 → u.natAbs.log2 < 400 := fun u hu => by
  by_cases hz : u.natAbs = 0
  ·rw [hz]; exact Nat.lt_of_le_of_lt (Nat.le_refl _) (by decide +kernel)
  ·exact (Nat.log2_lt hz).mpr (Nat.lt_of_lt_of_le (show u.natAbs < 2 ^ 10 by omega) (Nat.pow_le_pow_right (by decide) (by decide)))
 exact S2 (lg a ha) (lg b (by omega))
def qm (j : Int) : Mt := if j = 0 then idM else if j = 1 then ⟨0, 1, -1, 0, 0, 0⟩ else if j = 2 then ⟨-1, 0, 0, -1, 0, 0⟩ else ⟨0, -1, 1, 0, 0, 0⟩
theorem AbA (k : Int) : k % 4 = 0 ∨ k % 4 = 1 ∨ k % 4 = 2 ∨ k % 4 = 3 := by omega
theorem AMK (k : Int) : ABE [.int k] = .ok (MT (qm (k % 4))) := by
 have md : ABS (.int k) (.int 4) = some (.int (k % 4)) := Z7 k (by decide)
 generalize hj : k % 4 = j at md
 have hj4 : j = 0 ∨ j = 1 ∨ j = 2 ∨ j = 3 := by rw [← hj]; exact AbA k
 have e0 : AAK [some (.int k)] = .rt (MT (qm j)) := by
  unfold AAK
  rw [S8 (AD9 (k := true) (h_b (ABY (x := .int k) rfl rfl)))]
  have ix : (e2 ABS (A3 0) (eC (.int 4))) [some (.int k)] = .ok (.int j) := h_2 (x := .int k) rfl h_c md
  rcases hj4 with rfl | rfl | rfl | rfl
  ·exact N6 (AEA (X0 (ts := [.int 1, .int 0, .int 0, .int 1, .int 0, .int 0]) (by unfold iOf; rw [h_2 h_c ix (show ixT X6 (.int 0) = some (.tuple [.int 1, .int 0, .int 0, .int 1, .int 0, .int 0]) from rfl)]; rfl) (show 6 ≤ 100000 by decide) rfl) rfl)
  ·exact N6 (AEA (X0 (ts := [.int 0, .int 1, .int (-1), .int 0, .int 0, .int 0]) (by unfold iOf; rw [h_2 h_c ix (show ixT X6 (.int 1) = some (.tuple [.int 0, .int 1, .int (-1), .int 0, .int 0, .int 0]) from rfl)]; rfl) (show 6 ≤ 100000 by decide) rfl) rfl)
  ·exact N6 (AEA (X0 (ts := [.int (-1), .int 0, .int 0, .int (-1), .int 0, .int 0]) (by unfold iOf; rw [h_2 h_c ix (show ixT X6 (.int 2) = some (.tuple [.int (-1), .int 0, .int 0, .int (-1), .int 0, .int 0]) from rfl)]; rfl) (show 6 ≤ 100000 by decide) rfl) rfl)
  ·exact N6 (AEA (X0 (ts := [.int 0, .int (-1), .int 1, .int 0, .int 0, .int 0]) (by unfold iOf; rw [h_2 h_c ix (show ixT X6 (.int 3) = some (.tuple [.int 0, .int (-1), .int 1, .int 0, .int 0, .int 0]) from rfl)]; rfl) (show 6 ≤ 100000 by decide) rfl) rfl)
 show clR (Tr.run 1 AAK [.int k]) = _
 rw [P4 (ρ := [some (.int k)]) rfl e0]
 rfl
theorem q_b (i : Int) : MB (qm (i % 4)) 1 1 1 := by
 have z : At 0 1 1 := At.zero.mono (by decide)
 have o : At 1 1 1 := ⟨1, (by decide +kernel : (1 : Rat) * ((1 : Int) : Rat) = ((1 : Int) : Rat)), by decide⟩
 have m : At (-1) 1 1 := o.neg
 refine ⟨?_, by decide, by decide⟩
 rcases AbA i with h | h | h | h <;> rw [h]
 ·exact ⟨o, z, z, o, z, z⟩
 ·exact ⟨z, o, m, z, z, z⟩
 ·exact ⟨m, z, z, m, z, z⟩
 ·exact ⟨z, m, o, z, z, z⟩
end Kw
end
section
namespace Kw
open PySem hiding start
open PyProof.Rows hiding St
open L2 PySem.Spec Tr
def AKJ : T := .tuple [.str (Str.ofString "whole"), .str (Str.ofString "odd")]
noncomputable def AA5 : FS := (G5 (e2 ltT (e2 J0 (e2 ixT (A3 0) (eC (.int 0))) (e2 ixT (A3 1) (eC (.int 1)))) (e2 J0 (e2 ixT (A3 1) (eC (.int 0))) (e2 ixT (A3 0) (eC (.int 1))))))
noncomputable def W5 : List T → R T := fun ts => clR (Tr.run 2 AA5 ts)
noncomputable def Q9 : FS := (C4 (E7 (Tr.gName 1) (eC (.int 1)))
  (C4 (AEP (iOf G7 (A3 0)) (Tr.gTup [(Tr.gName 2), (Tr.gName 3)]) (E7 (Tr.gName 1) (e2 M7 (e2 J0 (A3 1) (A3 3)) (eF (A5 2 [] C5) (A0 (A3 1) (A0 (A3 3) B2))))))
  (G5 (J3 (A0 (U5 (iOf G7 (A3 0)) [none, none, some 1] (Tr.gTup [(Tr.gName 0), (Tr.gName 1)]) (fun _ => .ok true) (e2 J0 (A3 0) (e2 M7 (A3 2) (A3 1)))) (A0 (A3 1) B2))))))
noncomputable def L8 : List T → R T := fun ts => clR (Tr.run 4 Q9 ts)
noncomputable def t8 : FS := (C4 (sIf (bOr (Y3 (bV (e1 (AIC "tuple") (A3 0)))) (bV (e2 neT (eN AFJ (A0 (A3 0) B2)) (eC (.int 2))))) (G5 (eC (.bool false))) C6)
  (C4 (E7 (Tr.gTup [(Tr.gName 1), (Tr.gName 2)]) (A3 0))
  (G5 (AAT (eF (A5 1 [] E4) (A0 (A3 1) B2)) (eF (A5 1 [] E4) (A0 (A3 2) B2))))))
noncomputable def ABP : List T → R T := fun ts => clR (Tr.run 3 t8 ts)
noncomputable def AAS : FS := (C4 (sIf (bOr (Y3 (bV (e1 (AIC "tuple") (A3 0)))) (bV (e2 neT (eN AFJ (A0 (A3 0) B2)) (eC (.int 2))))) (G5 (eC (.bool false))) C6)
  (C4 (E7 (Tr.gTup [(Tr.gName 1), (Tr.gName 2)]) (A3 0))
  (C4 (sIf (bOr (Y3 (bV (e1 (AIC "tuple") (A3 1)))) (bOr (Y3 (bV (A3 1))) (Y3 (bV (e1 (AIC "bool") (A3 2)))))) (G5 (eC (.bool false))) C6)
  (G5 (eN ATB (A0 (U5 (iOf G7 (A3 1)) [none] (Tr.gName 0) (fun _ => .ok true) (eF (A5 1 [] ABP) (A0 (A3 0) B2))) B2))))))
noncomputable def AD8 : List T → R T := fun ts => clR (Tr.run 3 AAS ts)
noncomputable def AA3 : FS := (G5 (AAT (e1 (AIC "tuple") (A3 0)) (eN ATB (A0 (U5 (iOf G7 (A3 0)) [none] (Tr.gName 0) (fun _ => .ok true) (eF (A5 1 [] AD8) (A0 (A3 0) B2))) B2))))
noncomputable def AB6 : List T → R T := fun ts => clR (Tr.run 1 AA3 ts)
noncomputable def X8 : FS := (sIf (Y3 (bV (eF (A5 1 [] AB6) (A0 (A3 0) B2)))) (AB9 "NoPath" (A0 (eC (.str (Str.ofString "this is no path"))) B2)) C6)
noncomputable def O0 : List T → R T := fun ts => clR (Tr.run 1 X8 ts)
noncomputable def T6 : FS := (C4 (E7 (Tr.gTup [(Tr.gName 2), (Tr.gName 3)]) (A3 0))
  (G5 (eF (A5 1 [] K7) (A0 (ABC (A0 (eF (A5 1 [] K7) (A0 (U5 (iOf G7 (A3 2)) [none, none, some 1] (Tr.gTup [(Tr.gName 0), (Tr.gName 1)]) (fun _ => .ok true) (eF (A5 3 [] ADW) (A0 (A3 2) (A0 (A3 0) (A0 (A3 1) B2))))) B2)) (A0 (A3 3) B2))) B2))))
noncomputable def d7 : List T → R T := fun ts => clR (Tr.run 4 T6 ts)
noncomputable def U2 : FS := (C4 (ADQ (eF (A5 1 [] O0) (A0 (A3 0) B2)))
  (C4 (ADQ (eF (A5 1 [] V0) (A0 (A3 1) B2)))
  (G5 (eF (A5 1 [] K7) (A0 (U5 (iOf G7 (A3 0)) [none, some 1] (Tr.gName 0) (fun _ => .ok true) (eF (A5 2 [] d7) (A0 (A3 0) (A0 (A3 1) B2)))) B2)))))
noncomputable def O3 : List T → R T := fun ts => clR (Tr.run 2 U2 ts)
noncomputable def AAM : FS := (C4 (ARN 1 2 (e2 ixT (A3 0) (eC (.int 0))))
  (C4 (AEP (iOf V9 (A3 0)) (Tr.gName 3) (C4 (sIf (bV (eF (A5 2 [] W5) (A0 (A3 3) (A0 (A3 1) B2)))) (E7 (Tr.gName 1) (A3 3)) C6)
  (sIf (bV (eF (A5 2 [] W5) (A0 (A3 2) (A0 (A3 3) B2)))) (E7 (Tr.gName 2) (A3 3)) C6)))
  (G5 (J3 (A0 (A3 1) (A0 (A3 2) B2))))))
noncomputable def ABL : List T → R T := fun ts => clR (Tr.run 4 AAM ts)
noncomputable def n0 : FS := (C4 (ADQ (eF (A5 1 [] O0) (A0 (A3 0) B2)))
  (C4 (sIf (Y3 (bV (A3 0))) (G5 (eC .none)) C6)
  (C4 (E7 (Tr.gName 1) (AIV (iOf G7 (A3 0)) [none, none, none] (Tr.gTup [(Tr.gName 0), (Tr.gName 1)]) (fun _ => .ok true) (iOf G7 (A3 0)) 2 (fun _ => .ok true) (A3 2)))
  (C4 (E7 (Tr.gTup [(Tr.gName 2), (Tr.gName 3)]) (eF (A5 1 [] ABL) (A0 (U5 (iOf V9 (A3 1)) [none, none] (Tr.gTup [(Tr.gName 0), (Tr.gName 1)]) (fun _ => .ok true) (A3 0)) B2)))
  (C4 (E7 (Tr.gTup [(Tr.gName 4), (Tr.gName 5)]) (eF (A5 1 [] ABL) (A0 (U5 (iOf V9 (A3 1)) [none, none] (Tr.gTup [(Tr.gName 0), (Tr.gName 1)]) (fun _ => .ok true) (A3 1)) B2)))
  (G5 (J3 (A0 (A3 2) (A0 (A3 4) (A0 (A3 3) (A0 (A3 5) B2)))))))))))
noncomputable def AAZ : List T → R T := fun ts => clR (Tr.run 6 n0 ts)
noncomputable def AFD : FS := (G5 (e2 AZR (A3 0) (eC AKJ)))
noncomputable def AAP : List T → R T := fun ts => clR (Tr.run 1 AFD ts)
noncomputable def r9 : FS := (G5 (AAT (eF (A5 1 [] E4) (A0 (A3 0) B2)) (e2 geT (e2 ixT (A3 0) (eC (.int 0))) (eC (.int 0)))))
noncomputable def ABW : List T → R T := fun ts => clR (Tr.run 1 r9 ts)
noncomputable def Q8 : FS := (C4 (ACU 1 (ALE 1 (iOf G7 (A3 0)) (Tr.gTup [(Tr.gName 2), (Tr.gName 3)]) (ALE 1 (iN (AW3 true true) (A0 (A3 2) (A0 (e2 ACI (AG0 (A3 2) (some (eC (.int 1))) none) (AG0 (A3 2) none (some (eC (.int 1))))) B2))) (Tr.gTup [(Tr.gName 4), (Tr.gName 5)]) (AE8 (i8 1 (E7 (Tr.gTup [(Tr.gName 6), (Tr.gName 7)]) (eF (A5 1 [] L8) (A0 (e2 ACI (A3 4) (A3 5)) B2)))) (ANL (e2 ACI (eN AFV (A0 (A3 6) B2)) (J3 (A0 (A3 7) B2))))))))
  (G5 (A3 1)))
noncomputable def m6 : List T → R T := fun ts => clR (Tr.run 8 Q8 ts)
noncomputable def Y7 : FS := (C4 (E7 (Tr.gTup [(Tr.gName 2), (Tr.gName 3)]) (A3 1))
  (C4 (ACU 4 (ALE 4 (iOf V9 (A3 0)) (Tr.gTup [(Tr.gName 5), (Tr.gName 6), (Tr.gName 7), (Tr.gName 8), (Tr.gName 9)]) (AE8 (i8 4 (E7 (Tr.gName 10) (e2 J0 (A3 2) (A3 9)))) (AE8 (i8 4 (E7 (Tr.gName 11) (e2 AC9 (A3 8) (A3 6)))) (AE8 (i8 4 (sIf (AD5 leT ltT (e2 J0 (A3 6) (A3 3)) (A3 10) (e2 J0 (A3 8) (A3 3))) (E7 (Tr.gName 12) (eC (.int 1))) (sIf (AD5 leT ltT (e2 J0 (A3 8) (A3 3)) (A3 10) (e2 J0 (A3 6) (A3 3))) (E7 (Tr.gName 12) (e1 AEH (eC (.int 1)))) ATN))) (AE8 (i8 4 (E7 (Tr.gName 13) (e2 t9 (e2 J0 (e2 J0 (A3 5) (A3 3)) (A3 11)) (e2 J0 (e2 AC9 (A3 10) (e2 J0 (A3 6) (A3 3))) (e2 AC9 (A3 7) (A3 5)))))) (ANL (J3 (A0 (e2 J0 (A3 13) (A3 12)) (A0 (e2 J0 (e2 J0 (e2 J0 (A3 3) (A3 11)) (A3 9)) (A3 12)) (A0 (A3 12) B2)))))))))))
  (G5 (A3 4))))
noncomputable def AB2 : List T → R T := fun ts => clR (Tr.run 14 Y7 ts)
noncomputable def ADF : FS := (C4 (E7 (Tr.gTup [(Tr.gName 2), (Tr.gName 3)]) (A3 1))
  (G5 (eN Aa0 (A0 (U5 (iOf V9 (A3 0)) [none, none, none, some 3, some 2] (Tr.gTup [(Tr.gName 0), (Tr.gName 1), (Tr.gName 2)]) (bV (e2 gtT (e2 J0 (A3 0) (A3 3)) (e2 J0 (A3 4) (A3 1)))) (A3 2)) B2))))
noncomputable def AHG : List T → R T := fun ts => clR (Tr.run 4 ADF ts)
noncomputable def AB1 : FS := (G5 (eIf (bV (e2 eqT (A3 0) (eC (.str (Str.ofString "whole"))))) (e2 neT (A3 1) (eC (.int 0))) (e2 eqT (e2 ABS (A3 1) (eC (.int 2))) (eC (.int 1)))))
noncomputable def ADL : List T → R T := fun ts => clR (Tr.run 2 AB1 ts)
noncomputable def AAL : FS := (C4 (ADQ (eF (A5 1 [] O0) (A0 (A3 0) B2)))
  (C4 (ADQ (eF (A5 1 [] L0) (A0 (A3 1) B2)))
  (C4 (ADQ (eF (A5 1 [] L0) (A0 (A3 2) B2)))
  (G5 (eF (A5 2 [] AHG) (A0 (eF (A5 2 [] AB2) (A0 (eF (A5 1 [] m6) (A0 (A3 0) B2)) (A0 (A3 2) B2))) (A0 (A3 1) B2)))))))
noncomputable def D4 : List T → R T := fun ts => clR (Tr.run 3 AAL ts)
noncomputable def Z1 : FS := (C4 (ADQ (eF (A5 1 [] O0) (A0 (A3 0) B2)))
  (C4 (sIf (Y3 (bV (eF (A5 1 [] AAP) (A0 (A3 1) B2)))) (AB9 "NoRule" (A0 (eC (.str (Str.ofString "this is no rule"))) B2)) C6)
  (G5 (eF (A5 2 [] ADL) (A0 (A3 1) (A0 (eF (A5 3 [] D4) (A0 (A3 0) (A0 (A3 2) (A0 (A3 3) B2)))) B2))))))
noncomputable def J1 : List T → R T := fun ts => clR (Tr.run 4 Z1 ts)
noncomputable def Q5 : FS := (C4 (E7 (Tr.gName 2) (J3 (A0 (e2 ixT (A3 1) (eC (.int 0))) (A0 (e2 J0 (e2 ixT (A3 1) (eC (.int 1))) (eC (.int 2))) B2))))
  (C4 (ACU 3 (ALE 3 (iOf G7 (A3 0)) (Tr.gTup [(Tr.gName 4), (Tr.gName 5)]) (AE8 (i8 3 (E7 (Tr.gName 6) (eIf (bOr (bV (A3 5)) (bV (e2 eqT (eN AFJ (A0 (A3 4) B2)) (eC (.int 1))))) (e2 ACI (AG0 (A3 4) (some (eC (.int 1))) none) (AG0 (A3 4) none (some (eC (.int 1))))) (AG0 (A3 4) (some (eC (.int 1))) none)))) (ALE 3 (iN (AW3 true true) (A0 (A3 4) (A0 (A3 6) B2))) (Tr.gTup [(Tr.gName 7), (Tr.gName 8)]) (AE8 (i8 3 (E7 (Tr.gTup [(Tr.gName 9), (Tr.gName 10)]) (eF (A5 1 [] L8) (A0 (e2 ACI (e2 ACI (A3 7) (A3 8)) (J3 (A0 (A3 2) B2))) B2)))) (ANL (e2 ACI (eN AFV (A0 (A3 9) B2)) (J3 (A0 (A3 10) B2)))))))))
  (G5 (A3 3))))
noncomputable def r0 : List T → R T := fun ts => clR (Tr.run 11 Q5 ts)
noncomputable def AAD : FS := (C4 (E7 (Tr.gTup [(Tr.gName 4), (Tr.gName 5), (Tr.gName 6), (Tr.gName 7), (Tr.gName 8), (Tr.gName 9)]) (A3 0))
  (C4 (y8 10 11 (A0 (e2 J0 (e2 AC9 (A3 6) (A3 4)) (A3 3)) (A0 (e2 J0 (e2 AC9 (A3 7) (A3 5)) (A3 3)) B2)))
  (C4 (y8 12 13 (A0 (e2 AC9 (e2 J0 (A3 1) (A3 9)) (e2 J0 (A3 4) (A3 3))) (A0 (e2 AC9 (e2 J0 (A3 2) (A3 9)) (e2 J0 (A3 5) (A3 3))) B2)))
  (C4 (E7 (Tr.gName 14) (e2 AJY (e2 J0 (A3 8) (A3 3)) (eC (.int 2))))
  (C4 (E7 (Tr.gName 15) (e2 t9 (e2 AJY (A3 10) (eC (.int 2))) (e2 AJY (A3 11) (eC (.int 2)))))
  (C4 (E7 (Tr.gName 16) (e2 t9 (e2 J0 (A3 12) (A3 10)) (e2 J0 (A3 13) (A3 11))))
  (C4 (sIf (bV (e2 leT (A3 16) (eC (.int 0)))) (G5 (e2 leT (e2 t9 (e2 AJY (A3 12) (eC (.int 2))) (e2 AJY (A3 13) (eC (.int 2)))) (A3 14))) C6)
  (C4 (sIf (bV (e2 geT (A3 16) (A3 15))) (G5 (e2 leT (e2 t9 (e2 AJY (e2 AC9 (A3 12) (A3 10)) (eC (.int 2))) (e2 AJY (e2 AC9 (A3 13) (A3 11)) (eC (.int 2)))) (A3 14))) C6)
  (G5 (e2 leT (e2 AJY (e2 AC9 (e2 J0 (A3 12) (A3 11)) (e2 J0 (A3 13) (A3 10))) (eC (.int 2))) (e2 J0 (A3 14) (A3 15))))))))))))
noncomputable def V6 : List T → R T := fun ts => clR (Tr.run 17 AAD ts)
noncomputable def Q6 : FS := (C4 (AEP (iOf V9 (A3 0)) (Tr.gName 4) (sIf (bV (eF (A5 4 [] V6) (A0 (A3 4) (A0 (A3 1) (A0 (A3 2) (A0 (A3 3) B2)))))) (G5 (eC (.bool true))) C6))
  (G5 (eC (.bool false))))
noncomputable def m5 : List T → R T := fun ts => clR (Tr.run 5 Q6 ts)
noncomputable def N3 : FS := (C4 (ADQ (eF (A5 1 [] O0) (A0 (A3 0) B2)))
  (C4 (sIf (Y3 (bV (eF (A5 1 [] ABW) (A0 (A3 1) B2)))) (AB9 "NoNumber" (A0 (eC (.str (Str.ofString "a width is a number not below 0"))) B2)) C6)
  (C4 (ADQ (eF (A5 1 [] L0) (A0 (A3 2) B2)))
  (C4 (ADQ (eF (A5 1 [] L0) (A0 (A3 3) B2)))
  (C4 (E7 (Tr.gTup [(AZB [(Tr.gName 4), (Tr.gName 5)]), (Tr.gName 6)]) (eF (A5 1 [] L8) (A0 (J3 (A0 (A3 2) (A0 (A3 3) B2))) B2)))
  (G5 (eF (A5 4 [] m5) (A0 (eF (A5 2 [] r0) (A0 (A3 0) (A0 (A3 1) B2))) (A0 (A3 4) (A0 (A3 5) (A0 (A3 6) B2)))))))))))
noncomputable def R8 : List T → R T := fun ts => clR (Tr.run 7 N3 ts)
noncomputable def T1 : FS := (C4 (E7 (Tr.gName 2) (e2 ixT (eC (.list [(.int 1), (.int 1), (.int 2), (.int 3), (.int 4)])) (eF (A5 3 [] G4) (A0 (A3 0) (A0 (A3 1) (A0 (eC (.int 5)) B2))))))
  (C4 (y8 3 4 (A0 (eF (A5 3 [] G4) (A0 (A3 0) (A0 (e2 t9 (A3 1) (eC (.int 1))) (A0 (e2 J0 (eC (.int 11)) (A3 2)) B2)))) (A0 (eF (A5 3 [] G4) (A0 (A3 0) (A0 (e2 t9 (A3 1) (eC (.int 2))) (A0 (e2 J0 (eC (.int 11)) (A3 2)) B2)))) B2)))
  (G5 (J3 (A0 (eF (A5 2 [] G8) (A0 (e2 AC9 (A3 3) (A3 2)) (A0 (A3 2) B2))) (A0 (eF (A5 2 [] G8) (A0 (e2 AC9 (A3 4) (A3 2)) (A0 (A3 2) B2))) B2))))))
noncomputable def K9 : List T → R T := fun ts => clR (Tr.run 5 T1 ts)
noncomputable def Y0 : FS := (C4 (E7 (Tr.gName 2) (e2 t9 (eC (.int 1)) (eF (A5 3 [] G4) (A0 (A3 0) (A0 (A3 1) (A0 (eC (.int 5)) B2))))))
  (C4 (E7 (Tr.gName 3) (eN AFV (A0 (U5 (iN ATV (A0 (A3 2) B2)) [none, some 0, some 1] (Tr.gName 0) (fun _ => .ok true) (eF (A5 2 [] K9) (A0 (A3 1) (A0 (e2 t9 (e2 t9 (A3 2) (eC (.int 2))) (e2 J0 (eC (.int 3)) (A3 0))) B2)))) B2)))
  (G5 (J3 (A0 (A3 3) (A0 (e2 eqT (eF (A5 3 [] G4) (A0 (A3 0) (A0 (e2 t9 (A3 1) (eC (.int 1))) (A0 (eC (.int 2)) B2)))) (eC (.int 0))) B2))))))
noncomputable def w9 : List T → R T := fun ts => clR (Tr.run 4 Y0 ts)
noncomputable def X1 : FS := (G5 (eN AFV (A0 (U5 (iN ATV (A0 (eF (A5 3 [] G4) (A0 (A3 0) (A0 (A3 1) (A0 (eC (.int 4)) B2)))) B2)) [none, some 0, some 1] (Tr.gName 0) (fun _ => .ok true) (eF (A5 2 [] w9) (A0 (A3 1) (A0 (e2 t9 (e2 t9 (A3 2) (eC (.int 1))) (e2 J0 (eC (.int 18)) (A3 0))) B2)))) B2)))
noncomputable def w8 : List T → R T := fun ts => clR (Tr.run 2 X1 ts)
noncomputable def AC6 : FS := (G5 (e2 ltT (e2 J0 (e2 ixT (A3 0) (eC (.int 0))) (e2 ixT (A3 1) (eC (.int 1)))) (e2 J0 (e2 ixT (A3 1) (eC (.int 0))) (e2 ixT (A3 0) (eC (.int 1))))))
noncomputable def L1 : List T → R T := fun ts => clR (Tr.run 2 AC6 ts)
noncomputable def P8 : FS := (G5 (eN AFV (A0 (U5 (iOf G7 (A3 0)) [none, none] (Tr.gTup [(Tr.gName 0), (Tr.gName 1)]) (fun _ => .ok true) (J3 (A0 (AZ2 (A3 0) (some (e1 AEH (eC (.int 1))))) (A0 (A3 1) B2)))) B2)))
noncomputable def W3 : List T → R T := fun ts => clR (Tr.run 1 P8 ts)
noncomputable def T5 : FS := (C4 (ACU 1 (ALE 1 (iOf G7 (A3 0)) (Tr.gTup [(Tr.gName 2), (Tr.gName 3)]) (AE8 (i8 1 (E7 (Tr.gName 4) (ABC B2))) (AE8 (i8 1 (AEP (iN (AV8 true) (A0 (A3 2) B2)) (Tr.gTup [(Tr.gName 5), (Tr.gName 6)]) (C4 (E7 (Tr.gName 7) (e2 ixT (A3 2) (e2 ABS (e2 t9 (A3 5) (eC (.int 1))) (eN AFJ (A0 (A3 2) B2)))))
  (C4 (E7 (Tr.gName 8) (eN AFV (A0 (U5 (iN ATV (A0 (eC (.int 2)) B2)) [none, some 6, some 7] (Tr.gName 0) (fun _ => .ok true) (eF (A5 2 [] M6) (A0 (eF (A5 2 [] J6) (A0 (e2 ixT (A3 1) (A3 0)) (A0 (e2 ixT (A3 2) (A3 0)) B2))) (A0 (eC (.tuple [(.int 1), (.int 2)])) B2)))) B2)))
  (E7 (Tr.gName 4) (e2 t9 (A3 4) (ABC (A0 (A3 6) (A0 (A3 8) B2))))))))) (ANL (J3 (A0 (eN AFV (A0 (A3 4) B2)) (A0 (A3 3) B2))))))))
  (G5 (eN AFV (A0 (A3 1) B2))))
noncomputable def d5 : List T → R T := fun ts => clR (Tr.run 9 T5 ts)
noncomputable def J8 : FS := (C4 (sIf (bOr (bV (e2 isT (A3 0) (eC .none))) (bOr (bV (eF (A5 2 [] L1) (A0 (A3 1) (A0 (e2 ixT (A3 0) (eC (.int 0))) B2)))) (bV (eF (A5 2 [] L1) (A0 (e2 ixT (A3 0) (eC (.int 2))) (A0 (A3 1) B2)))))) (G5 (eC (.bool true))) C6)
  (G5 (eOr (eF (A5 2 [] L1) (A0 (A3 2) (A0 (e2 ixT (A3 0) (eC (.int 1))) B2))) (eF (A5 2 [] L1) (A0 (e2 ixT (A3 0) (eC (.int 3))) (A0 (A3 2) B2))))))
noncomputable def U7 : List T → R T := fun ts => clR (Tr.run 3 J8 ts)
noncomputable def ANE : FS := (C4 (y8 1 2 (A0 (eF (A5 2 [] w8) (A0 (A3 0) (A0 (eC (.int 0)) B2))) (A0 (eF (A5 2 [] w8) (A0 (A3 0) (A0 (eC (.int 60)) B2))) B2)))
  (C4 (E7 (Tr.gName 3) (J3 (A0 (eC (.tuple [(.int 1), (.int 1)])) (A0 (eC (.tuple [(.int 0), (.int 1)])) (A0 (eC (.tuple [(.int 0), (.int 1)])) (A0 (eC (.tuple [(.int 1), (.int 1)])) (A0 (eF (A5 2 [] U9) (A0 (A3 0) (A0 (eC (.int 120)) B2))) (A0 (eF (A5 2 [] U9) (A0 (A3 0) (A0 (eC (.int 124)) B2))) B2))))))))
  (C4 (E7 (Tr.gName 4) (eN AFV (A0 (U5 (iOf G7 (A3 1)) [none, none] (Tr.gTup [(Tr.gName 0), (Tr.gName 1)]) (fun _ => .ok true) (J3 (A0 (e2 ACI (AG0 (A3 0) (some (eC (.int 1))) none) (AG0 (A3 0) none (some (eC (.int 1))))) (A0 (A3 1) B2)))) B2)))
  (C4 (AEP (iN ATV (A0 (eC (.int 5)) B2)) (Tr.gName 5) (C4 (E7 (Tr.gTup [(Tr.gName 6), (Tr.gName 7)]) (eF (A5 2 [] K9) (A0 (A3 0) (A0 (e2 t9 (eC (.int 130)) (e2 J0 (eC (.int 4)) (A3 5))) B2))))
  (C4 (E7 (Tr.gName 8) (eF (A5 3 [] D4) (A0 (A3 1) (A0 (A3 6) (A0 (A3 7) B2)))))
  (C4 (sIf (bV (e2 neT (eF (A5 3 [] D4) (A0 (e2 ACI (A3 1) (A3 2)) (A0 (A3 6) (A0 (A3 7) B2)))) (e2 t9 (A3 8) (eF (A5 3 [] D4) (A0 (A3 2) (A0 (A3 6) (A0 (A3 7) B2))))))) (G5 (eC (.bool false))) C6)
  (C4 (sIf (bV (e2 neT (eF (A5 3 [] D4) (A0 (e2 ACI (A3 2) (A3 1)) (A0 (A3 6) (A0 (A3 7) B2)))) (eF (A5 3 [] D4) (A0 (e2 ACI (A3 1) (A3 2)) (A0 (A3 6) (A0 (A3 7) B2)))))) (G5 (eC (.bool false))) C6)
  (C4 (E7 (Tr.gName 9) (eF (A5 4 [] R8) (A0 (eN AFV (A0 (U5 (iOf G7 (A3 1)) [none, none] (Tr.gTup [(Tr.gName 0), (Tr.gName 1)]) (fun _ => .ok true) (J3 (A0 (A3 0) (A0 (eC (.bool true)) B2)))) B2)) (A0 (eC (.tuple [(.int 0), (.int 1)])) (A0 (A3 6) (A0 (A3 7) B2))))))
  (C4 (sIf (x9 (Y3 (bV (A3 9))) (bV (e2 neT (eF (A5 3 [] D4) (A0 (eF (A5 1 [] W3) (A0 (A3 1) B2)) (A0 (A3 6) (A0 (A3 7) B2)))) (e1 AEH (A3 8))))) (G5 (eC (.bool false))) C6)
  (C4 (sIf (bOr (bV (e2 neT (eF (A5 3 [] D4) (A0 (eF (A5 1 [] d5) (A0 (A3 1) B2)) (A0 (A3 6) (A0 (A3 7) B2)))) (A3 8))) (bV (e2 neT (eF (A5 3 [] D4) (A0 (A3 4) (A0 (A3 6) (A0 (A3 7) B2)))) (A3 8)))) (G5 (eC (.bool false))) C6)
  (C4 (E7 (Tr.gName 10) (eF (A5 2 [] O3) (A0 (A3 1) (A0 (A3 3) B2))))
  (C4 (sIf (bV (e2 neT (eF (A5 3 [] D4) (A0 (A3 10) (A0 (eF (A5 2 [] J6) (A0 (A3 6) (A0 (e2 ixT (A3 3) (eC (.int 4))) B2))) (A0 (eF (A5 2 [] J6) (A0 (A3 7) (A0 (e2 ixT (A3 3) (eC (.int 5))) B2))) B2)))) (A3 8))) (G5 (eC (.bool false))) C6)
  (C4 (E7 (Tr.gName 11) (eF (A5 2 [] O3) (A0 (A3 1) (A0 (eF (A5 1 [] ABE) (A0 (eC (.int 2)) B2)) B2))))
  (C4 (sIf (x9 (Y3 (bV (A3 9))) (bV (e2 neT (eF (A5 3 [] D4) (A0 (A3 11) (A0 (J3 (A0 (e1 AEH (e2 ixT (A3 6) (eC (.int 0)))) (A0 (e2 ixT (A3 6) (eC (.int 1))) B2))) (A0 (J3 (A0 (e1 AEH (e2 ixT (A3 7) (eC (.int 0)))) (A0 (e2 ixT (A3 7) (eC (.int 1))) B2))) B2)))) (A3 8)))) (G5 (eC (.bool false))) C6)
  (C4 (sIf (bV (eF (A5 4 [] J1) (A0 (e2 ACI (A3 1) (A3 1)) (A0 (eC (.str (Str.ofString "odd"))) (A0 (A3 6) (A0 (A3 7) B2)))))) (G5 (eC (.bool false))) C6)
  (C4 (sIf (bV (e2 neT (eF (A5 4 [] J1) (A0 (e2 ACI (A3 1) (A3 1)) (A0 (eC (.str (Str.ofString "whole"))) (A0 (A3 6) (A0 (A3 7) B2))))) (eF (A5 4 [] J1) (A0 (A3 1) (A0 (eC (.str (Str.ofString "whole"))) (A0 (A3 6) (A0 (A3 7) B2))))))) (G5 (eC (.bool false))) C6)
  (C4 (sIf (x9 (bV (eF (A5 4 [] J1) (A0 (A3 1) (A0 (eC (.str (Str.ofString "odd"))) (A0 (A3 6) (A0 (A3 7) B2)))))) (Y3 (bV (eF (A5 4 [] J1) (A0 (A3 1) (A0 (eC (.str (Str.ofString "whole"))) (A0 (A3 6) (A0 (A3 7) B2)))))))) (G5 (eC (.bool false))) C6)
  (sIf (x9 (bV (e2 neT (A3 8) (eC (.int 0)))) (bV (eF (A5 3 [] U7) (A0 (eF (A5 1 [] AAZ) (A0 (A3 1) B2)) (A0 (A3 6) (A0 (A3 7) B2)))))) (G5 (eC (.bool false))) C6))))))))))))))))
  (G5 (e2 eqT (eF (A5 3 [] D4) (A0 (J3 B2) (A0 (eC (.tuple [(.int 0), (.int 1)])) (A0 (eC (.tuple [(.int 0), (.int 1)])) B2)))) (eC (.int 0))))))))
noncomputable def API : List T → R T := fun ts => clR (Tr.run 12 ANE ts)
end Kw
end
section
namespace Kw
open PySem hiding start
open PyProof.Rows hiding St
open L2 PySem.Spec Tr PySem.NumText
abbrev P2 := Rat × Rat
def PT (p : P2) : T := .tuple [RT p.1, RT p.2]
def PaT (q : List P2 × Bool) : T := .tuple [.tuple (q.1.map PT), .bool q.2]
def PhT (ps : List (List P2 × Bool)) : T := .tuple (ps.map PaT)
def A12 (p : P2) : Prop := At p.1 12 120 ∧ At p.2 12 120
theorem AFZ {r : Rat} (h : At r 12 120) : Sm r := v7 h (by decide) (by rw [J5]; omega) (by rw [J5]; omega)
theorem AXS (r : Rat) : Sh 1 (RT r) := ACQ fun t ht => by
 rcases List.mem_cons.mp ht with rfl | ht
 ·exact AP9 _ _
 ·rw [List.mem_singleton.mp ht]; exact AP9 _ _
theorem AVP (p : P2) : Sh 2 (PT p) := ACQ fun t ht => by
 rcases List.mem_cons.mp ht with rfl | ht
 ·exact AXS _
 ·rw [List.mem_singleton.mp ht]; exact AXS _
theorem AY0 (q : List P2 × Bool) : Sh 4 (PaT q) := ACQ fun t ht => by
 rcases List.mem_cons.mp ht with rfl | ht
 ·exact ACQ fun u hu => by
   obtain ⟨p, _, rfl⟩ := List.mem_map.mp hu
   exact AVP p
 ·rw [List.mem_singleton.mp ht]; exact AK2 _ _
theorem AMV {p : P2} (hx : Sm p.1) (hy : Sm p.2) : ABP [PT p] = .ok (.bool true) := by
 have e : t8 [some (PT p), none, none] = .rt (.bool true) := by
  unfold t8
  rw [S8 (AYP (AD9 (k := true) (h_b (h_1 (x := PT p) rfl rfl))) (h_b (h_2 (AEA (x := PT p) (z := .int 2) rfl rfl) h_c rfl)))]
  rw [AFS (v := PT p) (ρ' := [some (PT p), some (RT p.1), some (RT p.2)]) rfl rfl]
  exact N6 (AP4 (ABY (x := RT p.1) rfl (d0 hx)) (ABY (x := RT p.2) rfl (d0 hy)))
 show clR (Tr.run 3 t8 [PT p]) = _
 rw [P4 (ρ := [some (PT p), none, none]) rfl e]
 rfl
theorem AOP {q : List P2 × Bool} (h0 : q.1 ≠ []) (hl : q.1.length ≤ 1000) (h : ∀ p ∈ q.1, Sm p.1 ∧ Sm p.2) : AD8 [PaT q] = .ok (.bool true) := by
 obtain ⟨pts, b⟩ := q
 have tr : N8 (.tuple (pts.map PT)) = some true := by
  cases pts with
  | nil => exact absurd rfl h0
  | cons a r => rfl
 have bv : bV (A3 1) [some (PaT (pts, b)), some (.tuple (pts.map PT)), some (.bool b)] = .ok true := by
  show R.of (N8 (.tuple (pts.map PT))) = _
  rw [tr]; rfl
 have e : AAS [some (PaT (pts, b)), none, none] = .rt (.bool true) := by
  unfold AAS
  rw [S8 (AYP (AD9 (k := true) (h_b (h_1 (x := PaT (pts, b)) rfl rfl))) (h_b (h_2 (AEA (x := PaT (pts, b)) (z := .int 2) rfl rfl) h_c rfl)))]
  rw [AFS (v := PaT (pts, b)) (ρ' := [some (PaT (pts, b)), some (.tuple (pts.map PT)), some (.bool b)]) rfl rfl]
  rw [S8 (AYP (AD9 (k := true) (h_b (h_1 (x := .tuple (pts.map PT)) rfl rfl))) (AYP (AD9 (k := true) bv) (AD9 (k := true) (h_b (h_1 (x := .bool b) rfl rfl)))))]
  refine N6 (ALL (ts := pts.map PT) (fun t ht => ?_) (by rw [List.length_map]; exact Nat.le_trans hl (by decide)) (j8 rfl))
  obtain ⟨p, hp, rfl⟩ := List.mem_map.mp ht
  exact AMV (h p hp).1 (h p hp).2
 show clR (Tr.run 3 AAS [PaT (pts, b)]) = _
 rw [P4 (ρ := [some (PaT (pts, b)), none, none]) rfl e]
 rfl
structure Good (ps : List (List P2 × Bool)) : Prop where
 few : ps.length ≤ 6
 some : ∀ q ∈ ps, q.1 ≠ []
 short : ∀ q ∈ ps, q.1.length ≤ 5
 pts : ∀ q ∈ ps, ∀ p ∈ q.1, A12 p
structure GP (ps : List (List P2 × Bool)) : Prop where
 few : ps.length ≤ 6
 some : ∀ q ∈ ps, q.1 ≠ []
 short : ∀ q ∈ ps, q.1.length ≤ 10
 pts : ∀ q ∈ ps, ∀ p ∈ q.1, Sm p.1 ∧ Sm p.2
theorem Good.gp {ps : List (List P2 × Bool)} (h : Good ps) : GP ps := ⟨h.few, h.some, fun q hq => Nat.le_trans (h.short q hq) (by decide), fun q hq p hp => ⟨AFZ (h.pts q hq p hp).1, AFZ (h.pts q hq p hp).2⟩⟩
theorem AAE {ps : List (List P2 × Bool)} (h : GP ps) : AB6 [PhT ps] = .ok (.bool true) := by
 have e : AA3 [some (PhT ps)] = .rt (.bool true) := by
  unfold AA3
  refine N6 (AP4 (h_1 (x := PhT ps) rfl rfl) (ALL (ts := ps.map PaT) (fun t ht => ?_) (by rw [List.length_map]; have := h.few; omega) (j8 rfl)))
  obtain ⟨q, hq, rfl⟩ := List.mem_map.mp ht
  exact AOP (h.some q hq) (by have := h.short q hq; omega) (h.pts q hq)
 show clR (Tr.run 1 AA3 [PhT ps]) = _
 rw [P4 (ρ := [some (PhT ps)]) rfl e]
 rfl
theorem Y5 {t : T} (h : AB6 [t] = .ok (.bool true)) : O0 [t] = .ok .none := by
 have e : X8 [some t] = .nx [some t] := by
  unfold X8
  exact AU3 (AD9 (k := true) (h_b (ABY (x := t) rfl h))) rfl
 show clR (Tr.run 1 X8 [t]) = _
 rw [P4 (ρ := [some t]) rfl e]
 rfl
theorem AaS {d : Int} (h0 : 0 ≤ d) (h1 : d < 5) : ∃ b c : Int, ixT (.list [(.int 1), (.int 1), (.int 2), (.int 3), (.int 4)]) (.int d) = some (.int b) ∧ b * c = 12 ∧ 0 < b ∧ b ≤ 4 ∧ 0 < c ∧ c ≤ 12 := by
 have : d = 0 ∨ d = 1 ∨ d = 2 ∨ d = 3 ∨ d = 4 := by omega
 rcases this with rfl | rfl | rfl | rfl | rfl
 ·exact ⟨1, 12, rfl, by decide, by decide, by decide, by decide, by decide⟩
 ·exact ⟨1, 12, rfl, by decide, by decide, by decide, by decide, by decide⟩
 ·exact ⟨2, 6, rfl, by decide, by decide, by decide, by decide, by decide⟩
 ·exact ⟨3, 4, rfl, by decide, by decide, by decide, by decide, by decide⟩
 ·exact ⟨4, 3, rfl, by decide, by decide, by decide, by decide, by decide⟩
theorem AXO {t b c : Int} (hb : 0 < b) (h : b * c = 12) (hc : 0 < c) (h1 : -b ≤ t) (h2 : t < 10 * b) : At (Rat.divInt t b) 12 120 := by
 refine ⟨t * c, ?_, ?_⟩
 ·rw [Rat.divInt_eq_div, ← h, Rat.intCast_mul, Rat.intCast_mul]
  have := AH8 (show b ≠ 0 by omega)
  grind
 ·have k1 : t * c ≤ 10 * b * c := Int.mul_le_mul_of_nonneg_right (by omega) (by omega)
  have k2 : -b * c ≤ t * c := Int.mul_le_mul_of_nonneg_right h1 (by omega)
  have k3 : 10 * b * c = 120 := by rw [Int.mul_assoc, h]; rfl
  have k4 : -b * c = -12 := by rw [Int.neg_mul, h]
  omega
theorem AG5 {ns : List Int} (hl : ns.length ≤ 63) {k : Int} (hk : 0 ≤ k) : ∃ p : P2, K9 [.list (ns.map PyData.int), .int k] = .ok (PT p) ∧ A12 p := by
 obtain ⟨d1, e1, a1, b1⟩ := n9 ns k 5 hk (by decide) hl
 obtain ⟨b, c, hb, hbc, b0, b4, c0, c12⟩ := AaS a1 b1
 obtain ⟨d2, e2', a2, b2⟩ := n9 ns (k + 1) (11 * b) (by omega) (by omega) hl
 obtain ⟨d3, e3, a3, b3⟩ := n9 ns (k + 2) (11 * b) (by omega) (by omega) hl
 generalize hL : PyData.list (ns.map PyData.int) = L at e1 e2' e3 ⊢
 have lg : b.natAbs.log2 < 9000 := (Nat.log2_lt (by omega)).mpr (Nat.lt_of_lt_of_le (show b.natAbs < 2 ^ 10 by omega) (Nat.pow_le_pow_right (by decide) (by decide)))
 have m1 : G8 [.int (d2 - b), .int b] = .ok (RT (Rat.divInt (d2 - b) b)) := AF7 (by omega) lg rfl
 have m2 : G8 [.int (d3 - b), .int b] = .ok (RT (Rat.divInt (d3 - b) b)) := AF7 (by omega) lg rfl
 have mb : J0 (.int 11) (.int b) = some (.int (11 * b)) := AL8 (by decide) (by omega)
 refine ⟨(Rat.divInt (d2 - b) b, Rat.divInt (d3 - b) b), ?_, AXO b0 hbc c0 (by omega) (by omega), AXO b0 hbc c0 (by omega) (by omega)⟩
 have e0 : T1 [some L, some (.int k), none, none, none] = .rt (PT (Rat.divInt (d2 - b) b, Rat.divInt (d3 - b) b)) := by
  unfold T1
  rw [AB0 (v := .int b) (ρ' := [some L, some (.int k), some (.int b), none, none]) (h_2 h_c (AEW (x := L) (y := .int k) rfl rfl h_c e1) hb) rfl]
  rw [ASD (x := .int d2) (y := .int d3) (ρ' := [some L, some (.int k), some (.int b), some (.int d2), some (.int d3)]) (AEW (x := L) rfl (h_2 (x := .int k) rfl h_c (ACA k 1)) (h_2 h_c (y := .int b) rfl mb) e2') (AEW (x := L) rfl (h_2 (x := .int k) rfl h_c (ACA k 2)) (h_2 h_c (y := .int b) rfl mb) e3) rfl]
  exact N6 (APP (ACG (h_2 (x := .int d2) (y := .int b) rfl rfl (AE5 d2 b)) (y := .int b) rfl m1) (ACG (h_2 (x := .int d3) (y := .int b) rfl rfl (AE5 d3 b)) (y := .int b) rfl m2))
 show clR (Tr.run 5 T1 [L, .int k]) = _
 rw [P4 (ρ := [some L, some (.int k), none, none, none]) rfl e0]
 rfl
theorem AK4 {α : Type} {P : α → Prop} {i : α → T} {te : FE} {ρ : Ev} : ∀ ks : List Int, (∀ k ∈ ks, ∃ a, te (ρ.set 0 (some (.int k))) = .ok (i a) ∧ P a) →
  ∃ as : List α, as.length = ks.length ∧ O6 (Tr.gName 0) (fun _ => .ok true) te ρ (ks.map PyData.int) = .ok (as.map i) ∧ ∀ a ∈ as, P a
 | [], _ => ⟨[], rfl, rfl, fun r hr => (List.not_mem_nil hr).elim⟩
 | k :: ks, h => by
  obtain ⟨r, h1, h2⟩ := h k List.mem_cons_self
  obtain ⟨rs, g1, g2, g3⟩ := AK4 ks fun j hj => h j (List.mem_cons_of_mem _ hj)
  refine ⟨r :: rs, by rw [List.length_cons, List.length_cons, g1], ?_, fun x hx => ?_⟩
  ·rw [List.map_cons, O6]
   have g : Tr.gName 0 (.int k) ρ = some (ρ.set 0 (some (.int k))) := rfl
   simp only [g, h1, g2]
   rfl
  ·rcases List.mem_cons.mp hx with rfl | hx
   ·exact h2
   ·exact g3 x hx
theorem AQD {ns : List Int} (hl : ns.length ≤ 63) {k : Int} (hk : 0 ≤ k) : ∃ q : List P2 × Bool, w9 [.list (ns.map PyData.int), .int k] = .ok (PaT q) ∧ q.1 ≠ [] ∧ q.1.length ≤ 5 ∧ ∀ p ∈ q.1, A12 p := by
 obtain ⟨d1, e1, a1, b1⟩ := n9 ns k 5 hk (by decide) hl
 obtain ⟨d2, e2', a2, b2⟩ := n9 ns (k + 1) 2 (by omega) (by decide) hl
 have pts := fun (j : Int) (hj : 0 ≤ j) => AG5 (ns := ns) (k := k + 2 + 3 * j) hl (by omega)
 generalize hL : PyData.list (ns.map PyData.int) = L at e1 e2' pts ⊢
 obtain ⟨ts, g1, g2, g3⟩ := AK4 (P := A12) (i := PT) (te := (eF (A5 2 [] K9) (A0 (A3 1) (A0 (e2 t9 (e2 t9 (A3 2) (eC (.int 2))) (e2 J0 (eC (.int 3)) (A3 0))) B2)))) (ρ := [none, some L, some (.int k)]) ((List.range (1 + d1).toNat).map fun (i : Nat) => (i : Int)) (fun j hj => by
  obtain ⟨j0, j1⟩ := APQ hj
  obtain ⟨t, h1, h2⟩ := pts j j0
  exact ⟨t, ACG (x := L) rfl (h_2 (h_2 (x := .int k) rfl h_c (ACA k 2)) (h_2 h_c (y := .int j) rfl (AL8 (by decide) (by omega))) (ACA (k + 2) (3 * j))) h1, h2⟩)
 rw [List.length_map, List.length_range] at g1
 have hne : ts ≠ [] := fun z => by rw [z] at g1; simp at g1; omega
 refine ⟨(ts, d2 == 0), ?_, hne, by show ts.length ≤ 5; omega, g3⟩
 have e0 : Y0 [some L, some (.int k), none, none] = .rt (PaT (ts, d2 == 0)) := by
  unfold Y0
  rw [AB0 (v := .int (1 + d1)) (ρ' := [some L, some (.int k), some (.int (1 + d1)), none]) (h_2 h_c (AEW (x := L) (y := .int k) rfl rfl h_c e1) (ACA 1 d1)) rfl]
  rw [AB0 (v := .tuple (ts.map PT)) (ρ' := [some L, some (.int k), some (.int (1 + d1)), some (.tuple (ts.map PT))]) (AEA (X0 (AYB (n := 1 + d1) rfl (by omega) (by omega)) (by rw [List.length_map, List.length_map, List.length_range]; omega) g2) rfl) rfl]
  exact N6 (APP (x := .tuple (ts.map PT)) rfl (h_2 (AEW (x := L) rfl (h_2 (x := .int k) rfl h_c (ACA k 1)) h_c e2') h_c (AKH d2 0)))
 show clR (Tr.run 4 Y0 [L, .int k]) = _
 rw [P4 (ρ := [some L, some (.int k), none, none]) rfl e0]
 rfl
theorem AI2 {ns : List Int} (hl : ns.length ≤ 63) {k : Int} (hk : 0 ≤ k) : ∃ ps, w8 [.list (ns.map PyData.int), .int k] = .ok (PhT ps) ∧ Good ps ∧ ps.length ≤ 3 := by
 obtain ⟨d1, e1, a1, b1⟩ := n9 ns k 4 hk (by decide) hl
 have pts := fun (j : Int) (hj : 0 ≤ j) => AQD (ns := ns) (k := k + 1 + 18 * j) hl (by omega)
 generalize hL : PyData.list (ns.map PyData.int) = L at e1 pts ⊢
 obtain ⟨ts, g1, g2, g3⟩ := AK4 (P := fun q : List P2 × Bool => q.1 ≠ [] ∧ q.1.length ≤ 5 ∧ ∀ p ∈ q.1, A12 p) (i := PaT) (te := (eF (A5 2 [] w9) (A0 (A3 1) (A0 (e2 t9 (e2 t9 (A3 2) (eC (.int 1))) (e2 J0 (eC (.int 18)) (A3 0))) B2)))) (ρ := [none, some L, some (.int k)]) ((List.range d1.toNat).map fun (i : Nat) => (i : Int)) (fun j hj => by
  obtain ⟨j0, j1⟩ := APQ hj
  obtain ⟨t, h1, h2⟩ := pts j j0
  exact ⟨t, ACG (x := L) rfl (h_2 (h_2 (x := .int k) rfl h_c (ACA k 1)) (h_2 h_c (y := .int j) rfl (AL8 (by decide) (by omega))) (ACA (k + 1) (18 * j))) h1, h2⟩)
 rw [List.length_map, List.length_range] at g1
 refine ⟨ts, ?_, ⟨by omega, fun q hq => (g3 q hq).1, fun q hq => (g3 q hq).2.1, fun q hq => (g3 q hq).2.2⟩, by omega⟩
 have e0 : X1 [some L, some (.int k)] = .rt (PhT ts) := by
  unfold X1
  exact N6 (AEA (X0 (AYB (AEW (x := L) (y := .int k) rfl rfl h_c e1) (by omega) (by omega)) (by rw [List.length_map, List.length_map, List.length_range]; omega) g2) rfl)
 show clR (Tr.run 2 X1 [L, .int k]) = _
 rw [P4 (ρ := [some L, some (.int k)]) rfl e0]
 rfl
def mvP (m : Mt) (p : P2) : P2 := (m.a * p.1 + m.c * p.2 + m.e, m.b * p.1 + m.d * p.2 + m.f)
theorem AKM {d : Nat} {rs : List T} (h : ∀ t ∈ rs, Sh d t) (hd : d ≤ 64) (hn : ∀ t ∈ rs, ADZ t = false) : K7 [.list rs] = .ok (.tuple rs) :=
 ANZ rs (List.all_eq_true.mpr fun t ht => (h t ht).shaped hd) (by rw [List.any_eq_false]; intro t ht; rw [hn t ht]; exact Bool.false_ne_true)
theorem AS4 {m : Mt} {q : List P2 × Bool} (hl : q.1.length ≤ 10) (h : ∀ p ∈ q.1, MvSm m p.1 p.2) : d7 [PaT q, MT m] = .ok (PaT (q.1.map (mvP m), q.2)) := by
 obtain ⟨pts, b⟩ := q
 have c := W2 (g := Tr.gTup [Tr.gName 0, Tr.gName 1]) (te := eF (A5 3 [] ADW) (A0 (A3 2) (A0 (A3 0) (A0 (A3 1) B2)))) (ρ := [none, none, some (MT m)]) (i := PT) (f := fun p => PT (mvP m p)) pts fun p hp => ⟨[some (RT p.1), some (RT p.2), some (MT m)], rfl, AEW (x := MT m) (y := RT p.1) (z := RT p.2) rfl rfl rfl (ARM (h p hp))⟩
 have c2 : pts.map (fun p => PT (mvP m p)) = (pts.map (mvP m)).map PT := by rw [List.map_map]; rfl
 rw [c2] at c
 have t1 : K7 [.list ((pts.map (mvP m)).map PT)] = .ok (.tuple ((pts.map (mvP m)).map PT)) := AKM (d := 2) (fun t ht => by
  obtain ⟨p, _, rfl⟩ := List.mem_map.mp ht
  exact AVP p) (by decide) (fun t ht => by
  obtain ⟨p, _, rfl⟩ := List.mem_map.mp ht
  rfl)
 have t2 : K7 [.list [.tuple ((pts.map (mvP m)).map PT), .bool b]] = .ok (PaT (pts.map (mvP m), b)) := AKM (d := 3) (fun t ht => by
  simp only [List.mem_cons, List.not_mem_nil, or_false] at ht
  rcases ht with rfl | rfl
  ·exact ACQ fun u hu => by
    obtain ⟨p, _, rfl⟩ := List.mem_map.mp hu
    exact AVP p
  ·exact AK2 _ _) (by decide) (fun t ht => by
  simp only [List.mem_cons, List.not_mem_nil, or_false] at ht
  rcases ht with rfl | rfl <;> rfl)
 have e0 : T6 [some (PaT (pts, b)), some (MT m), none, none] = .rt (PaT (pts.map (mvP m), b)) := by
  unfold T6
  rw [AFS (v := PaT (pts, b)) (ρ' := [some (PaT (pts, b)), some (MT m), some (.tuple (pts.map PT)), some (.bool b)]) rfl rfl]
  exact N6 (ABY (Ab8 (ABY (X0 (ts := pts.map PT) (j8 rfl) (by rw [List.length_map]; exact Nat.le_trans hl (by decide)) c) t1) (y := .bool b) rfl) t2)
 show clR (Tr.run 4 T6 [PaT (pts, b), MT m]) = _
 rw [P4 (ρ := [some (PaT (pts, b)), some (MT m), none, none]) rfl e0]
 rfl
def AE6 (m : Mt) (ps : List (List P2 × Bool)) : List (List P2 × Bool) := ps.map fun q => (q.1.map (mvP m), q.2)
theorem ALN {m : Mt} (sm : MSm m) {ps : List (List P2 × Bool)} (h : GP ps) (hm : ∀ q ∈ ps, ∀ p ∈ q.1, MvSm m p.1 p.2) : O3 [PhT ps, MT m] = .ok (PhT (AE6 m ps)) := by
 have c := W2 (g := Tr.gName 0) (te := eF (A5 2 [] d7) (A0 (A3 0) (A0 (A3 1) B2))) (ρ := [none, some (MT m)]) (i := PaT) (f := fun q => PaT (q.1.map (mvP m), q.2)) ps fun q hq => ⟨[some (PaT q), some (MT m)], rfl, ACG (x := PaT q) (y := MT m) rfl rfl (AS4 (h.short q hq) (hm q hq))⟩
 have c2 : ps.map (fun q => PaT (q.1.map (mvP m), q.2)) = (AE6 m ps).map PaT := by unfold AE6; rw [List.map_map]; rfl
 rw [c2] at c
 have t1 : K7 [.list ((AE6 m ps).map PaT)] = .ok (PhT (AE6 m ps)) := AKM (d := 4) (fun t ht => by
  obtain ⟨p, _, rfl⟩ := List.mem_map.mp ht
  exact AY0 p) (by decide) (fun t ht => by
  obtain ⟨p, _, rfl⟩ := List.mem_map.mp ht
  rfl)
 have e0 : U2 [some (PhT ps), some (MT m)] = .rt (PhT (AE6 m ps)) := by
  unfold U2
  rw [ABN (ABY (x := PhT ps) rfl (Y5 (AAE h))), ABN (ABY (x := MT m) rfl (ANK sm))]
  exact N6 (ABY (X0 (ts := ps.map PaT) (j8 rfl) (by rw [List.length_map]; have := h.few; omega) c) t1)
 show clR (Tr.run 2 U2 [PhT ps, MT m]) = _
 rw [P4 (ρ := [some (PhT ps), some (MT m)]) rfl e0]
 rfl
theorem AKR {r : Rat} {q : Int} {p : Nat} (h : At r q p) : r.den ∣ q.natAbs := by
 obtain ⟨a, e, _⟩ := h
 have h1 : r.num * q = a * (r.den : Int) := by
  have h2 := z9 r
  have h3 : ((r.num * q : Int) : Rat) = ((a * (r.den : Int) : Int) : Rat) := by
   rw [Rat.intCast_mul, Rat.intCast_mul, Rat.intCast_natCast, ← h2, ← e]
   grind
  exact Rat.intCast_inj.mp h3
 have h4 : r.den ∣ r.num.natAbs * q.natAbs := by
  rw [← Int.natAbs_mul, h1, Int.natAbs_mul, Int.natAbs_natCast]
  exact Nat.dvd_mul_left _ _
 exact (Nat.Coprime.dvd_of_dvd_mul_left (Nat.Coprime.symm r.reduced) h4)
theorem ACN {n : Nat} (h : n ≤ 1000000) : n.log2 < 400 := by
 by_cases z : n = 0
 ·rw [z]; exact Nat.lt_of_le_of_lt (Nat.le_refl _) (by decide +kernel)
 ·exact (Nat.log2_lt z).mpr (Nat.lt_of_lt_of_le (show n < 2 ^ 20 by omega) (Nat.pow_le_pow_right (by decide) (by decide)))
theorem AOA (m n : Nat) : C5 [.int (m : Int), .int (n : Int)] = .ok (.int (Nat.gcd m n : Nat)) := by
 have q : C5 [.int (m : Int), .int (n : Int)] = if 0 ≤ (m : Int) ∧ 0 ≤ (n : Int) then .ok (.int (Nat.gcd (m : Int).natAbs (n : Int).natAbs : Nat)) else .bad := rfl
 rw [q, if_pos ⟨by omega, by omega⟩, Int.natAbs_natCast, Int.natAbs_natCast]
theorem AH9 {m n : Nat} (h0 : n ≠ 0) (hn : n ≤ 1000000) : M7 (.int (m : Int)) (.int (n : Int)) = some (.int ((m / n : Nat) : Int)) := by
 have hl : n.log2 < 9000 := Nat.lt_trans (ACN hn) (by decide)
 show (if (n : Int) = 0 ∨ ¬ (n : Int).natAbs.log2 < 9000 then none else some (PyData.int ((m : Int).fdiv (n : Int)))) = _
 rw [if_neg (by rw [Int.natAbs_natCast]; omega), Int.fdiv_eq_ediv_of_nonneg _ (by omega)]
 rfl
theorem AJU {l : Option T} {u d : Nat} {n : Int} (hu : 0 < u) (hu1 : u ≤ 1000) (hd0 : 0 < d) (hd1 : d ≤ 1000) :
  E7 (Tr.gName 1) (e2 M7 (e2 J0 (A3 1) (A3 3)) (eF (A5 2 [] C5) (A0 (A3 1) (A0 (A3 3) B2)))) [l, some (.int (u : Int)), some (.int n), some (.int (d : Int))] = .nx [l, some (.int (Nat.lcm u d : Nat)), some (.int n), some (.int (d : Int))] := by
 have m1 : J0 (.int (u : Int)) (.int (d : Int)) = some (.int ((u * d : Nat) : Int)) := by
  rw [AL8 (by omega) (by omega)]
  rfl
 have g0 : Nat.gcd u d ≠ 0 := Nat.ne_of_gt (Nat.gcd_pos_of_pos_left _ hu)
 have g1 : Nat.gcd u d ≤ u := Nat.le_of_dvd hu (Nat.gcd_dvd_left _ _)
 have f1 : M7 (.int ((u * d : Nat) : Int)) (.int (Nat.gcd u d : Nat)) = some (.int (Nat.lcm u d : Nat)) := AH9 g0 (by omega)
 exact AD1 (h_2 (h_2 (x := .int (u : Int)) (y := .int (d : Int)) rfl rfl m1) (ACG (x := .int (u : Int)) (y := .int (d : Int)) rfl rfl (AOA u d)) f1)
theorem AG8 {Q : Nat} (hQ : 0 < Q) (hQ1 : Q ≤ 1000) {l : Option T} : ∀ (rs : List Rat) (u : Nat) (o2 o3 : Option T), (∀ r ∈ rs, r.den ∣ Q) → u ∣ Q → ∃ (U : Nat) (o2' o3' : Option T), U ∣ Q ∧ u ∣ U ∧ (∀ r ∈ rs, r.den ∣ U) ∧
  AHH (Tr.gTup [Tr.gName 2, Tr.gName 3]) (E7 (Tr.gName 1) (e2 M7 (e2 J0 (A3 1) (A3 3)) (eF (A5 2 [] C5) (A0 (A3 1) (A0 (A3 3) B2))))) (rs.map RT) [l, some (.int (u : Int)), o2, o3] = .nx [l, some (.int (U : Int)), o2', o3']
 | [], u, o2, o3, _, hu => ⟨u, o2, o3, hu, Nat.dvd_refl _, fun r hr => (List.not_mem_nil hr).elim, rfl⟩
 | r :: rs, u, o2, o3, hr, hu => by
  have hd := hr r List.mem_cons_self
  have hle := Nat.le_of_dvd hQ hd
  have hule := Nat.le_of_dvd hQ hu
  have hu0 : 0 < u := Nat.pos_of_dvd_of_pos hu hQ
  have hd0 : 0 < r.den := Nat.pos_of_ne_zero r.den_nz
  obtain ⟨U, o2', o3', h1, h2, h3, h4⟩ := AG8 hQ hQ1 (l := l) rs (Nat.lcm u r.den) (some (.int r.num)) (some (.int (r.den : Int))) (fun s hs => hr s (List.mem_cons_of_mem _ hs)) (Nat.lcm_dvd hu hd)
  refine ⟨U, o2', o3', h1, Nat.dvd_trans (Nat.dvd_lcm_left _ _) h2, fun s hs => ?_, ?_⟩
  ·rcases List.mem_cons.mp hs with rfl | hs
   ·exact Nat.dvd_trans (Nat.dvd_lcm_right _ _) h2
   ·exact h3 s hs
  ·rw [List.map_cons]
   exact M3 (ρ1 := [l, some (.int (u : Int)), some (.int r.num), some (.int (r.den : Int))]) rfl (AJU hu0 (by omega) hd0 (by omega)) h4
def inU (U : Nat) (r : Rat) : Int := r.num * ((U / r.den : Nat) : Int)
theorem AFH {U : Nat} {r : Rat} (h : r.den ∣ U) : (inU U r : Rat) = r * (U : Rat) := by
 obtain ⟨c, rfl⟩ := h
 have hd : 0 < r.den := Nat.pos_of_ne_zero r.den_nz
 unfold inU
 rw [Nat.mul_div_cancel_left c hd, Rat.intCast_mul, Rat.intCast_natCast, Rat.natCast_mul, ← z9 r]
 grind
theorem ALK {Q : Nat} (hQ : 0 < Q) (hQ1 : Q ≤ 1000) {rs : List Rat} (hs : ∀ r ∈ rs, Sm r) (hl : rs.length ≤ 1000) (hr : ∀ r ∈ rs, r.den ∣ Q) : ∃ U : Nat, 0 < U ∧ U ∣ Q ∧ (∀ r ∈ rs, r.den ∣ U) ∧ L8 [.tuple (rs.map RT)] = .ok (.tuple [.list (rs.map fun r => PyData.int (inU U r)), .int (U : Int)]) := by
 obtain ⟨U, o2, o3, h1, h2, h3, h4⟩ := AG8 hQ hQ1 (l := some (.tuple (rs.map RT))) rs 1 none none hr (Nat.one_dvd _)
 rw [show ((1 : Nat) : Int) = 1 from rfl] at h4
 have hU0 : 0 < U := Nat.pos_of_dvd_of_pos h1 hQ
 have hUle := Nat.le_of_dvd hQ h1
 refine ⟨U, hU0, h1, h3, ?_⟩
 have c := W2 (g := Tr.gTup [Tr.gName 0, Tr.gName 1]) (te := e2 J0 (A3 0) (e2 M7 (A3 2) (A3 1))) (ρ := [none, none, some (.int (U : Int))]) (i := RT) (f := fun r => PyData.int (inU U r)) rs fun r hm => by
  have hd0 : 0 < r.den := Nat.pos_of_ne_zero r.den_nz
  have hdle := Nat.le_of_dvd hU0 (h3 r hm)
  have q1 : U / r.den ≤ U := Nat.div_le_self _ _
  refine ⟨[some (.int r.num), some (.int (r.den : Int)), some (.int (U : Int))], rfl, h_2 (x := .int r.num) rfl (h_2 (x := .int (U : Int)) (y := .int (r.den : Int)) rfl rfl (AH9 (by omega) (by omega))) ?_⟩
  exact S2 (lg (hs r hm).1) (by rw [Int.natAbs_natCast]; exact ACN (by omega))
 have e0 : Q9 [some (.tuple (rs.map RT)), none, none, none] = .rt (.tuple [.list (rs.map fun r => PyData.int (inU U r)), .int (U : Int)]) := by
  unfold Q9
  rw [AB0 (v := .int 1) (ρ' := [some (.tuple (rs.map RT)), some (.int 1), none, none]) h_c rfl]
  rw [AIQ (ts := rs.map RT) (j8 rfl) h4]
  exact N6 (APP (X0 (ts := rs.map RT) (j8 rfl) (by rw [List.length_map]; omega) c) (y := .int (U : Int)) rfl)
 show clR (Tr.run 4 Q9 [.tuple (rs.map RT)]) = _
 rw [P4 (ρ := [some (.tuple (rs.map RT)), none, none, none]) rfl e0]
 rfl
theorem AY8 {a : FE} {ρ : Ev} {r : Rat} (h : a ρ = .ok (RT r)) : e2 ixT a (eC (.int 0)) ρ = .ok (.int r.num) := h_2 h h_c (ix0 r)
theorem AZL {a : FE} {ρ : Ev} {r : Rat} (h : a ρ = .ok (RT r)) : e2 ixT a (eC (.int 1)) ρ = .ok (.int (r.den : Int)) := h_2 h h_c (ix1 r)
theorem ADU {a b : Int} {K : Nat} (h0 : a.natAbs ≤ K) (hK : K ≤ 1000000000000000 := by decide) : J0 (.int a) (.int b) = some (.int (a * b)) := by
 have h' : CMulG a b := .inl (.inl ⟨by omega, by omega⟩)
 show (if CMulG a b then some (PyData.int (a * b)) else none) = _
 rw [if_pos h']
theorem ASY {a : Int} {K : Nat} (h0 : a.natAbs ≤ K) (hK : K ≤ 1000000000000000 := by decide) : AJY (.int a) (.int 2) = some (.int (a ^ 2)) := by
 show (if (0 : Int) ≤ 2 ∧ (2 : Int) ≤ 1000 ∧ a.natAbs < 2 ^ 64 then some (PyData.int (a ^ (2 : Int).toNat)) else none) = _
 rw [if_pos ⟨by decide, by decide, by omega⟩]
 rfl
theorem AQO {a b : Int} {A B C : Nat} (ha : a.natAbs ≤ A) (hb : b.natAbs ≤ B) (h : A + B ≤ C) : (a - b).natAbs ≤ C := by omega
theorem AcH {a b : Int} {A B C : Nat} (ha : a.natAbs ≤ A) (hb : b.natAbs ≤ B) (h : A + B ≤ C) : (a + b).natAbs ≤ C := by omega
theorem nab {a b : Int} {A B C : Nat} (ha : a.natAbs ≤ A) (hb : b.natAbs ≤ B) (h : A * B ≤ C) : (a * b).natAbs ≤ C := by
 rw [Int.natAbs_mul]
 exact Nat.le_trans (Nat.mul_le_mul ha hb) h
theorem AWV {U : Nat} {r : Rat} (h : At r 12 120) (hU : U ≤ 12) : (inU U r).natAbs ≤ 1440 := by
 have h1 := (APV h (by decide)).1
 have h2 : U / r.den ≤ 12 := Nat.le_trans (Nat.div_le_self _ _) hU
 unfold inU
 rw [Int.natAbs_mul, Int.natAbs_natCast]
 exact Nat.mul_le_mul h1 h2
def zT (z : P2 × P2) : T := .tuple [PT z.1, PT z.2]
theorem ASQ {g : FG} {e : FE} {ρ ρ' : Ev} {v : T} (h : e ρ = .ok v) (hg : g v ρ = some ρ') : E7 g e ρ = .nx ρ' := by
 unfold E7
 rw [h]
 show (match g v ρ with | some ρ' => SR.nx ρ' | none => .bad) = _
 rw [hg]
theorem AcL (x : T) (xs : List T) : APL (x :: xs) (some 1) none = xs := by
 unfold APL
 have h : HT.sIx (x :: xs).length 0 (some 1) = 1 := by
  rw [show (1 : Int) = ((1 : Nat) : Int) from rfl, HT.sIx_nat, List.length_cons]
  omega
 rw [h, HT.sIx_none, List.length_cons, List.drop_one, List.tail_cons]
 exact List.take_of_length_le (by omega)
theorem AcC (x : T) (xs : List T) : APL (x :: xs) none (some 1) = [x] := by
 unfold APL
 have h : HT.sIx (x :: xs).length (x :: xs).length (some 1) = 1 := by
  rw [show (1 : Int) = ((1 : Nat) : Int) from rfl, HT.sIx_nat, List.length_cons]
  omega
 rw [h, HT.sIx_none, List.drop_zero]
 rfl
theorem AO0 {a : FE} {ρ : Ev} {x : T} {xs : List T} (h : a ρ = .ok (.tuple (x :: xs))) : AG0 a (some (eC (.int 1))) none ρ = .ok (.tuple xs) := by
 unfold AG0
 rw [h]
 show R.ok (PyData.tuple (APL (x :: xs) (some 1) none)) = _
 rw [AcL]
theorem AZQ {a : FE} {ρ : Ev} {x : T} {xs : List T} (h : a ρ = .ok (.tuple (x :: xs))) : AG0 a none (some (eC (.int 1))) ρ = .ok (.tuple [x]) := by
 unfold AG0
 rw [h]
 show R.ok (PyData.tuple (APL (x :: xs) none (some 1))) = _
 rw [AcC]
theorem AOR {xs ys : List T} (h : xs.length + ys.length ≤ 1000) : ACI (.tuple xs) (.tuple ys) = some (.tuple (xs ++ ys)) := by
 show (if O5 (xs.length + ys.length) = true then some (PyData.tuple (xs ++ ys)) else none) = _
 rw [if_pos (show O5 (xs.length + ys.length) = true from decide_eq_true h)]
theorem AXG : ∀ (ps qs : List P2), List.zipWith (fun a b => PyData.tuple [a, b]) (ps.map PT) (qs.map PT) = (ps.zip qs).map zT
 | [], _ => rfl
 | _ :: _, [] => rfl
 | p :: ps, q :: qs => by
  rw [List.map_cons, List.map_cons, List.zipWith_cons_cons, List.zip_cons_cons, List.map_cons, AXG ps qs]
  rfl
theorem AYX {a b : FE} {ρ : Ev} {ps qs : List P2} (h1 : a ρ = .ok (.tuple (ps.map PT))) (h2 : b ρ = .ok (.tuple (qs.map PT))) : iN (AW3 true true) (A0 a (A0 b B2)) ρ = .ok ((ps.zip qs).map zT) := by
 unfold iN A0 B2
 rw [h1, h2]
 show R.of (some (List.zipWith (fun a b => PyData.tuple [a, b]) (ps.map PT) (qs.map PT))) = _
 rw [AXG]
 rfl
theorem AY9 {ps qs : List P2} (h1 : ∀ p ∈ ps, A12 p) (h2 : ∀ p ∈ qs, A12 p) : ∀ z ∈ ps.zip qs, A12 z.1 ∧ A12 z.2 := fun z hz => by
 obtain ⟨a, b⟩ := z
 have := List.of_mem_zip hz
 exact ⟨h1 a this.1, h2 b this.2⟩
theorem AVI {a : FE} {ρ : Ev} {p : P2} {ps : List P2} (h : a ρ = .ok (.tuple ((p :: ps).map PT))) (hl : ps.length ≤ 100) : e2 ACI (AG0 a (some (eC (.int 1))) none) (AG0 a none (some (eC (.int 1)))) ρ = .ok (.tuple ((ps ++ [p]).map PT)) := by
 rw [List.map_cons] at h
 have := AOR (xs := ps.map PT) (ys := [PT p]) (by rw [List.length_map, List.length_singleton]; omega)
 refine h_2 (AO0 h) (AZQ h) ?_
 rw [this, List.map_append]
 rfl
structure GoodQ (q : List P2 × Bool) : Prop where
 some : q.1 ≠ []
 short : q.1.length ≤ 5
 pts : ∀ p ∈ q.1, A12 p
def prT (t : Int × Nat) : T := .tuple [.int t.1, .int (t.2 : Int)]
def inP (U : Nat) (t : Int × Nat) : Int := t.1 * ((U / t.2 : Nat) : Int)
theorem AF8 {Q : Nat} (hQ : 0 < Q) (hQ1 : Q ≤ 1000) {l : Option T} : ∀ (rs : List (Int × Nat)) (u : Nat) (o2 o3 : Option T), (∀ r ∈ rs, 0 < r.2 ∧ r.2 ∣ Q) → u ∣ Q → ∃ (U : Nat) (o2' o3' : Option T), U ∣ Q ∧ u ∣ U ∧ (∀ r ∈ rs, r.2 ∣ U) ∧
  AHH (Tr.gTup [Tr.gName 2, Tr.gName 3]) (E7 (Tr.gName 1) (e2 M7 (e2 J0 (A3 1) (A3 3)) (eF (A5 2 [] C5) (A0 (A3 1) (A0 (A3 3) B2))))) (rs.map prT) [l, some (.int (u : Int)), o2, o3] = .nx [l, some (.int (U : Int)), o2', o3']
 | [], u, o2, o3, _, hu => ⟨u, o2, o3, hu, Nat.dvd_refl _, fun r hr => (List.not_mem_nil hr).elim, rfl⟩
 | r :: rs, u, o2, o3, hr, hu => by
  have hd := (hr r List.mem_cons_self).2
  have hle := Nat.le_of_dvd hQ hd
  have hule := Nat.le_of_dvd hQ hu
  have hu0 : 0 < u := Nat.pos_of_dvd_of_pos hu hQ
  have hd0 := (hr r List.mem_cons_self).1
  obtain ⟨U, o2', o3', h1, h2, h3, h4⟩ := AF8 hQ hQ1 (l := l) rs (Nat.lcm u r.2) (some (.int r.1)) (some (.int (r.2 : Int))) (fun s hs => hr s (List.mem_cons_of_mem _ hs)) (Nat.lcm_dvd hu hd)
  refine ⟨U, o2', o3', h1, Nat.dvd_trans (Nat.dvd_lcm_left _ _) h2, fun s hs => ?_, ?_⟩
  ·rcases List.mem_cons.mp hs with rfl | hs
   ·exact Nat.dvd_trans (Nat.dvd_lcm_right _ _) h2
   ·exact h3 s hs
  ·rw [List.map_cons]
   exact M3 (ρ1 := [l, some (.int (u : Int)), some (.int r.1), some (.int (r.2 : Int))]) rfl (AJU hu0 (by omega) hd0 (by omega)) h4
theorem APM {Q : Nat} (hQ : 0 < Q) (hQ1 : Q ≤ 1000) {rs : List (Int × Nat)} (hs : ∀ r ∈ rs, r.1.natAbs.log2 < 400) (hl : rs.length ≤ 1000) (hr : ∀ r ∈ rs, 0 < r.2 ∧ r.2 ∣ Q) : ∃ U : Nat, 0 < U ∧ U ∣ Q ∧ (∀ r ∈ rs, r.2 ∣ U) ∧ L8 [.tuple (rs.map prT)] = .ok (.tuple [.list (rs.map fun r => PyData.int (inP U r)), .int (U : Int)]) := by
 obtain ⟨U, o2, o3, h1, h2, h3, h4⟩ := AF8 hQ hQ1 (l := some (.tuple (rs.map prT))) rs 1 none none hr (Nat.one_dvd _)
 rw [show ((1 : Nat) : Int) = 1 from rfl] at h4
 have hU0 : 0 < U := Nat.pos_of_dvd_of_pos h1 hQ
 have hUle := Nat.le_of_dvd hQ h1
 refine ⟨U, hU0, h1, h3, ?_⟩
 have c := W2 (g := Tr.gTup [Tr.gName 0, Tr.gName 1]) (te := e2 J0 (A3 0) (e2 M7 (A3 2) (A3 1))) (ρ := [none, none, some (.int (U : Int))]) (i := prT) (f := fun r => PyData.int (inP U r)) rs fun r hm => by
  have hd0 := (hr r hm).1
  have hdle := Nat.le_of_dvd hU0 (h3 r hm)
  have q1 : U / r.2 ≤ U := Nat.div_le_self _ _
  refine ⟨[some (.int r.1), some (.int (r.2 : Int)), some (.int (U : Int))], rfl, h_2 (x := .int r.1) rfl (h_2 (x := .int (U : Int)) (y := .int (r.2 : Int)) rfl rfl (AH9 (by omega) (by omega))) ?_⟩
  exact S2 (hs r hm) (by rw [Int.natAbs_natCast]; exact ACN (by omega))
 have e0 : Q9 [some (.tuple (rs.map prT)), none, none, none] = .rt (.tuple [.list (rs.map fun r => PyData.int (inP U r)), .int (U : Int)]) := by
  unfold Q9
  rw [AB0 (v := .int 1) (ρ' := [some (.tuple (rs.map prT)), some (.int 1), none, none]) h_c rfl]
  rw [AIQ (ts := rs.map prT) (j8 rfl) h4]
  exact N6 (APP (X0 (ts := rs.map prT) (j8 rfl) (by rw [List.length_map]; omega) c) (y := .int (U : Int)) rfl)
 show clR (Tr.run 4 Q9 [.tuple (rs.map prT)]) = _
 rw [P4 (ρ := [some (.tuple (rs.map prT)), none, none, none]) rfl e0]
 rfl
theorem AI8 {U : Nat} {n : Int} {d : Nat} {v : Rat} (hd : 0 < d) (h : d ∣ U) (hv : v * (d : Rat) = (n : Rat)) : (inP U (n, d) : Rat) = v * (U : Rat) := by
 obtain ⟨c, rfl⟩ := h
 unfold inP
 dsimp only
 rw [Nat.mul_div_cancel_left c hd, Rat.intCast_mul, Rat.intCast_natCast, Rat.natCast_mul, ← hv]
 grind
structure Wd (w : Rat) : Prop where
 pos : 0 ≤ w
 num : w.num.natAbs ≤ 100
 den : w.den * 2 ∣ 12
def hf (w : Rat) : Int × Nat := (w.num, w.den * 2)
def ts5 (w : Rat) (z : P2 × P2) : List (Int × Nat) := [(z.1.1.num, z.1.1.den), (z.1.2.num, z.1.2.den), (z.2.1.num, z.2.1.den), (z.2.2.num, z.2.2.den), hf w]
def IsP (ts : List (Int × Nat)) (U : Nat) : Prop := 0 < U ∧ U ≤ 12 ∧ (∀ r ∈ ts, r.2 ∣ U) ∧ L8 [.tuple (ts.map prT)] = .ok (.tuple [.list (ts.map fun r => PyData.int (inP U r)), .int (U : Int)])
open Classical in
noncomputable def uP (ts : List (Int × Nat)) : Nat := if h : ∃ U, IsP ts U then Classical.choose h else 1
theorem AWG {ts : List (Int × Nat)} (h : ∀ t ∈ ts, t.1.natAbs ≤ 120 ∧ 0 < t.2 ∧ t.2 ∣ 12) (hl : ts.length ≤ 1000) : IsP ts (uP ts) := by
 obtain ⟨U, h0, h1, h2, h3⟩ := APM (Q := 12) (by decide) (by decide) (rs := ts) (fun r hr => ACN (by have := (h r hr).1; omega)) hl (fun r hr => (h r hr).2)
 have hh : ∃ U, IsP ts U := ⟨U, h0, Nat.le_of_dvd (by decide) h1, h2, h3⟩
 unfold uP
 rw [dif_pos hh]
 exact Classical.choose_spec hh
theorem AT7 {w : Rat} (hw : Wd w) {z : P2 × P2} (hz : A12 z.1 ∧ A12 z.2) : ∀ t ∈ ts5 w z, t.1.natAbs ≤ 120 ∧ 0 < t.2 ∧ t.2 ∣ 12 := fun t ht => by
 have one : ∀ r : Rat, At r 12 120 → r.num.natAbs ≤ 120 ∧ 0 < r.den ∧ r.den ∣ 12 := fun r h => ⟨(APV h (by decide)).1, Nat.pos_of_ne_zero r.den_nz, AKR h⟩
 simp only [ts5, List.mem_cons, List.not_mem_nil, or_false] at ht
 rcases ht with rfl | rfl | rfl | rfl | rfl
 ·exact one _ hz.1.1
 ·exact one _ hz.1.2
 ·exact one _ hz.2.1
 ·exact one _ hz.2.2
 ·refine ⟨Nat.le_trans hw.num (by decide), ?_, hw.den⟩
  have := w.den_nz
  show 0 < w.den * 2
  omega
noncomputable def lnD (w : Rat) (z : P2 × P2) : T := .tuple [.int (inP (uP (ts5 w z)) (z.1.1.num, z.1.1.den)), .int (inP (uP (ts5 w z)) (z.1.2.num, z.1.2.den)), .int (inP (uP (ts5 w z)) (z.2.1.num, z.2.1.den)), .int (inP (uP (ts5 w z)) (z.2.2.num, z.2.2.den)), .int (inP (uP (ts5 w z)) (hf w)), .int (uP (ts5 w z) : Int)]
noncomputable def ldB : FB := (AE8 (i8 3 (E7 (Tr.gTup [(Tr.gName 9), (Tr.gName 10)]) (eF (A5 1 [] L8) (A0 (e2 ACI (e2 ACI (A3 7) (A3 8)) (J3 (A0 (A3 2) B2))) B2)))) (ANL (e2 ACI (eN AFV (A0 (A3 9) B2)) (J3 (A0 (A3 10) B2)))))
theorem AV5 {w : Rat} (hw : Wd w) {z : P2 × P2} (hz : A12 z.1 ∧ A12 z.2) : ∃ v v', ∀ (o0 o1 o4 o5 o6 o9 o10 : Option T) (acc : List T), acc.length ≤ 1000 → ∀ ad, ldB ad [o0, o1, some (prT (hf w)), some (W0 ad), o4, o5, o6, some (PT z.1), some (PT z.2), o9, o10] acc = .nx [o0, o1, some (prT (hf w)), some (W0 ad), o4, o5, o6, some (PT z.1), some (PT z.2), some v, some v'] (acc ++ [lnD w z]) := by
 obtain ⟨h0, h1, _, h2⟩ := AWG (AT7 hw hz) (show (ts5 w z).length ≤ 1000 by show 5 ≤ 1000; decide)
 unfold lnD
 generalize uP (ts5 w z) = U at *
 obtain ⟨p, q⟩ := z
 refine ⟨.list [.int (inP U (p.1.num, p.1.den)), .int (inP U (p.2.num, p.2.den)), .int (inP U (q.1.num, q.1.den)), .int (inP U (q.2.num, q.2.den)), .int (inP U (hf w))], .int (U : Int), fun o0 o1 o4 o5 o6 o9 o10 acc hl ad => ?_⟩
 unfold ldB
 refine AC1 (AA1 (ρ' := [o0, o1, some (prT (hf w)), some (W0 ad), o4, o5, o6, some (PT p), some (PT q), some (.list [.int (inP U (p.1.num, p.1.den)), .int (inP U (p.2.num, p.2.den)), .int (inP U (q.1.num, q.1.den)), .int (inP U (q.2.num, q.2.den)), .int (inP U (hf w))]), some (.int (U : Int))]) (ASQ (ABY (h_2 (h_2 (x := PT p) (y := PT q) (z := .tuple [RT p.1, RT p.2, RT q.1, RT q.2]) rfl rfl rfl) (AZU (x := prT (hf w)) rfl) (z := .tuple ((ts5 w (p, q)).map prT)) rfl) h2) rfl) rfl) ?_
 exact ALI (h_2 (AEA (x := .list [.int (inP U (p.1.num, p.1.den)), .int (inP U (p.2.num, p.2.den)), .int (inP U (q.1.num, q.1.den)), .int (inP U (q.2.num, q.2.den)), .int (inP U (hf w))]) rfl rfl) (AZU (x := .int (U : Int)) rfl) rfl) hl
theorem AOH {w : Rat} (hw : Wd w) {o0 o1 o4 o5 o6 : Option T} : ∀ (zs : List (P2 × P2)) (acc : List T) (o7 o8 o9 o10 : Option T), (∀ z ∈ zs, A12 z.1 ∧ A12 z.2) → acc.length + zs.length ≤ 1000 → ∃ (p7 p8 p9 p10 : Option T), ∀ ad : Nat,
  W9 (fun t ρ => (Tr.gTup [Tr.gName 7, Tr.gName 8] t ρ).bind fun ρ' => if N9 3 ad ρ' = true then some ρ' else none) ldB (zs.map zT) ad [o0, o1, some (prT (hf w)), some (W0 ad), o4, o5, o6, o7, o8, o9, o10] acc = .nx [o0, o1, some (prT (hf w)), some (W0 ad), o4, o5, o6, p7, p8, p9, p10] (acc ++ zs.map (lnD w))
 | [], acc, o7, o8, o9, o10, _, _ => ⟨o7, o8, o9, o10, fun ad => by rw [List.map_nil, W9, List.map_nil, List.append_nil]⟩
 | z :: zs, acc, o7, o8, o9, o10, h, hl => by
  rw [List.length_cons] at hl
  obtain ⟨v, v', hb⟩ := AV5 hw (h z List.mem_cons_self)
  obtain ⟨p7, p8, p9, p10, h3⟩ := AOH hw (o0 := o0) (o1 := o1) (o4 := o4) (o5 := o5) (o6 := o6) zs (acc ++ [lnD w z]) (some (PT z.1)) (some (PT z.2)) (some v) (some v') (fun y hy => h y (List.mem_cons_of_mem _ hy)) (by rw [List.length_append, List.length_singleton]; omega)
  refine ⟨p7, p8, p9, p10, fun ad => ?_⟩
  have hq := h3 ad
  rw [List.append_assoc] at hq
  exact ADV (ρ1 := [o0, o1, some (prT (hf w)), some (W0 ad), o4, o5, o6, some (PT z.1), some (PT z.2), o9, o10]) rfl rfl (hb o0 o1 o4 o5 o6 o9 o10 acc (by omega) ad) hq
def ARG (q : List P2 × Bool) : List P2 := if (q.2 || (q.1.length == 1)) = true then q.1.drop 1 ++ q.1.take 1 else q.1.drop 1
def AA0 (q : List P2 × Bool) : List (P2 × P2) := q.1.zip (ARG q)
def ABZ (ps : List (List P2 × Bool)) : List (P2 × P2) := ps.flatMap AA0
theorem AVL (q : List P2 × Bool) : ∀ x ∈ ARG q, x ∈ q.1 := fun x hx => by
 unfold ARG at hx
 split at hx
 ·rcases List.mem_append.mp hx with hx | hx
  ·exact List.mem_of_mem_drop hx
  ·exact List.mem_of_mem_take hx
 ·exact List.mem_of_mem_drop hx
theorem AGQ {q : List P2 × Bool} (h : ∀ p ∈ q.1, A12 p) : ∀ z ∈ AA0 q, A12 z.1 ∧ A12 z.2 := AY9 h fun x hx => h x (AVL q x hx)
theorem AKV (q : List P2 × Bool) : (AA0 q).length ≤ q.1.length := by
 unfold AA0
 rw [List.length_zip]
 omega
noncomputable def ldE : FE := (eIf (bOr (bV (A3 5)) (bV (e2 eqT (eN AFJ (A0 (A3 4) B2)) (eC (.int 1))))) (e2 ACI (AG0 (A3 4) (some (eC (.int 1))) none) (AG0 (A3 4) none (some (eC (.int 1))))) (AG0 (A3 4) (some (eC (.int 1))) none))
theorem AU2 {p : P2} {r : List P2} {b : Bool} (hr : r.length ≤ 5) (o0 o1 o2 o3 o6 o7 o8 o9 o10 : Option T) : ldE [o0, o1, o2, o3, some (.tuple ((p :: r).map PT)), some (.bool b), o6, o7, o8, o9, o10] = .ok (.tuple ((ARG (p :: r, b)).map PT)) := by
 have hc : (bOr (bV (A3 5)) (bV (e2 eqT (eN AFJ (A0 (A3 4) B2)) (eC (.int 1))))) [o0, o1, o2, o3, some (.tuple ((p :: r).map PT)), some (.bool b), o6, o7, o8, o9, o10] = .ok (b || ((((p :: r).map PT).length : Int) == 1)) :=
  AYL (h_b rfl) (h_b (h_2 (AEA (x := .tuple ((p :: r).map PT)) (z := .int (((p :: r).map PT).length : Int)) rfl rfl) h_c (AKH _ _)))
 have he : ((((p :: r).map PT).length : Int) == 1) = ((p :: r).length == 1) := by
  rw [List.length_map, Bool.eq_iff_iff]
  simp only [beq_iff_eq]
  omega
 rw [he] at hc
 unfold ARG
 dsimp only
 cases hk : (b || ((p :: r).length == 1)) with
 | true =>
  rw [hk] at hc
  rw [if_pos rfl]
  exact AXF hc (AVI (a := A3 4) (p := p) (ps := r) rfl (by omega))
 | false =>
  rw [hk] at hc
  rw [if_neg (by decide)]
  exact AX3 hc (AO0 (x := PT p) (xs := r.map PT) rfl)
noncomputable def ldO : FB := (AE8 (i8 3 (E7 (Tr.gName 6) ldE)) (ALE 3 (iN (AW3 true true) (A0 (A3 4) (A0 (A3 6) B2))) (Tr.gTup [(Tr.gName 7), (Tr.gName 8)]) ldB))
theorem ALB {w : Rat} (hw : Wd w) {o0 o1 : Option T} : ∀ (ps : List (List P2 × Bool)) (acc : List T) (o4 o5 o6 o7 o8 o9 o10 : Option T), (∀ q ∈ ps, GoodQ q) → acc.length + 5 * ps.length ≤ 1000 → ∃ (p4 p5 p6 p7 p8 p9 p10 : Option T), ∀ ad : Nat,
  W9 (fun t ρ => (Tr.gTup [Tr.gName 4, Tr.gName 5] t ρ).bind fun ρ' => if N9 3 ad ρ' = true then some ρ' else none) ldO (ps.map PaT) ad [o0, o1, some (prT (hf w)), some (W0 ad), o4, o5, o6, o7, o8, o9, o10] acc = .nx [o0, o1, some (prT (hf w)), some (W0 ad), p4, p5, p6, p7, p8, p9, p10] (acc ++ (ABZ ps).map (lnD w))
 | [], acc, o4, o5, o6, o7, o8, o9, o10, _, _ => ⟨o4, o5, o6, o7, o8, o9, o10, fun ad => by rw [List.map_nil, W9]; unfold ABZ; rw [List.flatMap_nil, List.map_nil, List.append_nil]⟩
 | q :: ps, acc, o4, o5, o6, o7, o8, o9, o10, h, hl => by
  rw [List.length_cons] at hl
  have hq := h q List.mem_cons_self
  obtain ⟨pts, b⟩ := q
  match pts, hq with
  | [], hq => exact absurd rfl hq.some
  | p :: r, hq =>
   have hlen : r.length + 1 ≤ 5 := hq.short
   have hz : (AA0 (p :: r, b)).length ≤ 5 := Nat.le_trans (AKV _) hlen
   obtain ⟨a7, a8, a9, a10, h3⟩ := AOH hw (o0 := o0) (o1 := o1) (o4 := some (.tuple ((p :: r).map PT))) (o5 := some (.bool b)) (o6 := some (.tuple ((ARG (p :: r, b)).map PT))) (AA0 (p :: r, b)) acc o7 o8 o9 o10 (AGQ hq.pts) (by omega)
   obtain ⟨b4, b5, b6, b7, b8, b9, b10, g3⟩ := ALB hw (o0 := o0) (o1 := o1) ps (acc ++ (AA0 (p :: r, b)).map (lnD w)) (some (.tuple ((p :: r).map PT))) (some (.bool b)) (some (.tuple ((ARG (p :: r, b)).map PT))) a7 a8 a9 a10 (fun y hy => h y (List.mem_cons_of_mem _ hy)) (by rw [List.length_append, List.length_map]; omega)
   refine ⟨b4, b5, b6, b7, b8, b9, b10, fun ad => ?_⟩
   have hr := g3 ad
   rw [List.append_assoc, ← List.map_append, show AA0 (p :: r, b) ++ ABZ ps = ABZ ((p :: r, b) :: ps) from (List.flatMap_cons (f := AA0) (x := (p :: r, b)) (xs := ps)).symm] at hr
   refine ADV (ρ1 := [o0, o1, some (prT (hf w)), some (W0 ad), some (.tuple ((p :: r).map PT)), some (.bool b), o6, o7, o8, o9, o10]) rfl rfl ?_ hr
   unfold ldO
   refine AC1 (AA1 (ρ' := [o0, o1, some (prT (hf w)), some (W0 ad), some (.tuple ((p :: r).map PT)), some (.bool b), some (.tuple ((ARG (p :: r, b)).map PT)), o7, o8, o9, o10]) (AD1 (AU2 (by omega) o0 o1 (some (prT (hf w))) (some (W0 ad)) o6 o7 o8 o9 o10)) rfl) ?_
   exact AGO (AYX rfl rfl) (h3 ad)
theorem AOL {w : Rat} (hw : Wd w) {ps : List (List P2 × Bool)} (h : ∀ q ∈ ps, GoodQ q) (hl : ps.length ≤ 6) : r0 [PhT ps, RT w] = .ok (.list ((ABZ ps).map (lnD w))) := by
 obtain ⟨b4, b5, b6, b7, b8, b9, b10, g3⟩ := ALB hw (o0 := some (PhT ps)) (o1 := some (RT w)) ps [] none none none none none none none h (by rw [List.length_nil]; omega)
 have m2 : J0 (.int (w.den : Int)) (.int 2) = some (.int ((w.den * 2 : Nat) : Int)) := by
  have : w.den ≤ 12 := by have := Nat.le_of_dvd (by decide) hw.den; omega
  rw [ADU (K := 12) (by rw [Int.natAbs_natCast]; exact this)]
  rfl
 have e : Q5 [some (PhT ps), some (RT w), none, none, none, none, none, none, none, none, none] = .rt (.list ((ABZ ps).map (lnD w))) := by
  unfold Q5
  rw [AB0 (v := prT (hf w)) (ρ' := [some (PhT ps), some (RT w), some (prT (hf w)), none, none, none, none, none, none, none, none]) (APP (AY8 (r := w) rfl) (h_2 (AZL (r := w) rfl) h_c m2)) rfl]
  rw [AHW (r := [some (PhT ps), some (RT w), some (prT (hf w)), some (.list ((ABZ ps).map (lnD w))), b4, b5, b6, b7, b8, b9, b10]) (show 3 < 11 by decide) fun ad => ⟨_, _, AGO (ts := ps.map PaT) (j8 rfl) (g3 ad), rfl⟩]
  exact N6 rfl
 show clR (Tr.run 11 Q5 [PhT ps, RT w]) = _
 rw [P4 (ρ := [some (PhT ps), some (RT w), none, none, none, none, none, none, none, none, none]) rfl e]
 rfl
theorem ADR {a b c : Rat} (h : 0 < c) : c * a ≤ c * b ↔ a ≤ b := by
 rw [← Rat.not_lt, ← Rat.not_lt, Rat.mul_lt_mul_left h]
theorem AET {m n : Int} {c a b : Rat} (h : 0 < c) (hm : (m : Rat) = c * a) (hn : (n : Rat) = c * b) : m ≤ n ↔ a ≤ b := by
 rw [← Rat.intCast_le_intCast, hm, hn]; exact ADR h
def ANY (W Hh Aa Bb Mo Le Al : Int) : Bool :=
 if Al ≤ 0 then decide (Aa ^ 2 + Bb ^ 2 ≤ Mo) else if Le ≤ Al then decide ((Aa - W) ^ 2 + (Bb - Hh) ^ 2 ≤ Mo) else decide ((Aa * Hh - Bb * W) ^ 2 ≤ Mo * Le)
def AWK (fx fy tx ty re u x y be : Int) : Bool := ANY ((tx - fx) * be) ((ty - fy) * be) (x * u - fx * be) (y * u - fy * be) ((re * be) ^ 2) (((tx - fx) * be) ^ 2 + ((ty - fy) * be) ^ 2) ((x * u - fx * be) * ((tx - fx) * be) + (y * u - fy * be) * ((ty - fy) * be))
theorem AU4 {fx fy tx ty re u x y be : Int} (h1 : fx.natAbs ≤ 1440) (h2 : fy.natAbs ≤ 1440) (h3 : tx.natAbs ≤ 1440) (h4 : ty.natAbs ≤ 1440) (h5 : re.natAbs ≤ 1440) (h6 : u.natAbs ≤ 12) (hx : x.natAbs ≤ 5760) (hy : y.natAbs ≤ 5760) (hb : be.natAbs ≤ 120) : V6 [.tuple [.int fx, .int fy, .int tx, .int ty, .int re, .int u], .int x, .int y, .int be] = .ok (.bool (AWK fx fy tx ty re u x y be)) := by
 have a1 : (tx - fx).natAbs ≤ 2880 := AQO h3 h1 (by decide)
 have a2 : (ty - fy).natAbs ≤ 2880 := AQO h4 h2 (by decide)
 have a3 : ((tx - fx) * be).natAbs ≤ 400000 := nab a1 hb (by decide)
 have a4 : ((ty - fy) * be).natAbs ≤ 400000 := nab a2 hb (by decide)
 have a5 : (x * u - fx * be).natAbs ≤ 400000 := AQO (nab hx h6 (Nat.le_refl _)) (nab h1 hb (Nat.le_refl _)) (by decide)
 have a6 : (y * u - fy * be).natAbs ≤ 400000 := AQO (nab hy h6 (Nat.le_refl _)) (nab h2 hb (Nat.le_refl _)) (by decide)
 have a7 : (re * be).natAbs ≤ 400000 := nab h5 hb (by decide)
 have m1 : J0 (.int (tx - fx)) (.int be) = some (.int ((tx - fx) * be)) := ADU a1
 have m2 : J0 (.int (ty - fy)) (.int be) = some (.int ((ty - fy) * be)) := ADU a2
 unfold AWK
 generalize hL : PyData.tuple [.int fx, .int fy, .int tx, .int ty, .int re, .int u] = L
 have g : Tr.gTup [Tr.gName 4, Tr.gName 5, Tr.gName 6, Tr.gName 7, Tr.gName 8, Tr.gName 9] L [some L, some (.int x), some (.int y), some (.int be), none, none, none, none, none, none, none, none, none, none, none, none, none] = some [some L, some (.int x), some (.int y), some (.int be), some (.int fx), some (.int fy), some (.int tx), some (.int ty), some (.int re), some (.int u), none, none, none, none, none, none, none] := by rw [← hL]; rfl
 generalize hW : (tx - fx) * be = W at *
 generalize hH : (ty - fy) * be = Hh at *
 have s1 : e2 AC9 (e2 J0 (A3 1) (A3 9)) (e2 J0 (A3 4) (A3 3)) [some L, some (.int x), some (.int y), some (.int be), some (.int fx), some (.int fy), some (.int tx), some (.int ty), some (.int re), some (.int u), some (.int W), some (.int Hh), none, none, none, none, none] = .ok (.int (x * u - fx * be)) :=
  h_2 (h_2 (x := .int x) (y := .int u) rfl rfl (ADU hx)) (h_2 (x := .int fx) (y := .int be) rfl rfl (ADU h1)) (AE5 _ _)
 have s2 : e2 AC9 (e2 J0 (A3 2) (A3 9)) (e2 J0 (A3 5) (A3 3)) [some L, some (.int x), some (.int y), some (.int be), some (.int fx), some (.int fy), some (.int tx), some (.int ty), some (.int re), some (.int u), some (.int W), some (.int Hh), none, none, none, none, none] = .ok (.int (y * u - fy * be)) :=
  h_2 (h_2 (x := .int y) (y := .int u) rfl rfl (ADU hy)) (h_2 (x := .int fy) (y := .int be) rfl rfl (ADU h2)) (AE5 _ _)
 generalize hA : x * u - fx * be = Aa at *
 generalize hB : y * u - fy * be = Bb at *
 have b3 : (Aa * Hh).natAbs ≤ 160000000000 := nab a5 a4 (by decide)
 have b4 : (Bb * W).natAbs ≤ 160000000000 := nab a6 a3 (by decide)
 have b5 : (Aa - W).natAbs ≤ 800000 := AQO a5 a3 (by decide)
 have b6 : (Bb - Hh).natAbs ≤ 800000 := AQO a6 a4 (by decide)
 have b7 : (Aa * Hh - Bb * W).natAbs ≤ 320000000000 := AQO b3 b4 (by decide)
 have b8 : ((re * be) ^ 2).natAbs ≤ 160000000000 := by
  rw [Int.pow_succ, Int.pow_succ, Int.pow_zero, Int.one_mul]
  exact nab a7 a7 (by decide)
 have mm : J0 (.int re) (.int be) = some (.int (re * be)) := ADU h5
 have pm := ASY a7
 generalize hM : (re * be) ^ 2 = Mo at *
 have key : AAD [some L, some (.int x), some (.int y), some (.int be), none, none, none, none, none, none, none, none, none, none, none, none, none] = .rt (.bool (ANY W Hh Aa Bb Mo (W ^ 2 + Hh ^ 2) (Aa * W + Bb * Hh))) := by
  unfold AAD
  rw [AFS (v := L) rfl g]
  rw [ASD (x := .int W) (y := .int Hh) (ρ' := [some L, some (.int x), some (.int y), some (.int be), some (.int fx), some (.int fy), some (.int tx), some (.int ty), some (.int re), some (.int u), some (.int W), some (.int Hh), none, none, none, none, none]) (h_2 (h_2 (x := .int tx) (y := .int fx) rfl rfl (AE5 _ _)) (y := .int be) rfl m1) (h_2 (h_2 (x := .int ty) (y := .int fy) rfl rfl (AE5 _ _)) (y := .int be) rfl m2) rfl]
  rw [ASD (x := .int Aa) (y := .int Bb) (ρ' := [some L, some (.int x), some (.int y), some (.int be), some (.int fx), some (.int fy), some (.int tx), some (.int ty), some (.int re), some (.int u), some (.int W), some (.int Hh), some (.int Aa), some (.int Bb), none, none, none]) s1 s2 rfl]
  rw [AB0 (v := .int Mo) (ρ' := [some L, some (.int x), some (.int y), some (.int be), some (.int fx), some (.int fy), some (.int tx), some (.int ty), some (.int re), some (.int u), some (.int W), some (.int Hh), some (.int Aa), some (.int Bb), some (.int Mo), none, none]) (h_2 (h_2 (x := .int re) (y := .int be) rfl rfl mm) h_c pm) rfl]
  rw [AB0 (v := .int (W ^ 2 + Hh ^ 2)) (ρ' := [some L, some (.int x), some (.int y), some (.int be), some (.int fx), some (.int fy), some (.int tx), some (.int ty), some (.int re), some (.int u), some (.int W), some (.int Hh), some (.int Aa), some (.int Bb), some (.int Mo), some (.int (W ^ 2 + Hh ^ 2)), none]) (h_2 (h_2 (x := .int W) rfl h_c (ASY a3)) (h_2 (x := .int Hh) rfl h_c (ASY a4)) (ACA _ _)) rfl]
  rw [AB0 (v := .int (Aa * W + Bb * Hh)) (ρ' := [some L, some (.int x), some (.int y), some (.int be), some (.int fx), some (.int fy), some (.int tx), some (.int ty), some (.int re), some (.int u), some (.int W), some (.int Hh), some (.int Aa), some (.int Bb), some (.int Mo), some (.int (W ^ 2 + Hh ^ 2)), some (.int (Aa * W + Bb * Hh))]) (h_2 (h_2 (x := .int Aa) (y := .int W) rfl rfl (ADU a5)) (h_2 (x := .int Bb) (y := .int Hh) rfl rfl (ADU a6)) (ACA _ _)) rfl]
  generalize W ^ 2 + Hh ^ 2 = Le
  generalize Aa * W + Bb * Hh = Al
  have c1 : bV (e2 leT (A3 16) (eC (.int 0))) [some L, some (.int x), some (.int y), some (.int be), some (.int fx), some (.int fy), some (.int tx), some (.int ty), some (.int re), some (.int u), some (.int W), some (.int Hh), some (.int Aa), some (.int Bb), some (.int Mo), some (.int Le), some (.int Al)] = .ok (decide (Al ≤ 0)) := h_b (h_2 (x := .int Al) rfl h_c rfl)
  have c2 : bV (e2 geT (A3 16) (A3 15)) [some L, some (.int x), some (.int y), some (.int be), some (.int fx), some (.int fy), some (.int tx), some (.int ty), some (.int re), some (.int u), some (.int W), some (.int Hh), some (.int Aa), some (.int Bb), some (.int Mo), some (.int Le), some (.int Al)] = .ok (decide (Le ≤ Al)) := h_b (h_2 (x := .int Al) (y := .int Le) rfl rfl rfl)
  unfold ANY
  by_cases e1 : Al ≤ 0
  ·rw [decide_eq_true e1] at c1
   rw [if_pos e1]
   exact APU c1 (h_2 (h_2 (h_2 (x := .int Aa) rfl h_c (ASY a5)) (h_2 (x := .int Bb) rfl h_c (ASY a6)) (ACA _ _)) (y := .int Mo) rfl rfl)
  ·rw [decide_eq_false e1] at c1
   rw [if_neg e1, S8 c1]
   by_cases e2 : Le ≤ Al
   ·rw [decide_eq_true e2] at c2
    rw [if_pos e2]
    exact APU c2 (h_2 (h_2 (h_2 (h_2 (x := .int Aa) (y := .int W) rfl rfl (AE5 _ _)) h_c (ASY b5)) (h_2 (h_2 (x := .int Bb) (y := .int Hh) rfl rfl (AE5 _ _)) h_c (ASY b6)) (ACA _ _)) (y := .int Mo) rfl rfl)
   ·rw [decide_eq_false e2] at c2
    rw [if_neg e2, S8 c2]
    exact N6 (h_2 (h_2 (h_2 (h_2 (x := .int Aa) (y := .int Hh) rfl rfl (ADU a5)) (h_2 (x := .int Bb) (y := .int W) rfl rfl (ADU a6)) (AE5 _ _)) h_c (ASY b7)) (h_2 (x := .int Mo) (y := .int Le) rfl rfl (ADU b8)) rfl)
 show clR (Tr.run 17 AAD [L, .int x, .int y, .int be]) = _
 rw [P4 (ρ := [some L, some (.int x), some (.int y), some (.int be), none, none, none, none, none, none, none, none, none, none, none, none, none]) rfl key]
 rfl
def ACF (w : Rat) (z : P2 × P2) (x y : Rat) : Prop :=
 if (x - z.1.1) * (z.2.1 - z.1.1) + (y - z.1.2) * (z.2.2 - z.1.2) ≤ 0 then (x - z.1.1) * (x - z.1.1) + (y - z.1.2) * (y - z.1.2) ≤ w / 2 * (w / 2)
 else if (z.2.1 - z.1.1) * (z.2.1 - z.1.1) + (z.2.2 - z.1.2) * (z.2.2 - z.1.2) ≤ (x - z.1.1) * (z.2.1 - z.1.1) + (y - z.1.2) * (z.2.2 - z.1.2) then (x - z.2.1) * (x - z.2.1) + (y - z.2.2) * (y - z.2.2) ≤ w / 2 * (w / 2)
 else ((x - z.1.1) * (z.2.2 - z.1.2) - (y - z.1.2) * (z.2.1 - z.1.1)) * ((x - z.1.1) * (z.2.2 - z.1.2) - (y - z.1.2) * (z.2.1 - z.1.1)) ≤ w / 2 * (w / 2) * ((z.2.1 - z.1.1) * (z.2.1 - z.1.1) + (z.2.2 - z.1.2) * (z.2.2 - z.1.2))
theorem sqC (a : Int) : ((a ^ 2 : Int) : Rat) = (a : Rat) * (a : Rat) := by
 rw [Int.pow_succ, Int.pow_succ, Int.pow_zero, Int.one_mul, Rat.intCast_mul]
theorem AS2 {W Hh Aa Bb Rr : Int} {c dx dy ax ay h : Rat} (hc : 0 < c) (eW : (W : Rat) = c * dx) (eH : (Hh : Rat) = c * dy) (eA : (Aa : Rat) = c * ax) (eB : (Bb : Rat) = c * ay) (eR : (Rr : Rat) = c * h) :
  ANY W Hh Aa Bb (Rr ^ 2) (W ^ 2 + Hh ^ 2) (Aa * W + Bb * Hh) = true ↔ (if ax * dx + ay * dy ≤ 0 then ax * ax + ay * ay ≤ h * h else if dx * dx + dy * dy ≤ ax * dx + ay * dy then (ax - dx) * (ax - dx) + (ay - dy) * (ay - dy) ≤ h * h else (ax * dy - ay * dx) * (ax * dy - ay * dx) ≤ h * h * (dx * dx + dy * dy)) := by
 have c2 : 0 < c * c := Rat.mul_pos hc hc
 have c4 : 0 < c * c * (c * c) := Rat.mul_pos c2 c2
 have kAl : ((Aa * W + Bb * Hh : Int) : Rat) = c * c * (ax * dx + ay * dy) := by rw [Rat.intCast_add, Rat.intCast_mul, Rat.intCast_mul, eW, eH, eA, eB]; grind
 have kLe : ((W ^ 2 + Hh ^ 2 : Int) : Rat) = c * c * (dx * dx + dy * dy) := by rw [Rat.intCast_add, sqC, sqC, eW, eH]; grind
 have kMo : ((Rr ^ 2 : Int) : Rat) = c * c * (h * h) := by rw [sqC, eR]; grind
 have k0 : ((0 : Int) : Rat) = c * c * 0 := by rw [Rat.mul_zero]; rfl
 have i1 := AET c2 kAl k0
 have i2 := AET c2 kLe kAl
 have i3 := AET c2 (m := Aa ^ 2 + Bb ^ 2) (a := ax * ax + ay * ay) (by rw [Rat.intCast_add, sqC, sqC, eA, eB]; grind) kMo
 have i4 := AET c2 (m := (Aa - W) ^ 2 + (Bb - Hh) ^ 2) (a := (ax - dx) * (ax - dx) + (ay - dy) * (ay - dy)) (by rw [Rat.intCast_add, sqC, sqC, Rat.intCast_sub, Rat.intCast_sub, eA, eB, eW, eH]; grind) kMo
 have i5 := AET c4 (m := (Aa * Hh - Bb * W) ^ 2) (n := Rr ^ 2 * (W ^ 2 + Hh ^ 2)) (a := (ax * dy - ay * dx) * (ax * dy - ay * dx)) (b := h * h * (dx * dx + dy * dy)) (by rw [sqC, Rat.intCast_sub, Rat.intCast_mul, Rat.intCast_mul, eA, eB, eW, eH]; grind) (by rw [Rat.intCast_mul, kMo, kLe]; grind)
 unfold ANY
 by_cases h1 : Aa * W + Bb * Hh ≤ 0
 ·rw [if_pos h1, if_pos (i1.mp h1), decide_eq_true_iff]; exact i3
 ·rw [if_neg h1, if_neg (fun w => h1 (i1.mpr w))]
  by_cases h2 : W ^ 2 + Hh ^ 2 ≤ Aa * W + Bb * Hh
  ·rw [if_pos h2, if_pos (i2.mp h2), decide_eq_true_iff]; exact i4
  ·rw [if_neg h2, if_neg (fun w => h2 (i2.mpr w)), decide_eq_true_iff]; exact i5
theorem AP6 {m n : Int} {c a b : Rat} (h : 0 < c) (hm : (m : Rat) = c * a) (hn : (n : Rat) = c * b) : m < n ↔ a < b := by
 rw [← Rat.intCast_lt_intCast, hm, hn]; exact Rat.mul_lt_mul_left h
theorem AL6 (r : Rat) : (0 : Rat) < (r.den : Rat) := Rat.natCast_pos.mpr (Nat.pos_of_ne_zero r.den_nz)
theorem Good.q {ps : List (List P2 × Bool)} (h : Good ps) : ∀ q ∈ ps, GoodQ q := fun q hq => ⟨h.some q hq, h.short q hq, h.pts q hq⟩
theorem AGP {Q B U : Nat} {r : Rat} (hQ : 0 < Q) (h : At r (Q : Int) B) (hr : r.den ∣ U) (hU : U ∣ Q) : (inU U r).natAbs ≤ B := by
 obtain ⟨n, e, hn⟩ := h
 obtain ⟨c, rfl⟩ := hU
 have hc : 0 < c := Nat.pos_of_ne_zero fun z => by rw [z, Nat.mul_zero] at hQ; exact absurd hQ (Nat.lt_irrefl _)
 have e1 : ((inU U r * (c : Int) : Int) : Rat) = (n : Rat) := by
  rw [← e, Rat.intCast_mul, AFH hr, Rat.intCast_natCast, Rat.intCast_natCast, Rat.natCast_mul]
  grind
 have e2 := Rat.intCast_inj.mp e1
 have e3 : (inU U r).natAbs * c = n.natAbs := by rw [← e2, Int.natAbs_mul, Int.natAbs_natCast]
 have := Nat.le_mul_of_pos_right (inU U r).natAbs hc
 omega
instance (w : Rat) (z : P2 × P2) (x y : Rat) : Decidable (ACF w z x y) := by unfold ACF; infer_instance
theorem AM5 {U : Nat} {r : Rat} (h : At r 12 120) (hU : U ≤ 12) : (inP U (r.num, r.den)).natAbs ≤ 1440 := AWV h hU
theorem AO5 {w : Rat} (hw : Wd w) {z : P2 × P2} (hz : A12 z.1 ∧ A12 z.2) {x y : Rat} {X Y : Int} {V : Nat} (hV : 0 < V) (hV2 : V ≤ 120) (eX : (X : Rat) = x * (V : Rat)) (eY : (Y : Rat) = y * (V : Rat)) (bX : X.natAbs ≤ 5760) (bY : Y.natAbs ≤ 5760) : V6 [lnD w z, .int X, .int Y, .int (V : Int)] = .ok (.bool (decide (ACF w z x y))) := by
 have hok := AT7 hw hz
 obtain ⟨u0, u1, ud, _⟩ := AWG hok (show (ts5 w z).length ≤ 1000 by show 5 ≤ 1000; decide)
 have hm : ∀ t ∈ ts5 w z, t.2 ∣ uP (ts5 w z) := ud
 have ea := AI8 (v := z.1.1) (n := z.1.1.num) (d := z.1.1.den) (hok (z.1.1.num, z.1.1.den) (by simp [ts5])).2.1 (hm (z.1.1.num, z.1.1.den) (by simp [ts5])) (z9 _)
 have eb := AI8 (v := z.1.2) (n := z.1.2.num) (d := z.1.2.den) (hok (z.1.2.num, z.1.2.den) (by simp [ts5])).2.1 (hm (z.1.2.num, z.1.2.den) (by simp [ts5])) (z9 _)
 have ec := AI8 (v := z.2.1) (n := z.2.1.num) (d := z.2.1.den) (hok (z.2.1.num, z.2.1.den) (by simp [ts5])).2.1 (hm (z.2.1.num, z.2.1.den) (by simp [ts5])) (z9 _)
 have ed := AI8 (v := z.2.2) (n := z.2.2.num) (d := z.2.2.den) (hok (z.2.2.num, z.2.2.den) (by simp [ts5])).2.1 (hm (z.2.2.num, z.2.2.den) (by simp [ts5])) (z9 _)
 have er := AI8 (v := w / 2) (n := w.num) (d := w.den * 2) (hok (hf w) (by simp [ts5])).2.1 (hm (hf w) (by simp [ts5])) (by
  have := z9 w
  rw [Rat.natCast_mul]
  have e2 : ((2 : Nat) : Rat) = 2 := rfl
  rw [e2, ← this]
  grind)
 have br : (inP (uP (ts5 w z)) (hf w)).natAbs ≤ 1440 := by
  have h2 : uP (ts5 w z) / (w.den * 2) ≤ 12 := Nat.le_trans (Nat.div_le_self _ _) u1
  show (w.num * ((uP (ts5 w z) / (w.den * 2) : Nat) : Int)).natAbs ≤ 1440
  rw [Int.natAbs_mul, Int.natAbs_natCast]
  exact Nat.le_trans (Nat.mul_le_mul hw.num h2) (by decide)
 unfold lnD
 rw [AU4 (AM5 hz.1.1 u1) (AM5 hz.1.2 u1) (AM5 hz.2.1 u1) (AM5 hz.2.2 u1) br (by rw [Int.natAbs_natCast]; exact u1) bX bY (by rw [Int.natAbs_natCast]; exact hV2)]
 have er' : ((inP (uP (ts5 w z)) (hf w) : Int) : Rat) = w / 2 * (uP (ts5 w z) : Rat) := er
 generalize inP (uP (ts5 w z)) (hf w) = re at *
 generalize inP (uP (ts5 w z)) (z.1.1.num, z.1.1.den) = a at *
 generalize inP (uP (ts5 w z)) (z.1.2.num, z.1.2.den) = b at *
 generalize inP (uP (ts5 w z)) (z.2.1.num, z.2.1.den) = c at *
 generalize inP (uP (ts5 w z)) (z.2.2.num, z.2.2.den) = d at *
 generalize uP (ts5 w z) = U at *
 have hUp : (0 : Rat) < (U : Rat) := Rat.natCast_pos.mpr u0
 have hVp : (0 : Rat) < (V : Rat) := Rat.natCast_pos.mpr hV
 have key := AS2 (W := (c - a) * (V : Int)) (Hh := (d - b) * (V : Int)) (Aa := X * (U : Int) - a * (V : Int)) (Bb := Y * (U : Int) - b * (V : Int)) (Rr := re * (V : Int)) (c := (U : Rat) * (V : Rat)) (dx := z.2.1 - z.1.1) (dy := z.2.2 - z.1.2) (ax := x - z.1.1) (ay := y - z.1.2) (h := w / 2) (Rat.mul_pos hUp hVp)
  (by rw [Rat.intCast_mul, Rat.intCast_sub, Rat.intCast_natCast, ea, ec]; grind) (by rw [Rat.intCast_mul, Rat.intCast_sub, Rat.intCast_natCast, eb, ed]; grind)
  (by rw [Rat.intCast_sub, Rat.intCast_mul, Rat.intCast_mul, Rat.intCast_natCast, Rat.intCast_natCast, ea, eX]; grind) (by rw [Rat.intCast_sub, Rat.intCast_mul, Rat.intCast_mul, Rat.intCast_natCast, Rat.intCast_natCast, eb, eY]; grind)
  (by rw [Rat.intCast_mul, Rat.intCast_natCast, er']; grind)
 rw [show x - z.1.1 - (z.2.1 - z.1.1) = x - z.2.1 by grind, show y - z.1.2 - (z.2.2 - z.1.2) = y - z.2.2 by grind] at key
 congr 2
 rw [Bool.eq_iff_iff, decide_eq_true_iff]
 exact key
theorem AIG {w : Rat} (hw : Wd w) {x y : Rat} {X Y : Int} {V : Nat} (hV : 0 < V) (hV2 : V ≤ 120) (eX : (X : Rat) = x * (V : Rat)) (eY : (Y : Rat) = y * (V : Rat)) (bX : X.natAbs ≤ 5760) (bY : Y.natAbs ≤ 5760) {o0 : Option T} : ∀ (zs : List (P2 × P2)) (o4 : Option T), (∀ z ∈ zs, A12 z.1 ∧ A12 z.2) →
  ∃ r : SR, AHH (Tr.gName 4) (sIf (bV (eF (A5 4 [] V6) (A0 (A3 4) (A0 (A3 1) (A0 (A3 2) (A0 (A3 3) B2)))))) (G5 (eC (.bool true))) C6) (zs.map (lnD w)) [o0, some (.int X), some (.int Y), some (.int (V : Int)), o4] = r ∧ (((zs.any fun z => decide (ACF w z x y)) = false ∧ ∃ ρ, r = .nx ρ) ∨ ((zs.any fun z => decide (ACF w z x y)) = true ∧ r = .rt (.bool true)))
 | [], o4, _ => ⟨_, rfl, .inl ⟨rfl, _, rfl⟩⟩
 | z :: zs, o4, h => by
  have hk := AO5 hw (h z List.mem_cons_self) hV hV2 eX eY bX bY
  have g : Tr.gName 4 (lnD w z) [o0, some (.int X), some (.int Y), some (.int (V : Int)), o4] = some [o0, some (.int X), some (.int Y), some (.int (V : Int)), some (lnD w z)] := rfl
  have c : bV (eF (A5 4 [] V6) (A0 (A3 4) (A0 (A3 1) (A0 (A3 2) (A0 (A3 3) B2))))) [o0, some (.int X), some (.int Y), some (.int (V : Int)), some (lnD w z)] = .ok (decide (ACF w z x y)) := h_b (ASO (x := lnD w z) (y := .int X) (z := .int Y) (w := .int (V : Int)) rfl rfl rfl rfl hk)
  rw [List.any_cons]
  cases hd : decide (ACF w z x y) with
  | true =>
   rw [hd] at c
   refine ⟨.rt (.bool true), ?_, .inr ⟨rfl, rfl⟩⟩
   rw [List.map_cons, AHH]
   have e : sIf (bV (eF (A5 4 [] V6) (A0 (A3 4) (A0 (A3 1) (A0 (A3 2) (A0 (A3 3) B2)))))) (G5 (eC (.bool true))) C6 [o0, some (.int X), some (.int Y), some (.int (V : Int)), some (lnD w z)] = .rt (.bool true) := AZ5 c (N6 h_c)
   simp only [g, e]
  | false =>
   rw [hd] at c
   obtain ⟨r, h1, h2⟩ := AIG hw hV hV2 eX eY bX bY (o0 := o0) zs (some (lnD w z)) fun u hu => h u (List.mem_cons_of_mem _ hu)
   rw [Bool.false_or]
   exact ⟨r, M3 g (AU3 c rfl) h1, h2⟩
theorem AN3 {w : Rat} (hw : Wd w) {x y : Rat} {X Y : Int} {V : Nat} (hV : 0 < V) (hV2 : V ≤ 120) (eX : (X : Rat) = x * (V : Rat)) (eY : (Y : Rat) = y * (V : Rat)) (bX : X.natAbs ≤ 5760) (bY : Y.natAbs ≤ 5760) {zs : List (P2 × P2)} (h : ∀ z ∈ zs, A12 z.1 ∧ A12 z.2) : m5 [.list (zs.map (lnD w)), .int X, .int Y, .int (V : Int)] = .ok (.bool (zs.any fun z => decide (ACF w z x y))) := by
 obtain ⟨r, h1, h2⟩ := AIG hw hV hV2 eX eY bX bY (o0 := some (.list (zs.map (lnD w)))) zs none h
 have key : Q6 [some (.list (zs.map (lnD w))), some (.int X), some (.int Y), some (.int (V : Int)), none] = .rt (.bool (zs.any fun z => decide (ACF w z x y))) := by
  unfold Q6
  rcases h2 with ⟨ha, ρ, rfl⟩ | ⟨ha, rfl⟩
  ·rw [AIQ (ts := zs.map (lnD w)) (AEO rfl) h1, ha]
   exact N6 h_c
  ·rw [ha]
   unfold C4 AEP
   rw [AEO (ts := zs.map (lnD w)) rfl]
   show (match AHH (Tr.gName 4) (sIf (bV (eF (A5 4 [] V6) (A0 (A3 4) (A0 (A3 1) (A0 (A3 2) (A0 (A3 3) B2)))))) (G5 (eC (.bool true))) C6) (zs.map (lnD w)) [some (.list (zs.map (lnD w))), some (.int X), some (.int Y), some (.int (V : Int)), none] with | .nx ρ' => G5 (eC (.bool false)) ρ' | r => r) = _
   rw [h1]
 show clR (Tr.run 5 Q6 [.list (zs.map (lnD w)), .int X, .int Y, .int (V : Int)]) = _
 rw [P4 (ρ := [some (.list (zs.map (lnD w))), some (.int X), some (.int Y), some (.int (V : Int)), none]) rfl key]
 rfl
theorem ANP {ps : List (List P2 × Bool)} (h : ∀ q ∈ ps, GoodQ q) : ∀ z ∈ ABZ ps, A12 z.1 ∧ A12 z.2 := fun z hz => by
 obtain ⟨q, hq, hz⟩ := List.mem_flatMap.mp hz
 exact AGQ (h q hq).pts z hz
def ATQ (w : Rat) (ps : List (List P2 × Bool)) (x y : Rat) : Bool := (ABZ ps).any fun z => decide (ACF w z x y)
theorem AP8 {w : Rat} (hw : Wd w) {ps : List (List P2 × Bool)} (h : Good ps) {Q B : Nat} (hQ : 0 < Q) (hQ1 : Q ≤ 120) (hB : B ≤ 5760) {x y : Rat} (hx : At x (Q : Int) B) (hy : At y (Q : Int) B) : R8 [PhT ps, RT w, RT x, RT y] = .ok (.bool (ATQ w ps x y)) := by
 have sm : ∀ {r : Rat}, At r (Q : Int) B → Sm r := fun h => v7 h (by omega) (by rw [J5]; omega) (by rw [J5, Int.natAbs_natCast]; omega)
 have dv : ∀ {r : Rat}, At r (Q : Int) B → r.den ∣ Q := fun h => by
  have := AKR h
  rw [Int.natAbs_natCast] at this
  exact this
 have l3 := AOL hw h.q h.few
 obtain ⟨U, u0, u1, ud, u2⟩ := ALK hQ (Nat.le_trans hQ1 (by decide)) (rs := [x, y]) (fun r hr => by
  simp only [List.mem_cons, List.not_mem_nil, or_false] at hr
  rcases hr with rfl | rfl
  ·exact sm hx
  ·exact sm hy) (by simp) (fun r hr => by
  simp only [List.mem_cons, List.not_mem_nil, or_false] at hr
  rcases hr with rfl | rfl
  ·exact dv hx
  ·exact dv hy)
 have u24 := Nat.le_trans (Nat.le_of_dvd hQ u1) hQ1
 have hk := AN3 hw u0 u24 (AFH (ud x (by simp))) (AFH (ud y (by simp))) (Nat.le_trans (AGP hQ hx (ud x (by simp)) u1) hB) (Nat.le_trans (AGP hQ hy (ud y (by simp)) u1) hB) (ANP h.q)
 have sw : Sm w := ⟨by rw [J5]; have := hw.num; omega, by rw [J5]; have := Nat.le_of_dvd (by decide) hw.den; omega⟩
 have hwd : ABW [RT w] = .ok (.bool true) := by
  have hn : decide (0 ≤ w.num) = true := decide_eq_true (Rat.num_nonneg.mpr hw.pos)
  have e : r9 [some (RT w)] = .rt (.bool true) := by
   unfold r9
   exact N6 (AP4 (ABY (x := RT w) rfl (d0 sw)) (h_2 (AY8 (r := w) rfl) h_c (by rw [← hn]; rfl)))
  show clR (Tr.run 1 r9 [RT w]) = _
  rw [P4 (ρ := [some (RT w)]) rfl e]
  rfl
 have g : Tr.gTup [AZB [Tr.gName 4, Tr.gName 5], Tr.gName 6] (.tuple [.list ([x, y].map fun r => PyData.int (inU U r)), .int (U : Int)]) [some (PhT ps), some (RT w), some (RT x), some (RT y), none, none, none] = some [some (PhT ps), some (RT w), some (RT x), some (RT y), some (.int (inU U x)), some (.int (inU U y)), some (.int (U : Int))] := rfl
 have e : N3 [some (PhT ps), some (RT w), some (RT x), some (RT y), none, none, none] = .rt (.bool (ATQ w ps x y)) := by
  unfold N3
  rw [ABN (ABY (x := PhT ps) rfl (Y5 (AAE h.gp)))]
  rw [S8 (AD9 (k := true) (h_b (ABY (x := RT w) rfl hwd)))]
  rw [ABN (ABY (x := RT x) rfl (ABX (sm hx))), ABN (ABY (x := RT y) rfl (ABX (sm hy)))]
  rw [AFS (ABY (APP (x := RT x) (y := RT y) rfl rfl) u2) g]
  exact N6 (ASO (ACG (x := PhT ps) (y := RT w) rfl rfl l3) (y := .int (inU U x)) (z := .int (inU U y)) (w := .int (U : Int)) rfl rfl rfl hk)
 show clR (Tr.run 7 N3 [PhT ps, RT w, RT x, RT y]) = _
 rw [P4 (ρ := [some (PhT ps), some (RT w), some (RT x), some (RT y), none, none, none]) rfl e]
 rfl
theorem AJL {a b c d : Int} (ha : a.natAbs.log2 < 400) (hb : b.natAbs.log2 < 400) (hc : c.natAbs.log2 < 400) (hd : d.natAbs.log2 < 400) : W5 [.tuple [.int a, .int b], .tuple [.int c, .int d]] = .ok (.bool (decide (a * d < c * b))) := by
 have e0 : AA5 [some (.tuple [.int a, .int b]), some (.tuple [.int c, .int d])] = .rt (.bool (decide (a * d < c * b))) := by
  unfold AA5
  exact N6 (h_2 (h_2 (h_2 (x := .tuple [.int a, .int b]) rfl h_c rfl) (h_2 (x := .tuple [.int c, .int d]) rfl h_c rfl) (S2 ha hd)) (h_2 (h_2 (x := .tuple [.int c, .int d]) rfl h_c rfl) (h_2 (x := .tuple [.int a, .int b]) rfl h_c rfl) (S2 hc hb)) rfl)
 show clR (Tr.run 2 AA5 [.tuple [.int a, .int b], .tuple [.int c, .int d]]) = _
 rw [P4 (ρ := [some (.tuple [.int a, .int b]), some (.tuple [.int c, .int d])]) rfl e0]
 rfl
theorem AMU {a b c d : Int} (ha : a.natAbs.log2 < 400) (hb : b.natAbs.log2 < 400) (hc : c.natAbs.log2 < 400) (hd : d.natAbs.log2 < 400) : L1 [.tuple [.int a, .int b], .tuple [.int c, .int d]] = .ok (.bool (decide (a * d < c * b))) := AJL ha hb hc hd
theorem ALR (r s : Rat) : decide (r.num * (s.den : Int) < s.num * (r.den : Int)) = decide (r < s) := decide_eq_decide.mpr (Rat.lt_iff r s).symm
theorem AP7 {r s : Rat} (hr : Sm r) (hs : Sm s) : W5 [RT r, RT s] = .ok (.bool (decide (r < s))) := by
 rw [← ALR]
 exact AJL (lg hr.1) (lgd hr.2) (lg hs.1) (lgd hs.2)
theorem AEK {r s : Rat} (hr : Sm r) (hs : Sm s) : L1 [RT r, RT s] = .ok (.bool (decide (r < s))) := by
 rw [← ALR]
 exact AMU (lg hr.1) (lgd hr.2) (lg hs.1) (lgd hs.2)
noncomputable def AZ3 : FS := (C4 (sIf (bV (eF (A5 2 [] W5) (A0 (A3 3) (A0 (A3 1) B2)))) (E7 (Tr.gName 1) (A3 3)) C6) (sIf (bV (eF (A5 2 [] W5) (A0 (A3 2) (A0 (A3 3) B2)))) (E7 (Tr.gName 2) (A3 3)) C6))
theorem AQW {l : Option T} {x lo hi : Rat} (hx : Sm x) (hlo : Sm lo) (hhi : Sm hi) : AZ3 [l, some (RT lo), some (RT hi), some (RT x)] = .nx [l, some (RT (if x < lo then x else lo)), some (RT (if hi < x then x else hi)), some (RT x)] := by
 have b2 : ∀ u : Rat, sIf (bV (eF (A5 2 [] W5) (A0 (A3 2) (A0 (A3 3) B2)))) (E7 (Tr.gName 2) (A3 3)) C6 [l, some (RT u), some (RT hi), some (RT x)] = .nx [l, some (RT u), some (RT (if hi < x then x else hi)), some (RT x)] := fun u => by
  have t := h_b (ρ := [l, some (RT u), some (RT hi), some (RT x)]) (ACG (a := A3 2) (b := A3 3) (x := RT hi) (y := RT x) rfl rfl (AP7 hhi hx))
  by_cases h : hi < x
  ·rw [decide_eq_true h] at t
   rw [if_pos h]
   exact AZ5 t rfl
  ·rw [decide_eq_false h] at t
   rw [if_neg h]
   exact AU3 t rfl
 have t := h_b (ρ := [l, some (RT lo), some (RT hi), some (RT x)]) (ACG (a := A3 3) (b := A3 1) (x := RT x) (y := RT lo) rfl rfl (AP7 hx hlo))
 unfold AZ3
 by_cases h : x < lo
 ·rw [decide_eq_true h] at t
  rw [if_pos h, AaL t (ρ' := [l, some (RT x), some (RT hi), some (RT x)]) rfl]
  exact b2 x
 ·rw [decide_eq_false h] at t
  rw [if_neg h, S8 t]
  exact b2 lo
theorem ALC {l : Option T} : ∀ (rs : List Rat) (lo hi : Rat) (o : Option T), (∀ r ∈ rs, Sm r) → Sm lo → Sm hi → ∃ (lo' hi' : Rat) (o' : Option T), (lo' = lo ∨ lo' ∈ rs) ∧ (hi' = hi ∨ hi' ∈ rs) ∧ lo' ≤ lo ∧ hi ≤ hi' ∧ (∀ r ∈ rs, lo' ≤ r ∧ r ≤ hi') ∧
  AHH (Tr.gName 3) AZ3 (rs.map RT) [l, some (RT lo), some (RT hi), o] = .nx [l, some (RT lo'), some (RT hi'), o']
 | [], lo, hi, o, _, _, _ => ⟨lo, hi, o, .inl rfl, .inl rfl, Rat.le_refl, Rat.le_refl, fun r hr => (List.not_mem_nil hr).elim, rfl⟩
 | x :: rs, lo, hi, o, hr, hlo, hhi => by
  have hx := hr x List.mem_cons_self
  obtain ⟨lo', hi', o', a1, a2, a3, a4, a5, a6⟩ := ALC (l := l) rs (if x < lo then x else lo) (if hi < x then x else hi) (some (RT x)) (fun r h => hr r (List.mem_cons_of_mem _ h)) (by split <;> assumption) (by split <;> assumption)
  have n1 : (if x < lo then x else lo) ≤ lo ∧ (if x < lo then x else lo) ≤ x := by
   by_cases h : x < lo
   ·rw [if_pos h]; exact ⟨Rat.le_of_lt h, Rat.le_refl⟩
   ·rw [if_neg h]; exact ⟨Rat.le_refl, Rat.not_lt.mp h⟩
  have n2 : hi ≤ (if hi < x then x else hi) ∧ x ≤ (if hi < x then x else hi) := by
   by_cases h : hi < x
   ·rw [if_pos h]; exact ⟨Rat.le_of_lt h, Rat.le_refl⟩
   ·rw [if_neg h]; exact ⟨Rat.le_refl, Rat.not_lt.mp h⟩
  refine ⟨lo', hi', o', ?_, ?_, Rat.le_trans a3 n1.1, Rat.le_trans n2.1 a4, fun r h => ?_, ?_⟩
  ·rcases a1 with e | e
   ·by_cases h : x < lo
    ·rw [if_pos h] at e; exact .inr (by rw [e]; exact List.mem_cons_self)
    ·rw [if_neg h] at e; exact .inl e
   ·exact .inr (List.mem_cons_of_mem _ e)
  ·rcases a2 with e | e
   ·by_cases h : hi < x
    ·rw [if_pos h] at e; exact .inr (by rw [e]; exact List.mem_cons_self)
    ·rw [if_neg h] at e; exact .inl e
   ·exact .inr (List.mem_cons_of_mem _ e)
  ·rcases List.mem_cons.mp h with rfl | h
   ·exact ⟨Rat.le_trans a3 n1.2, Rat.le_trans n2.2 a4⟩
   ·exact a5 r h
  ·rw [List.map_cons]
   exact M3 (ρ1 := [l, some (RT lo), some (RT hi), some (RT x)]) rfl (AQW hx hlo hhi) a6
theorem AWC {i j : Nat} {e : FE} {R4 : FS} {ρ ρ' : Ev} {v : T} (h : e ρ = .ok v) (hi : (ρ.set i (some v)).set j (some v) = ρ') : C4 (ARN i j e) R4 ρ = R4 ρ' := by
 unfold C4 ARN
 rw [h, ← hi]; rfl
structure Ends (rs : List Rat) (lo hi : Rat) : Prop where
 inL : lo ∈ rs
 inH : hi ∈ rs
 all : ∀ r ∈ rs, lo ≤ r ∧ r ≤ hi
theorem ANS {rs : List Rat} (h0 : rs ≠ []) (hs : ∀ r ∈ rs, Sm r) : ∃ lo hi, ABL [.list (rs.map RT)] = .ok (.tuple [RT lo, RT hi]) ∧ Ends rs lo hi := by
 cases rs with
 | nil => exact absurd rfl h0
 | cons x r =>
  have hx := hs x List.mem_cons_self
  obtain ⟨lo, hi, o, a1, a2, _, _, a5, a6⟩ := ALC (l := some (.list ((x :: r).map RT))) (x :: r) x x none hs hx hx
  unfold AZ3 at a6
  refine ⟨lo, hi, ?_, ⟨?_, ?_, a5⟩⟩
  ·have e0 : AAM [some (.list ((x :: r).map RT)), none, none, none] = .rt (.tuple [RT lo, RT hi]) := by
    unfold AAM
    rw [AWC (v := RT x) (ρ' := [some (.list ((x :: r).map RT)), some (RT x), some (RT x), none]) (h_2 (x := .list ((x :: r).map RT)) rfl h_c (show atI ((x :: r).map RT) ((0 : Nat) : Int) = some (RT x) from AOJ (j := 0) rfl)) rfl]
    rw [AIQ (ts := (x :: r).map RT) (AEO rfl) a6]
    exact N6 (APP (x := RT lo) (y := RT hi) rfl rfl)
   show clR (Tr.run 4 AAM [.list ((x :: r).map RT)]) = _
   rw [P4 (ρ := [some (.list ((x :: r).map RT)), none, none, none]) rfl e0]
   rfl
  ·rcases a1 with e | e
   ·rw [e]; exact List.mem_cons_self
   ·exact e
  ·rcases a2 with e | e
   ·rw [e]; exact List.mem_cons_self
   ·exact e
def g9 (ps : List (List P2 × Bool)) : List P2 := ps.flatMap (·.1)
theorem ALA : ∀ ps : List (List P2 × Bool), (∀ q ∈ ps, q.1.length ≤ 1000) → ABB (Tr.gTup [Tr.gName 0, Tr.gName 1]) (fun _ => .ok true) (iOf G7 (A3 0)) 2 (fun _ => .ok true) (A3 2) [none, none, none] (ps.map PaT) = .ok ((g9 ps).map PT)
 | [], _ => rfl
 | q :: ps, h => by
  have ih := ALA ps fun r hr => h r (List.mem_cons_of_mem _ hr)
  have g : Tr.gTup [Tr.gName 0, Tr.gName 1] (PaT q) [none, none, none] = some [some (.tuple (q.1.map PT)), some (.bool q.2), none] := rfl
  have i : iOf G7 (A3 0) [some (.tuple (q.1.map PT)), some (.bool q.2), none] = .ok (q.1.map PT) := j8 rfl
  have c := W2 (g := Tr.gName 2) (te := A3 2) (ρ := [some (.tuple (q.1.map PT)), some (.bool q.2), none]) (i := PT) (f := PT) q.1 fun p _ => ⟨[some (.tuple (q.1.map PT)), some (.bool q.2), some (PT p)], rfl, rfl⟩
  have l : (q.1.map PT).length ≤ 1000 := by rw [List.length_map]; exact h q List.mem_cons_self
  rw [List.map_cons, ABB]
  simp only [g, i, if_pos l, c, ih]
  show R.ok (q.1.map PT ++ (g9 ps).map PT) = R.ok ((g9 (q :: ps)).map PT)
  unfold g9
  rw [List.flatMap_cons, List.map_append]
theorem AVZ {it : FI} {sel : List (Option Nat)} {g : FG} {test : FT} {it2 : FI} {k : Nat} {test2 : FT} {te : FE} {ρ : Ev} {ts xs : List T} (h1 : it ρ = .ok ts) (h2 : ts.length ≤ 1000) (h3 : ABB g test it2 k test2 te (L6 sel ρ) ts = .ok xs) : AIV it sel g test it2 k test2 te ρ = .ok (.list xs) := by
 unfold AIV
 rw [h1]
 show (if ts.length ≤ 1000 then (ABB g test it2 k test2 te (L6 sel ρ) ts).bind _ else _) = _
 rw [if_pos h2, h3]
 rfl
theorem AOG {ps : List (List P2 × Bool)} (h : ∀ q ∈ ps, q.1.length ≤ 10) : (g9 ps).length ≤ 10 * ps.length := by
 induction ps with
 | nil => exact Nat.le_refl _
 | cons q ps ih =>
  have i := ih fun r hr => h r (List.mem_cons_of_mem _ hr)
  have j := h q List.mem_cons_self
  unfold g9 at i ⊢
  rw [List.flatMap_cons, List.length_append, List.length_cons]
  omega
theorem ADX {ps : List (List P2 × Bool)} (h : GP ps) {p : P2} (hp : p ∈ g9 ps) : Sm p.1 ∧ Sm p.2 := by
 obtain ⟨q, hq, hp⟩ := List.mem_flatMap.mp hp
 exact h.pts q hq p hp
structure Box (sp : List P2) (l b r t : Rat) : Prop where
 x : Ends (sp.map (·.1)) l r
 y : Ends (sp.map (·.2)) b t
theorem AX0 {ps : List (List P2 × Bool)} (h : GP ps) (h0 : ps ≠ []) : ∃ l b r t, AAZ [PhT ps] = .ok (.tuple [RT l, RT b, RT r, RT t]) ∧ Box (g9 ps) l b r t ∧ g9 ps ≠ [] := by
 have hne : g9 ps ≠ [] := by
  cases ps with
  | nil => exact absurd rfl h0
  | cons q ps =>
   intro z
   unfold g9 at z
   rw [List.flatMap_cons] at z
   exact h.some q List.mem_cons_self (List.append_eq_nil_iff.mp z).1
 have tr : N8 (PhT ps) = some true := by
  cases ps with
  | nil => exact absurd rfl h0
  | cons q ps => rfl
 have bv : bV (A3 0) [some (PhT ps), none, none, none, none, none] = .ok true := by
  show R.of (N8 (PhT ps)) = _
  rw [tr]; rfl
 have ll := AOG h.short
 have lf := h.few
 obtain ⟨l, r, e1, E1⟩ := ANS (rs := (g9 ps).map (·.1)) (by intro z; exact hne (List.map_eq_nil_iff.mp z)) (fun x hx => by
  obtain ⟨p, hp, rfl⟩ := List.mem_map.mp hx
  exact (ADX h hp).1)
 obtain ⟨b, t, e2', E2⟩ := ANS (rs := (g9 ps).map (·.2)) (by intro z; exact hne (List.map_eq_nil_iff.mp z)) (fun x hx => by
  obtain ⟨p, hp, rfl⟩ := List.mem_map.mp hx
  exact (ADX h hp).2)
 have c1 := W2 (g := Tr.gTup [Tr.gName 0, Tr.gName 1]) (te := A3 0) (ρ := [none, none]) (i := PT) (f := fun p : P2 => RT p.1) (g9 ps) fun p _ => ⟨[some (RT p.1), some (RT p.2)], rfl, rfl⟩
 have c2 := W2 (g := Tr.gTup [Tr.gName 0, Tr.gName 1]) (te := A3 1) (ρ := [none, none]) (i := PT) (f := fun p : P2 => RT p.2) (g9 ps) fun p _ => ⟨[some (RT p.1), some (RT p.2)], rfl, rfl⟩
 have m1 : (g9 ps).map (fun p : P2 => RT p.1) = ((g9 ps).map (·.1)).map RT := by rw [List.map_map]; rfl
 have m2 : (g9 ps).map (fun p : P2 => RT p.2) = ((g9 ps).map (·.2)).map RT := by rw [List.map_map]; rfl
 rw [m1] at c1
 rw [m2] at c2
 refine ⟨l, b, r, t, ?_, ⟨E1, E2⟩, hne⟩
 have e0 : n0 [some (PhT ps), none, none, none, none, none] = .rt (.tuple [RT l, RT b, RT r, RT t]) := by
  unfold n0
  rw [ABN (ABY (x := PhT ps) rfl (Y5 (AAE h)))]
  rw [S8 (AD9 (k := true) bv)]
  rw [AB0 (v := .list ((g9 ps).map PT)) (ρ' := [some (PhT ps), some (.list ((g9 ps).map PT)), none, none, none, none]) (AVZ (ts := ps.map PaT) (j8 rfl) (by rw [List.length_map]; omega) (ALA ps fun q hq => Nat.le_trans (h.short q hq) (by decide))) rfl]
  rw [AFS (v := .tuple [RT l, RT r]) (ρ' := [some (PhT ps), some (.list ((g9 ps).map PT)), some (RT l), some (RT r), none, none]) (ABY (X0 (ts := (g9 ps).map PT) (AEO rfl) (by rw [List.length_map]; omega) c1) e1) rfl]
  rw [AFS (v := .tuple [RT b, RT t]) (ρ' := [some (PhT ps), some (.list ((g9 ps).map PT)), some (RT l), some (RT r), some (RT b), some (RT t)]) (ABY (X0 (ts := (g9 ps).map PT) (AEO rfl) (by rw [List.length_map]; omega) c2) e2') rfl]
  exact N6 (AcT (x := RT l) (y := RT b) (z := RT r) (w := RT t) rfl rfl rfl rfl)
 show clR (Tr.run 6 n0 [PhT ps]) = _
 rw [P4 (ρ := [some (PhT ps), none, none, none, none, none]) rfl e0]
 rfl
theorem AVG : AAZ [PhT []] = .ok .none := by
 have g : GP [] := ⟨by decide, fun q hq => (List.not_mem_nil hq).elim, fun q hq => (List.not_mem_nil hq).elim, fun q hq => (List.not_mem_nil hq).elim⟩
 have e0 : n0 [some (PhT []), none, none, none, none, none] = .rt .none := by
  unfold n0
  rw [ABN (ABY (x := PhT []) rfl (Y5 (AAE g)))]
  exact APU (AD9 (k := false) rfl) h_c
 show clR (Tr.run 6 n0 [PhT []]) = _
 rw [P4 (ρ := [some (PhT []), none, none, none, none, none]) rfl e0]
 rfl
def AW (p : P2) : Prop := At p.1 24 5040 ∧ At p.2 24 5040
theorem smW {r : Rat} (h : At r 24 5040) : Sm r := v7 h (by decide) (by rw [J5]; omega) (by rw [J5]; omega)
structure GW1 (q : List P2 × Bool) : Prop where
 some : q.1 ≠ []
 short : q.1.length ≤ 10
 pts : ∀ p ∈ q.1, AW p
theorem AVX {ps qs : List P2} (h1 : ∀ p ∈ ps, AW p) (h2 : ∀ p ∈ qs, AW p) : ∀ z ∈ ps.zip qs, AW z.1 ∧ AW z.2 := fun z hz => by
 obtain ⟨a, b⟩ := z
 have := List.of_mem_zip hz
 exact ⟨h1 a this.1, h2 b this.2⟩
def rs4 (z : P2 × P2) : List Rat := [z.1.1, z.1.2, z.2.1, z.2.2]
def IsU (rs : List Rat) (U : Nat) : Prop := 0 < U ∧ U ∣ 24 ∧ (∀ r ∈ rs, r.den ∣ U) ∧ L8 [.tuple (rs.map RT)] = .ok (.tuple [.list (rs.map fun r => PyData.int (inU U r)), .int (U : Int)])
open Classical in
noncomputable def uOf (rs : List Rat) : Nat := if h : ∃ U, IsU rs U then Classical.choose h else 1
theorem AQ6 {rs : List Rat} (h : ∀ r ∈ rs, At r 24 5040) (hl : rs.length ≤ 1000) : IsU rs (uOf rs) := by
 obtain ⟨U, h0, h1, h2, h3⟩ := ALK (Q := 24) (by decide) (by decide) (rs := rs) (fun r hr => smW (h r hr)) hl (fun r hr => AKR (h r hr))
 have hh : ∃ U, IsU rs U := ⟨U, h0, h1, h2, h3⟩
 unfold uOf
 rw [dif_pos hh]
 exact Classical.choose_spec hh
theorem AOT {z : P2 × P2} (hp : AW z.1) (hq : AW z.2) : ∀ r ∈ rs4 z, At r 24 5040 := fun r hr => by
 simp only [rs4, List.mem_cons, List.not_mem_nil, or_false] at hr
 rcases hr with rfl | rfl | rfl | rfl
 ·exact hp.1
 ·exact hp.2
 ·exact hq.1
 ·exact hq.2
noncomputable def lnT (z : P2 × P2) : T := .tuple [.int (inU (uOf (rs4 z)) z.1.1), .int (inU (uOf (rs4 z)) z.1.2), .int (inU (uOf (rs4 z)) z.2.1), .int (inU (uOf (rs4 z)) z.2.2), .int (uOf (rs4 z) : Int)]
noncomputable def lrB : FB := (AE8 (i8 1 (E7 (Tr.gTup [(Tr.gName 6), (Tr.gName 7)]) (eF (A5 1 [] L8) (A0 (e2 ACI (A3 4) (A3 5)) B2)))) (ANL (e2 ACI (eN AFV (A0 (A3 6) B2)) (J3 (A0 (A3 7) B2)))))
theorem AUR {z : P2 × P2} (hp : AW z.1) (hq : AW z.2) : ∃ v w, ∀ (o0 o2 o3 o6 o7 : Option T) (acc : List T), acc.length ≤ 1000 → ∀ ad, lrB ad [o0, some (W0 ad), o2, o3, some (PT z.1), some (PT z.2), o6, o7] acc = .nx [o0, some (W0 ad), o2, o3, some (PT z.1), some (PT z.2), some v, some w] (acc ++ [lnT z]) := by
 obtain ⟨h0, h1, _, h2⟩ := AQ6 (AOT hp hq) (show (rs4 z).length ≤ 1000 by show 4 ≤ 1000; decide)
 unfold lnT
 generalize uOf (rs4 z) = U at *
 obtain ⟨p, q⟩ := z
 refine ⟨.list [.int (inU U p.1), .int (inU U p.2), .int (inU U q.1), .int (inU U q.2)], .int (U : Int), fun o0 o2 o3 o6 o7 acc hl ad => ?_⟩
 unfold lrB
 refine AC1 (AA1 (ρ' := [o0, some (W0 ad), o2, o3, some (PT p), some (PT q), some (.list [.int (inU U p.1), .int (inU U p.2), .int (inU U q.1), .int (inU U q.2)]), some (.int (U : Int))]) (ASQ (ABY (h_2 (x := PT p) (y := PT q) (z := .tuple ([p.1, p.2, q.1, q.2].map RT)) rfl rfl rfl) h2) rfl) rfl) ?_
 exact ALI (h_2 (AEA (x := .list [.int (inU U p.1), .int (inU U p.2), .int (inU U q.1), .int (inU U q.2)]) rfl rfl) (AZU (x := .int (U : Int)) rfl) rfl) hl
theorem ANO {o0 o2 o3 : Option T} : ∀ (zs : List (P2 × P2)) (acc : List T) (o4 o5 o6 o7 : Option T), (∀ z ∈ zs, AW z.1 ∧ AW z.2) → acc.length + zs.length ≤ 1000 → ∃ (o4' o5' o6' o7' : Option T), ∀ ad : Nat,
  W9 (fun t ρ => (Tr.gTup [Tr.gName 4, Tr.gName 5] t ρ).bind fun ρ' => if N9 1 ad ρ' = true then some ρ' else none) lrB (zs.map zT) ad [o0, some (W0 ad), o2, o3, o4, o5, o6, o7] acc = .nx [o0, some (W0 ad), o2, o3, o4', o5', o6', o7'] (acc ++ zs.map lnT)
 | [], acc, o4, o5, o6, o7, _, _ => ⟨o4, o5, o6, o7, fun ad => by rw [List.map_nil, W9, List.map_nil, List.append_nil]⟩
 | z :: zs, acc, o4, o5, o6, o7, h, hl => by
  rw [List.length_cons] at hl
  obtain ⟨v, w, hb⟩ := AUR (h z List.mem_cons_self).1 (h z List.mem_cons_self).2
  obtain ⟨o4', o5', o6', o7', h3⟩ := ANO (o0 := o0) (o2 := o2) (o3 := o3) zs (acc ++ [lnT z]) (some (PT z.1)) (some (PT z.2)) (some v) (some w) (fun y hy => h y (List.mem_cons_of_mem _ hy)) (by rw [List.length_append, List.length_singleton]; omega)
  refine ⟨o4', o5', o6', o7', fun ad => ?_⟩
  have hq := h3 ad
  rw [List.append_assoc] at hq
  exact ADV (ρ1 := [o0, some (W0 ad), o2, o3, some (PT z.1), some (PT z.2), o6, o7]) rfl rfl (hb o0 o2 o3 o6 o7 acc (by omega) ad) hq
noncomputable def lrO : FB := (ALE 1 (iN (AW3 true true) (A0 (A3 2) (A0 (e2 ACI (AG0 (A3 2) (some (eC (.int 1))) none) (AG0 (A3 2) none (some (eC (.int 1))))) B2))) (Tr.gTup [(Tr.gName 4), (Tr.gName 5)]) lrB)
def K4 (pts : List P2) : List (P2 × P2) := pts.zip (pts.drop 1 ++ pts.take 1)
def ADK (ps : List (List P2 × Bool)) : List (P2 × P2) := ps.flatMap fun q => K4 q.1
theorem AGB (pts : List P2) : (K4 pts).length ≤ pts.length := by
 unfold K4
 rw [List.length_zip]
 omega
theorem AJ8 {pts : List P2} (h : ∀ p ∈ pts, AW p) : ∀ z ∈ K4 pts, AW z.1 ∧ AW z.2 := AVX h fun x hx => by
 rcases List.mem_append.mp hx with hx | hx
 ·exact h x (List.mem_of_mem_drop hx)
 ·exact h x (List.mem_of_mem_take hx)
theorem ALT {o0 : Option T} : ∀ (ps : List (List P2 × Bool)) (acc : List T) (o2 o3 o4 o5 o6 o7 : Option T), (∀ q ∈ ps, GW1 q) → acc.length + 10 * ps.length ≤ 1000 → ∃ (o2' o3' o4' o5' o6' o7' : Option T), ∀ ad : Nat,
  W9 (fun t ρ => (Tr.gTup [Tr.gName 2, Tr.gName 3] t ρ).bind fun ρ' => if N9 1 ad ρ' = true then some ρ' else none) lrO (ps.map PaT) ad [o0, some (W0 ad), o2, o3, o4, o5, o6, o7] acc = .nx [o0, some (W0 ad), o2', o3', o4', o5', o6', o7'] (acc ++ (ADK ps).map lnT)
 | [], acc, o2, o3, o4, o5, o6, o7, _, _ => ⟨o2, o3, o4, o5, o6, o7, fun ad => by rw [List.map_nil, W9]; unfold ADK; rw [List.flatMap_nil, List.map_nil, List.append_nil]⟩
 | q :: ps, acc, o2, o3, o4, o5, o6, o7, h, hl => by
  rw [List.length_cons] at hl
  have hq := h q List.mem_cons_self
  obtain ⟨pts, b⟩ := q
  match pts, hq with
  | [], hq => exact absurd rfl hq.some
  | p :: r, hq =>
   have hlen : r.length + 1 ≤ 10 := hq.short
   have ep : K4 (p :: r) = (p :: r).zip (r ++ [p]) := rfl
   have hz : ((p :: r).zip (r ++ [p])).length ≤ 10 := by
    rw [List.length_zip, List.length_append, List.length_singleton, List.length_cons]; omega
   obtain ⟨a4, a5, a6, a7, h3⟩ := ANO (o0 := o0) (o2 := some (.tuple ((p :: r).map PT))) (o3 := some (.bool b)) ((p :: r).zip (r ++ [p])) acc o4 o5 o6 o7 (by rw [← ep]; exact AJ8 hq.pts) (by omega)
   obtain ⟨b2, b3, b4, b5, b6, b7, g3⟩ := ALT (o0 := o0) ps (acc ++ ((p :: r).zip (r ++ [p])).map lnT) (some (.tuple ((p :: r).map PT))) (some (.bool b)) a4 a5 a6 a7 (fun y hy => h y (List.mem_cons_of_mem _ hy)) (by rw [List.length_append, List.length_map]; omega)
   refine ⟨b2, b3, b4, b5, b6, b7, fun ad => ?_⟩
   have hr := g3 ad
   rw [List.append_assoc, ← List.map_append, ← ep] at hr
   refine ADV (ρ1 := [o0, some (W0 ad), some (.tuple ((p :: r).map PT)), some (.bool b), o4, o5, o6, o7]) rfl rfl ?_ hr
   rw [ep]
   exact AGO (AYX rfl (AVI (a := A3 2) rfl (by omega))) (h3 ad)
theorem AQC {ps : List (List P2 × Bool)} (h : ∀ q ∈ ps, GW1 q) (hl : ps.length ≤ 6) : m6 [PhT ps] = .ok (.list ((ADK ps).map lnT)) := by
 obtain ⟨b2, b3, b4, b5, b6, b7, g3⟩ := ALT (o0 := some (PhT ps)) ps [] none none none none none none h (by rw [List.length_nil]; omega)
 have e : Q8 [some (PhT ps), none, none, none, none, none, none, none] = .rt (.list ((ADK ps).map lnT)) := by
  unfold Q8
  rw [AHW (r := [some (PhT ps), some (.list ((ADK ps).map lnT)), b2, b3, b4, b5, b6, b7]) (show 1 < 8 by decide) fun ad => ⟨_, _, AGO (ts := ps.map PaT) (j8 rfl) (g3 ad), rfl⟩]
  exact N6 rfl
 show clR (Tr.run 8 Q8 [PhT ps]) = _
 rw [P4 (ρ := [some (PhT ps), none, none, none, none, none, none, none]) rfl e]
 rfl
theorem AUJ {t u : FB} {a : Nat} {ρ ρ' : Ev} {acc acc' : List T} (h : t a ρ acc = .ct ρ' acc') : AE8 t u a ρ acc = .ct ρ' acc' := by
 unfold AE8; rw [h]
theorem ARK {i a : Nat} {t : FS} {ρ ρ' : Ev} {acc : List T} (h : t ρ = .ct ρ') (hk : ρ'[i]? = some (some (W0 a))) : i8 i t a ρ acc = .ct ρ' acc := by
 unfold i8; rw [h]
 show (if N9 i a ρ' = true then BR.ct ρ' acc else .bad) = _
 rw [if_pos (AD2 hk)]
theorem AS5 {i a : Nat} {g : FG} {body : FB} {t : T} {ts : List T} {ρ ρ1 ρ2 : Ev} {acc acc2 : List T} {r : BR} (hg : g t ρ = some ρ1) (hk : ρ1[i]? = some (some (W0 a))) (hb : body a ρ1 acc = .ct ρ2 acc2)
  (hr : W9 (fun t ρ => (g t ρ).bind fun ρ' => if N9 i a ρ' = true then some ρ' else none) body ts a ρ2 acc2 = r) : W9 (fun t ρ => (g t ρ).bind fun ρ' => if N9 i a ρ' = true then some ρ' else none) body (t :: ts) a ρ acc = r := by
 rw [W9]
 have e : ((g t ρ).bind fun ρ' => if N9 i a ρ' = true then some ρ' else none) = some ρ1 := by
  rw [hg]
  show (if N9 i a ρ1 = true then some ρ1 else none) = _
  rw [if_pos (AD2 hk)]
 simp only [e, hb]
 exact hr
theorem APX {a b c : FE} {ρ : Ev} {i j k : Int} (h1 : a ρ = .ok (.int i)) (h2 : b ρ = .ok (.int j)) (h3 : c ρ = .ok (.int k)) : AD5 leT ltT a b c ρ = .ok (decide (i ≤ j) && decide (j < k)) := by
 have e1 : leT (.int i) (.int j) = some (.bool (decide (i ≤ j))) := rfl
 have e2 : ltT (.int j) (.int k) = some (.bool (decide (j < k))) := rfl
 unfold AD5 APZ
 simp only [h1, h2, h3, R.bind, e1, R.of]
 cases decide (i ≤ j) with
 | true => simp only [e2, R.of]; rfl
 | false => rfl
def AB4 (x y tx ty l be : Int) : Int := x * be * (ty - y) + (l - y * be) * (tx - x)
def tri (x y tx ty u tp be : Int) : List (Int × Int × Int) :=
 if y * be ≤ tp * u ∧ tp * u < ty * be then [(AB4 x y tx ty (tp * u) be * 1, be * (ty - y) * u * 1, 1)]
 else if ty * be ≤ tp * u ∧ tp * u < y * be then [(AB4 x y tx ty (tp * u) be * (-1), be * (ty - y) * u * (-1), -1)]
 else []
def AJZ (t : Int × Int × Int) : T := .tuple [.int t.1, .int t.2.1, .int t.2.2]
noncomputable def crI : FS := (sIf (AD5 leT ltT (e2 J0 (A3 6) (A3 3)) (A3 10) (e2 J0 (A3 8) (A3 3))) (E7 (Tr.gName 12) (eC (.int 1))) (sIf (AD5 leT ltT (e2 J0 (A3 8) (A3 3)) (A3 10) (e2 J0 (A3 6) (A3 3))) (E7 (Tr.gName 12) (e1 AEH (eC (.int 1)))) ATN))
noncomputable def crE : FB := (AE8 (i8 4 (E7 (Tr.gName 13) (e2 t9 (e2 J0 (e2 J0 (A3 5) (A3 3)) (A3 11)) (e2 J0 (e2 AC9 (A3 10) (e2 J0 (A3 6) (A3 3))) (e2 AC9 (A3 7) (A3 5)))))) (ANL (J3 (A0 (e2 J0 (A3 13) (A3 12)) (A0 (e2 J0 (e2 J0 (e2 J0 (A3 3) (A3 11)) (A3 9)) (A3 12)) (A0 (A3 12) B2))))))
noncomputable def crB : FB := (AE8 (i8 4 (E7 (Tr.gName 10) (e2 J0 (A3 2) (A3 9)))) (AE8 (i8 4 (E7 (Tr.gName 11) (e2 AC9 (A3 8) (A3 6)))) (AE8 (i8 4 crI) crE)))
theorem Ac7 {a b c : FE} {ρ : Ev} {x y z : T} (h1 : a ρ = .ok x) (h2 : b ρ = .ok y) (h3 : c ρ = .ok z) : J3 (A0 a (A0 b (A0 c B2))) ρ = .ok (.tuple [x, y, z]) := by
 unfold J3 A0 B2; rw [h1, h2, h3]; rfl
theorem AT8 {x y tx ty u tp be l s : Int} (hx : x.natAbs ≤ 5040) (hy : y.natAbs ≤ 5040) (htx : tx.natAbs ≤ 5040) (hty : ty.natAbs ≤ 5040) (hu : u.natAbs ≤ 24) (hb : be.natAbs ≤ 24) (hl : l.natAbs ≤ 120960) (hs : s.natAbs ≤ 1) : ∀ (o0 o1 o13 : Option T) (acc : List T), acc.length ≤ 1000 → ∀ ad,
  crE ad [o0, o1, some (.int tp), some (.int be), some (W0 ad), some (.int x), some (.int y), some (.int tx), some (.int ty), some (.int u), some (.int l), some (.int (ty - y)), some (.int s), o13] acc = .nx [o0, o1, some (.int tp), some (.int be), some (W0 ad), some (.int x), some (.int y), some (.int tx), some (.int ty), some (.int u), some (.int l), some (.int (ty - y)), some (.int s), some (.int (AB4 x y tx ty l be))] (acc ++ [AJZ (AB4 x y tx ty l be * s, be * (ty - y) * u * s, s)]) := by
 have k1 : (x * be).natAbs ≤ 120960 := nab hx hb (by decide)
 have k2 : (y * be).natAbs ≤ 120960 := nab hy hb (by decide)
 have k3 : (ty - y).natAbs ≤ 10080 := AQO hty hy (by decide)
 have k4 : (tx - x).natAbs ≤ 10080 := AQO htx hx (by decide)
 have k5 : (x * be * (ty - y)).natAbs ≤ 1300000000 := nab k1 k3 (by decide)
 have k6 : (l - y * be).natAbs ≤ 250000 := AQO hl k2 (by decide)
 have k7 : ((l - y * be) * (tx - x)).natAbs ≤ 2600000000 := nab k6 k4 (by decide)
 have k8 : (AB4 x y tx ty l be).natAbs ≤ 4000000000 := AcH k5 k7 (by decide)
 have k9 : (be * (ty - y)).natAbs ≤ 250000 := nab hb k3 (by decide)
 have k10 : (be * (ty - y) * u).natAbs ≤ 10000000 := nab k9 hu (by decide)
 intro o0 o1 o13 acc hacc ad
 have hA : x * be * (ty - y) + (l - y * be) * (tx - x) = AB4 x y tx ty l be := rfl
 generalize AB4 x y tx ty l be = A at *
 unfold crE
 refine AC1 (AA1 (ρ' := [o0, o1, some (.int tp), some (.int be), some (W0 ad), some (.int x), some (.int y), some (.int tx), some (.int ty), some (.int u), some (.int l), some (.int (ty - y)), some (.int s), some (.int A)]) (AD1 (v := .int A) (h_2 (h_2 (h_2 (x := .int x) (y := .int be) rfl rfl (ADU hx)) (y := .int (ty - y)) rfl (ADU k1)) (h_2 (h_2 (x := .int l) rfl (h_2 (x := .int y) (y := .int be) rfl rfl (ADU hy)) (AE5 _ _)) (h_2 (x := .int tx) (y := .int x) rfl rfl (AE5 _ _)) (ADU k6)) (by rw [← hA]; exact ACA _ _))) rfl) ?_
 exact ALI (Ac7 (h_2 (x := .int A) (y := .int s) rfl rfl (ADU k8)) (h_2 (h_2 (h_2 (x := .int be) (y := .int (ty - y)) rfl rfl (ADU hb)) (y := .int u) rfl (ADU k9)) (y := .int s) rfl (ADU k10)) (z := .int s) rfl) hacc
theorem AVN {x y tx ty u tp be : Int} (hx : x.natAbs ≤ 5040) (hy : y.natAbs ≤ 5040) (htx : tx.natAbs ≤ 5040) (hty : ty.natAbs ≤ 5040) (hu : u.natAbs ≤ 24) (ht : tp.natAbs ≤ 5040) (hb : be.natAbs ≤ 24) (o0 o1 o10 o11 o12 o13 : Option T) : ∃ (p10 p11 p12 p13 : Option T), ∀ (acc : List T) (ad : Nat), acc.length ≤ 1000 →
  (crB ad [o0, o1, some (.int tp), some (.int be), some (W0 ad), some (.int x), some (.int y), some (.int tx), some (.int ty), some (.int u), o10, o11, o12, o13] acc = .nx [o0, o1, some (.int tp), some (.int be), some (W0 ad), some (.int x), some (.int y), some (.int tx), some (.int ty), some (.int u), p10, p11, p12, p13] (acc ++ (tri x y tx ty u tp be).map AJZ)) ∨
  (crB ad [o0, o1, some (.int tp), some (.int be), some (W0 ad), some (.int x), some (.int y), some (.int tx), some (.int ty), some (.int u), o10, o11, o12, o13] acc = .ct [o0, o1, some (.int tp), some (.int be), some (W0 ad), some (.int x), some (.int y), some (.int tx), some (.int ty), some (.int u), p10, p11, p12, p13] (acc ++ (tri x y tx ty u tp be).map AJZ)) := by
 have hl : (tp * u).natAbs ≤ 120960 := nab ht hu (by decide)
 have m1 : J0 (.int tp) (.int u) = some (.int (tp * u)) := ADU ht
 unfold tri
 generalize hL : tp * u = l at hl m1
 have first : ∀ acc ad, ∀ r, (AE8 (i8 4 crI) crE) ad [o0, o1, some (.int tp), some (.int be), some (W0 ad), some (.int x), some (.int y), some (.int tx), some (.int ty), some (.int u), some (.int l), some (.int (ty - y)), o12, o13] acc = r →
   crB ad [o0, o1, some (.int tp), some (.int be), some (W0 ad), some (.int x), some (.int y), some (.int tx), some (.int ty), some (.int u), o10, o11, o12, o13] acc = r := fun acc ad r h => by
  unfold crB
  refine AC1 (AA1 (ρ' := [o0, o1, some (.int tp), some (.int be), some (W0 ad), some (.int x), some (.int y), some (.int tx), some (.int ty), some (.int u), some (.int l), o11, o12, o13]) (AD1 (v := .int l) (h_2 (x := .int tp) (y := .int u) rfl rfl m1)) rfl) ?_
  exact AC1 (AA1 (ρ' := [o0, o1, some (.int tp), some (.int be), some (W0 ad), some (.int x), some (.int y), some (.int tx), some (.int ty), some (.int u), some (.int l), some (.int (ty - y)), o12, o13]) (AD1 (v := .int (ty - y)) (h_2 (x := .int ty) (y := .int y) rfl rfl (AE5 _ _))) rfl) h
 have c1 : ∀ ad, AD5 leT ltT (e2 J0 (A3 6) (A3 3)) (A3 10) (e2 J0 (A3 8) (A3 3)) [o0, o1, some (.int tp), some (.int be), some (W0 ad), some (.int x), some (.int y), some (.int tx), some (.int ty), some (.int u), some (.int l), some (.int (ty - y)), o12, o13] = .ok (decide (y * be ≤ l) && decide (l < ty * be)) := fun ad =>
  APX (h_2 (x := .int y) (y := .int be) rfl rfl (ADU hy)) rfl (h_2 (x := .int ty) (y := .int be) rfl rfl (ADU hty))
 have c2 : ∀ ad, AD5 leT ltT (e2 J0 (A3 8) (A3 3)) (A3 10) (e2 J0 (A3 6) (A3 3)) [o0, o1, some (.int tp), some (.int be), some (W0 ad), some (.int x), some (.int y), some (.int tx), some (.int ty), some (.int u), some (.int l), some (.int (ty - y)), o12, o13] = .ok (decide (ty * be ≤ l) && decide (l < y * be)) := fun ad =>
  APX (h_2 (x := .int ty) (y := .int be) rfl rfl (ADU hty)) rfl (h_2 (x := .int y) (y := .int be) rfl rfl (ADU hy))
 rw [← Bool.decide_and] at c1 c2
 by_cases h1 : y * be ≤ l ∧ l < ty * be
 ·rw [if_pos h1]
  rw [decide_eq_true h1] at c1
  refine ⟨some (.int l), some (.int (ty - y)), some (.int 1), some (.int (AB4 x y tx ty l be)), fun acc ad hacc => .inl (first acc ad _ ?_)⟩
  exact AC1 (AA1 (AZ5 (c1 ad) (AD1 h_c)) rfl) (AT8 (tp := tp) hx hy htx hty hu hb hl (by decide) o0 o1 o13 acc hacc ad)
 ·rw [if_neg h1]
  rw [decide_eq_false h1] at c1
  by_cases h2 : ty * be ≤ l ∧ l < y * be
  ·rw [if_pos h2]
   rw [decide_eq_true h2] at c2
   refine ⟨some (.int l), some (.int (ty - y)), some (.int (-1)), some (.int (AB4 x y tx ty l be)), fun acc ad hacc => .inl (first acc ad _ ?_)⟩
   exact AC1 (AA1 (AU3 (c1 ad) (AZ5 (c2 ad) (AD1 (v := .int (-1)) rfl))) rfl) (AT8 (tp := tp) hx hy htx hty hu hb hl (by decide) o0 o1 o13 acc hacc ad)
  ·rw [if_neg h2]
   rw [decide_eq_false h2] at c2
   refine ⟨some (.int l), some (.int (ty - y)), o12, o13, fun acc ad hacc => .inr (first acc ad _ ?_)⟩
   rw [List.map_nil, List.append_nil]
   exact AUJ (ARK (AU3 (c1 ad) (AU3 (c2 ad) rfl)) rfl)
noncomputable def AJ1 (z : P2 × P2) (y : Rat) : List (Int × Int × Int) := tri (inU (uOf (rs4 z)) z.1.1) (inU (uOf (rs4 z)) z.1.2) (inU (uOf (rs4 z)) z.2.1) (inU (uOf (rs4 z)) z.2.2) (uOf (rs4 z) : Int) y.num (y.den : Int)
theorem AOS (x y tx ty u tp be : Int) : (tri x y tx ty u tp be).length ≤ 1 := by
 unfold tri
 split
 ·exact Nat.le_refl _
 ·split
  ·exact Nat.le_refl _
  ·exact Nat.zero_le _
theorem APJ {o0 o1 : Option T} {y : Rat} (hy : At y 24 5040) : ∀ (zs : List (P2 × P2)) (acc : List T) (o5 o6 o7 o8 o9 o10 o11 o12 o13 : Option T), (∀ z ∈ zs, AW z.1 ∧ AW z.2) → acc.length + zs.length ≤ 1000 → ∃ (p5 p6 p7 p8 p9 p10 p11 p12 p13 : Option T), ∀ ad : Nat,
  W9 (fun t ρ => (Tr.gTup [Tr.gName 5, Tr.gName 6, Tr.gName 7, Tr.gName 8, Tr.gName 9] t ρ).bind fun ρ' => if N9 4 ad ρ' = true then some ρ' else none) crB (zs.map lnT) ad [o0, o1, some (.int y.num), some (.int (y.den : Int)), some (W0 ad), o5, o6, o7, o8, o9, o10, o11, o12, o13] acc = .nx [o0, o1, some (.int y.num), some (.int (y.den : Int)), some (W0 ad), p5, p6, p7, p8, p9, p10, p11, p12, p13] (acc ++ (zs.flatMap fun z => AJ1 z y).map AJZ)
 | [], acc, o5, o6, o7, o8, o9, o10, o11, o12, o13, _, _ => ⟨o5, o6, o7, o8, o9, o10, o11, o12, o13, fun ad => by rw [List.map_nil, W9, List.flatMap_nil, List.map_nil, List.append_nil]⟩
 | z :: zs, acc, o5, o6, o7, o8, o9, o10, o11, o12, o13, h, hl => by
  rw [List.length_cons] at hl
  have hz := h z List.mem_cons_self
  have h24 := APV hy (by decide)
  obtain ⟨u0, u1, ud, _⟩ := AQ6 (AOT hz.1 hz.2) (show (rs4 z).length ≤ 1000 by show 4 ≤ 1000; decide)
  obtain ⟨q10, q11, q12, q13, g3⟩ := AVN (AGP (Q := 24) (by decide) hz.1.1 (ud _ (by simp [rs4])) u1) (AGP (Q := 24) (by decide) hz.1.2 (ud _ (by simp [rs4])) u1) (AGP (Q := 24) (by decide) hz.2.1 (ud _ (by simp [rs4])) u1) (AGP (Q := 24) (by decide) hz.2.2 (ud _ (by simp [rs4])) u1) (u := (uOf (rs4 z) : Int)) (by rw [Int.natAbs_natCast]; exact Nat.le_of_dvd (by decide) u1) h24.1 (be := (y.den : Int)) (by rw [Int.natAbs_natCast]; exact h24.2) o0 o1 o10 o11 o12 o13
  have tl : (AJ1 z y).length ≤ 1 := AOS _ _ _ _ _ _ _
  obtain ⟨p5, p6, p7, p8, p9, p10, p11, p12, p13, k3⟩ := APJ hy (o0 := o0) (o1 := o1) zs (acc ++ (AJ1 z y).map AJZ) (some (.int (inU (uOf (rs4 z)) z.1.1))) (some (.int (inU (uOf (rs4 z)) z.1.2))) (some (.int (inU (uOf (rs4 z)) z.2.1))) (some (.int (inU (uOf (rs4 z)) z.2.2))) (some (.int (uOf (rs4 z) : Int))) q10 q11 q12 q13 (fun v hv => h v (List.mem_cons_of_mem _ hv)) (by rw [List.length_append, List.length_map]; omega)
  refine ⟨p5, p6, p7, p8, p9, p10, p11, p12, p13, fun ad => ?_⟩
  have hr := k3 ad
  rw [List.append_assoc, ← List.map_append, show AJ1 z y ++ (zs.flatMap fun z => AJ1 z y) = (z :: zs).flatMap fun z => AJ1 z y from (List.flatMap_cons (f := fun z => AJ1 z y) (x := z) (xs := zs)).symm] at hr
  rcases g3 acc ad (by omega) with e | e
  ·exact ADV (ρ1 := [o0, o1, some (.int y.num), some (.int (y.den : Int)), some (W0 ad), some (.int (inU (uOf (rs4 z)) z.1.1)), some (.int (inU (uOf (rs4 z)) z.1.2)), some (.int (inU (uOf (rs4 z)) z.2.1)), some (.int (inU (uOf (rs4 z)) z.2.2)), some (.int (uOf (rs4 z) : Int)), o10, o11, o12, o13]) rfl rfl e hr
  ·exact AS5 (ρ1 := [o0, o1, some (.int y.num), some (.int (y.den : Int)), some (W0 ad), some (.int (inU (uOf (rs4 z)) z.1.1)), some (.int (inU (uOf (rs4 z)) z.1.2)), some (.int (inU (uOf (rs4 z)) z.2.1)), some (.int (inU (uOf (rs4 z)) z.2.2)), some (.int (uOf (rs4 z) : Int)), o10, o11, o12, o13]) rfl rfl e hr
theorem AHZ {zs : List (P2 × P2)} {y : Rat} (h : ∀ z ∈ zs, AW z.1 ∧ AW z.2) (hl : zs.length ≤ 100) (hy : At y 24 5040) : AB2 [.list (zs.map lnT), RT y] = .ok (.list ((zs.flatMap fun z => AJ1 z y).map AJZ)) := by
 obtain ⟨p5, p6, p7, p8, p9, p10, p11, p12, p13, g3⟩ := APJ (o0 := some (.list (zs.map lnT))) (o1 := some (RT y)) hy zs [] none none none none none none none none none h (by rw [List.length_nil]; omega)
 have e : Y7 [some (.list (zs.map lnT)), some (RT y), none, none, none, none, none, none, none, none, none, none, none, none] = .rt (.list ((zs.flatMap fun z => AJ1 z y).map AJZ)) := by
  unfold Y7
  rw [AFS (v := RT y) (ρ' := [some (.list (zs.map lnT)), some (RT y), some (.int y.num), some (.int (y.den : Int)), none, none, none, none, none, none, none, none, none, none]) rfl rfl]
  rw [AHW (r := [some (.list (zs.map lnT)), some (RT y), some (.int y.num), some (.int (y.den : Int)), some (.list ((zs.flatMap fun z => AJ1 z y).map AJZ)), p5, p6, p7, p8, p9, p10, p11, p12, p13]) (show 4 < 14 by decide) fun ad => ⟨_, _, AGO (ts := zs.map lnT) (AEO rfl) (g3 ad), rfl⟩]
  exact N6 rfl
 show clR (Tr.run 14 Y7 [.list (zs.map lnT), RT y]) = _
 rw [P4 (ρ := [some (.list (zs.map lnT)), some (RT y), none, none, none, none, none, none, none, none, none, none, none, none]) rfl e]
 rfl
theorem ALZ : ∀ ns : List Int, ABA (ns.map PyData.int) = some ns
 | [] => rfl
 | n :: ns => by
  show (ABA (ns.map PyData.int)).map (n :: ·) = _
  rw [ALZ ns]; rfl
noncomputable def tuE : FT := (bV (e2 gtT (e2 J0 (A3 0) (A3 3)) (e2 J0 (A3 4) (A3 1))))
def hit (x : Rat) (t : Int × Int × Int) : Bool := decide (x.num * t.2.1 < t.1 * (x.den : Int))
theorem APO {x : Rat} (hx : x.num.natAbs ≤ 5040) (hb : x.den ≤ 24) : ∀ ts : List (Int × Int × Int), O6 (Tr.gTup [Tr.gName 0, Tr.gName 1, Tr.gName 2]) tuE (A3 2) [none, none, none, some (.int (x.den : Int)), some (.int x.num)] (ts.map AJZ) = .ok (((ts.filter (hit x)).map fun t => t.2.2).map PyData.int)
 | [] => rfl
 | t :: ts => by
  have ih := APO hx hb ts
  obtain ⟨a, b, s⟩ := t
  have g : Tr.gTup [Tr.gName 0, Tr.gName 1, Tr.gName 2] (AJZ (a, b, s)) [none, none, none, some (.int (x.den : Int)), some (.int x.num)] = some [some (.int a), some (.int b), some (.int s), some (.int (x.den : Int)), some (.int x.num)] := rfl
  have mr : J0 (.int a) (.int (x.den : Int)) = some (.int (a * (x.den : Int))) := by
   have h' : CMulG a (x.den : Int) := .inl (.inr ⟨by omega, by omega⟩)
   show (if CMulG a (x.den : Int) then some (PyData.int (a * (x.den : Int))) else none) = _
   rw [if_pos h']
  have c : tuE [some (.int a), some (.int b), some (.int s), some (.int (x.den : Int)), some (.int x.num)] = .ok (hit x (a, b, s)) :=
   h_b (h_2 (h_2 (x := .int a) (y := .int (x.den : Int)) rfl rfl mr) (h_2 (x := .int x.num) (y := .int b) rfl rfl (ADU hx)) rfl)
  have e : A3 2 [some (.int a), some (.int b), some (.int s), some (.int (x.den : Int)), some (.int x.num)] = .ok (.int s) := rfl
  rw [List.map_cons, O6, List.filter_cons]
  cases hk : hit x (a, b, s) with
  | true =>
   rw [hk] at c
   simp only [g, c, e, ih]
   rfl
  | false =>
   rw [hk] at c
   simp only [g, c, ih]
   rfl
def AQN (x : Rat) (ts : List (Int × Int × Int)) : Int := ((ts.filter (hit x)).map fun t => t.2.2).sum
theorem ARS {ts : List (Int × Int × Int)} {x : Rat} (hl : ts.length ≤ 1000) (hx : At x 24 5040) : AHG [.list (ts.map AJZ), RT x] = .ok (.int (AQN x ts)) := by
 have h1 := APV hx (by decide)
 have hn := APO h1.1 h1.2 ts
 have e : ADF [some (.list (ts.map AJZ)), some (RT x), none, none] = .rt (.int (AQN x ts)) := by
  unfold ADF
  rw [AFS (v := RT x) (ρ' := [some (.list (ts.map AJZ)), some (RT x), some (.int x.num), some (.int (x.den : Int))]) rfl rfl]
  refine N6 (AEA (X0 (ts := ts.map AJZ) (AEO rfl) (by rw [List.length_map]; omega) hn) ?_)
  show (ABA _).map (fun ns => PyData.int ns.sum) = _
  rw [ALZ]; rfl
 show clR (Tr.run 4 ADF [.list (ts.map AJZ), RT x]) = _
 rw [P4 (ρ := [some (.list (ts.map AJZ)), some (RT x), none, none]) rfl e]
 rfl
def crs (z : P2 × P2) (y : Rat) : Rat := z.1.1 + (y - z.1.2) / (z.2.2 - z.1.2) * (z.2.1 - z.1.1)
def fz (x y : Rat) (z : P2 × P2) : Int :=
 if z.1.2 ≤ y ∧ y < z.2.2 then (if x < crs z y then 1 else 0)
 else if z.2.2 ≤ y ∧ y < z.1.2 then (if x < crs z y then -1 else 0) else 0
theorem ATF {x y p1 p2 q1 q2 : Rat} {a b c d s : Int} {U : Nat} (hU : 0 < U) (ea : (a : Rat) = p1 * (U : Rat)) (eb : (b : Rat) = p2 * (U : Rat)) (ec : (c : Rat) = q1 * (U : Rat)) (ed : (d : Rat) = q2 * (U : Rat)) (hs : 0 < (s : Rat) * (q2 - p2)) :
  hit x (AB4 a b c d (y.num * (U : Int)) (y.den : Int) * s, (y.den : Int) * (d - b) * (U : Int) * s, s) = decide (x < p1 + (y - p2) / (q2 - p2) * (q1 - p1)) := by
 have hx := z9 x
 have hy := z9 y
 have hxd := AL6 x
 have hyd := AL6 y
 have hUp : (0 : Rat) < (U : Rat) := Rat.natCast_pos.mpr hU
 have hne : q2 - p2 ≠ 0 := fun z => by rw [z, Rat.mul_zero] at hs; exact absurd hs (by decide)
 unfold hit
 rw [decide_eq_decide]
 refine AP6 (c := (x.den : Rat) * (y.den : Rat) * ((U : Rat) * (U : Rat)) * ((s : Rat) * (q2 - p2))) (Rat.mul_pos (Rat.mul_pos (Rat.mul_pos hxd hyd) (Rat.mul_pos hUp hUp)) hs) ?_ ?_
 ·show ((x.num * ((y.den : Int) * (d - b) * (U : Int) * s) : Int) : Rat) = _
  rw [Rat.intCast_mul, Rat.intCast_mul, Rat.intCast_mul, Rat.intCast_mul, Rat.intCast_sub, Rat.intCast_natCast, Rat.intCast_natCast, eb, ed, ← hx]
  grind
 ·show ((AB4 a b c d (y.num * (U : Int)) (y.den : Int) * s * (x.den : Int) : Int) : Rat) = _
  unfold AB4
  rw [Rat.intCast_mul, Rat.intCast_mul, Rat.intCast_add, Rat.intCast_mul, Rat.intCast_mul, Rat.intCast_mul, Rat.intCast_sub, Rat.intCast_sub, Rat.intCast_sub, Rat.intCast_mul, Rat.intCast_mul, Rat.intCast_natCast, Rat.intCast_natCast, Rat.intCast_natCast, ea, eb, ec, ed, ← hy]
  grind
theorem AZM {x y : Rat} {z : P2 × P2} (hz : AW z.1 ∧ AW z.2) : AQN x (AJ1 z y) = fz x y z := by
 obtain ⟨u0, u1, ud, _⟩ := AQ6 (AOT hz.1 hz.2) (show (rs4 z).length ≤ 1000 by show 4 ≤ 1000; decide)
 have ea := AFH (ud z.1.1 (by simp [rs4]))
 have eb := AFH (ud z.1.2 (by simp [rs4]))
 have ec := AFH (ud z.2.1 (by simp [rs4]))
 have ed := AFH (ud z.2.2 (by simp [rs4]))
 unfold AJ1
 generalize uOf (rs4 z) = U at *
 obtain ⟨⟨p1, p2⟩, ⟨q1, q2⟩⟩ := z
 dsimp only at *
 generalize inU U p1 = a at *
 generalize inU U p2 = b at *
 generalize inU U q1 = c at *
 generalize inU U q2 = d at *
 have hy := z9 y
 have hyd := AL6 y
 have hUp : (0 : Rat) < (U : Rat) := Rat.natCast_pos.mpr u0
 have hc : (0 : Rat) < (y.den : Rat) * (U : Rat) := Rat.mul_pos hyd hUp
 have kl : ((y.num * (U : Int) : Int) : Rat) = (y.den : Rat) * (U : Rat) * y := by
  rw [Rat.intCast_mul, Rat.intCast_natCast, ← hy]; grind
 have kb : ((b * (y.den : Int) : Int) : Rat) = (y.den : Rat) * (U : Rat) * p2 := by
  rw [Rat.intCast_mul, Rat.intCast_natCast, eb]; grind
 have kd : ((d * (y.den : Int) : Int) : Rat) = (y.den : Rat) * (U : Rat) * q2 := by
  rw [Rat.intCast_mul, Rat.intCast_natCast, ed]; grind
 have i1 := AET hc kb kl
 have i2 := AP6 hc kl kd
 have i3 := AET hc kd kl
 have i4 := AP6 hc kl kb
 unfold tri fz
 dsimp only
 by_cases h1 : p2 ≤ y ∧ y < q2
 ·rw [if_pos (show b * (y.den : Int) ≤ y.num * (U : Int) ∧ y.num * (U : Int) < d * (y.den : Int) from ⟨i1.mpr h1.1, i2.mpr h1.2⟩), if_pos h1]
  have hh := ATF (x := x) (y := y) (s := 1) u0 ea eb ec ed (by have := h1.1; have := h1.2; grind)
  unfold AQN
  rw [List.filter_cons, hh]
  unfold crs
  by_cases hx : x < p1 + (y - p2) / (q2 - p2) * (q1 - p1)
  ·rw [decide_eq_true hx, if_pos rfl, if_pos hx]; rfl
  ·rw [decide_eq_false hx, if_neg (by decide), if_neg hx]; rfl
 ·rw [if_neg (fun w => h1 ⟨i1.mp w.1, i2.mp w.2⟩), if_neg h1]
  by_cases h2 : q2 ≤ y ∧ y < p2
  ·rw [if_pos (show d * (y.den : Int) ≤ y.num * (U : Int) ∧ y.num * (U : Int) < b * (y.den : Int) from ⟨i3.mpr h2.1, i4.mpr h2.2⟩), if_pos h2]
   have hh := ATF (x := x) (y := y) (s := -1) u0 ea eb ec ed (by
    have e : ((-1 : Int) : Rat) = -1 := rfl
    rw [e]
    have := h2.1; have := h2.2; grind)
   unfold AQN
   rw [List.filter_cons, hh]
   unfold crs
   by_cases hx : x < p1 + (y - p2) / (q2 - p2) * (q1 - p1)
   ·rw [decide_eq_true hx, if_pos rfl, if_pos hx]; rfl
   ·rw [decide_eq_false hx, if_neg (by decide), if_neg hx]; rfl
  ·rw [if_neg (fun w => h2 ⟨i3.mp w.1, i4.mp w.2⟩), if_neg h2]; rfl
theorem AR0 (x : Rat) (a b : List (Int × Int × Int)) : AQN x (a ++ b) = AQN x a + AQN x b := by
 unfold AQN
 rw [List.filter_append, List.map_append, List.sum_append]
theorem ALW {x y : Rat} : ∀ zs : List (P2 × P2), (∀ z ∈ zs, AW z.1 ∧ AW z.2) → AQN x (zs.flatMap fun z => AJ1 z y) = (zs.map (fz x y)).sum
 | [], _ => rfl
 | z :: zs, h => by
  rw [List.flatMap_cons, AR0, AZM (h z List.mem_cons_self), ALW zs fun w hw => h w (List.mem_cons_of_mem _ hw), List.map_cons, List.sum_cons]
def wd (ps : List (List P2 × Bool)) (x y : Rat) : Int := ((ADK ps).map (fz x y)).sum
theorem AM0 {ps : List (List P2 × Bool)} (h : ∀ q ∈ ps, GW1 q) : ∀ z ∈ ADK ps, AW z.1 ∧ AW z.2 := fun z hz => by
 obtain ⟨q, hq, hz⟩ := List.mem_flatMap.mp hz
 exact AJ8 (h q hq).pts z hz
theorem AI9 : ∀ ps : List (List P2 × Bool), (∀ q ∈ ps, GW1 q) → (ADK ps).length ≤ 10 * ps.length
 | [], _ => Nat.le_refl _
 | q :: ps, h => by
  have h1 := AI9 ps fun w hw => h w (List.mem_cons_of_mem _ hw)
  have h2 := AGB q.1
  have h3 := (h q List.mem_cons_self).short
  unfold ADK at *
  rw [List.flatMap_cons, List.length_append, List.length_cons]
  omega
structure GW (ps : List (List P2 × Bool)) : Prop where
 few : ps.length ≤ 6
 q : ∀ q ∈ ps, GW1 q
theorem GW.gp {ps : List (List P2 × Bool)} (h : GW ps) : GP ps := ⟨h.few, fun q hq => (h.q q hq).some, fun q hq => (h.q q hq).short, fun q hq p hp => ⟨smW ((h.q q hq).pts p hp).1, smW ((h.q q hq).pts p hp).2⟩⟩
theorem AW2 {p : P2} (h : A12 p) : AW p := ⟨(h.1.up 2).mono (by decide), (h.2.up 2).mono (by decide)⟩
theorem Good.gw {ps : List (List P2 × Bool)} (h : Good ps) : GW ps := ⟨h.few, fun q hq => ⟨h.some q hq, Nat.le_trans (h.short q hq) (by decide), fun p hp => AW2 (h.pts q hq p hp)⟩⟩
theorem M2 {ps : List (List P2 × Bool)} (h : GW ps) {x y : Rat} (hx : At x 24 5040) (hy : At y 24 5040) : D4 [PhT ps, RT x, RT y] = .ok (.int (wd ps x y)) := by
 have l3 := AQC h.q h.few
 have pl := AI9 ps h.q
 have fw := h.few
 have f3 := AHZ (AM0 h.q) (by omega) hy
 have tl : ((ADK ps).flatMap fun z => AJ1 z y).length ≤ (ADK ps).length := by
  rw [List.length_flatMap]
  have : ∀ zs : List (P2 × P2), (zs.map fun z => (AJ1 z y).length).sum ≤ zs.length := fun zs => by
   induction zs with
   | nil => exact Nat.le_refl _
   | cons z zs ih =>
    rw [List.map_cons, List.sum_cons, List.length_cons]
    have := AOS (inU (uOf (rs4 z)) z.1.1) (inU (uOf (rs4 z)) z.1.2) (inU (uOf (rs4 z)) z.2.1) (inU (uOf (rs4 z)) z.2.2) (uOf (rs4 z) : Int) y.num (y.den : Int)
    have h' : (AJ1 z y).length ≤ 1 := this
    omega
  exact this _
 have hn := ARS (ts := (ADK ps).flatMap fun z => AJ1 z y) (x := x) (by omega) hx
 rw [ALW _ (AM0 h.q)] at hn
 have e : AAL [some (PhT ps), some (RT x), some (RT y)] = .rt (.int (wd ps x y)) := by
  unfold AAL
  rw [ABN (ABY (x := PhT ps) rfl (Y5 (AAE h.gp))), ABN (ABY (x := RT x) rfl (ABX (smW hx))), ABN (ABY (x := RT y) rfl (ABX (smW hy)))]
  exact N6 (ACG (ACG (ABY (x := PhT ps) rfl l3) (y := RT y) rfl f3) (y := RT x) rfl hn)
 show clR (Tr.run 3 AAL [PhT ps, RT x, RT y]) = _
 rw [P4 (ρ := [some (PhT ps), some (RT x), some (RT y)]) rfl e]
 rfl
abbrev ACW : T := .str (Str.ofString "whole")
abbrev AUD : T := .str (Str.ofString "odd")
def APY (r : Bool) (n : Int) : Bool := if r = true then (n.fmod 2 == 1) else !(n == 0)
theorem AG9 (n : Int) : ADL [ACW, .int n] = .ok (.bool (APY false n)) := by
 have e : AB1 [some ACW, some (.int n)] = .rt (.bool (!(n == 0))) := by
  unfold AB1
  exact N6 (AXF (h_b (h_2 (x := ACW) rfl h_c (show eqT ACW ACW = some (.bool true) by kernel_rfl))) (h_2 (x := .int n) rfl h_c rfl))
 show clR (Tr.run 2 AB1 [ACW, .int n]) = _
 rw [P4 (ρ := [some ACW, some (.int n)]) rfl e]
 rfl
theorem ALD (n : Int) : ADL [AUD, .int n] = .ok (.bool (APY true n)) := by
 have e : AB1 [some AUD, some (.int n)] = .rt (.bool (n.fmod 2 == 1)) := by
  unfold AB1
  exact N6 (AX3 (h_b (h_2 (x := AUD) rfl h_c (show eqT AUD ACW = some (.bool false) by kernel_rfl))) (h_2 (h_2 (x := .int n) (z := .int (n.fmod 2)) rfl h_c rfl) h_c rfl))
 show clR (Tr.run 2 AB1 [AUD, .int n]) = _
 rw [P4 (ρ := [some AUD, some (.int n)]) rfl e]
 rfl
theorem AGJ : AAP [ACW] = .ok (.bool true) := by kernel_rfl
theorem ALQ : AAP [AUD] = .ok (.bool true) := by kernel_rfl
theorem AD6 {ps : List (List P2 × Bool)} (h : GW ps) {x y : Rat} (hx : At x 24 5040) (hy : At y 24 5040) {r : T} {b : Bool} (hr : AAP [r] = .ok (.bool true)) (hi : ∀ n : Int, ADL [r, .int n] = .ok (.bool (APY b n))) : J1 [PhT ps, r, RT x, RT y] = .ok (.bool (APY b (wd ps x y))) := by
 have hn := M2 h hx hy
 have e : Z1 [some (PhT ps), some r, some (RT x), some (RT y)] = .rt (.bool (APY b (wd ps x y))) := by
  unfold Z1
  rw [ABN (ABY (x := PhT ps) rfl (Y5 (AAE h.gp)))]
  rw [S8 (AD9 (k := true) (h_b (ABY (x := r) rfl hr)))]
  exact N6 (ACG (x := r) rfl (AEW (x := PhT ps) (y := RT x) (z := RT y) rfl rfl rfl hn) (hi _))
 show clR (Tr.run 4 Z1 [PhT ps, r, RT x, RT y]) = _
 rw [P4 (ρ := [some (PhT ps), some r, some (RT x), some (RT y)]) rfl e]
 rfl
def d2 (z : P2 × P2) (s x y : Rat) : Rat := (x - (z.1.1 + s * (z.2.1 - z.1.1))) * (x - (z.1.1 + s * (z.2.1 - z.1.1))) + (y - (z.1.2 + s * (z.2.2 - z.1.2))) * (y - (z.1.2 + s * (z.2.2 - z.1.2)))
theorem ANN (a : Rat) : 0 ≤ a * a := by
 rcases Rat.le_total (a := 0) (b := a) with h | h
 ·exact Rat.mul_nonneg h h
 ·have : 0 ≤ -a * -a := Rat.mul_nonneg (by grind) (by grind)
  grind
theorem near_iff {w : Rat} {z : P2 × P2} {x y : Rat} : ACF w z x y ↔ ∃ s, 0 ≤ s ∧ s ≤ 1 ∧ d2 z s x y ≤ w / 2 * (w / 2) := by
 obtain ⟨⟨a, b⟩, ⟨c, d⟩⟩ := z
 unfold ACF d2
 dsimp only
 generalize w / 2 * (w / 2) = h
 have hL : 0 ≤ (c - a) * (c - a) + (d - b) * (d - b) := by
  have := ANN (c - a)
  have := ANN (d - b)
  grind
 by_cases h1 : (x - a) * (c - a) + (y - b) * (d - b) ≤ 0
 ·rw [if_pos h1]
  constructor
  ·intro q
   refine ⟨0, by decide, by decide, ?_⟩
   grind
  ·rintro ⟨s, s0, s1, q⟩
   have k1 : 0 ≤ s * -((x - a) * (c - a) + (y - b) * (d - b)) := Rat.mul_nonneg s0 (by grind)
   have k2 : 0 ≤ s * s * ((c - a) * (c - a) + (d - b) * (d - b)) := Rat.mul_nonneg (ANN s) hL
   grind
 ·rw [if_neg h1]
  by_cases h2 : (c - a) * (c - a) + (d - b) * (d - b) ≤ (x - a) * (c - a) + (y - b) * (d - b)
  ·rw [if_pos h2]
   constructor
   ·intro q
    refine ⟨1, by decide, by decide, ?_⟩
    grind
   ·rintro ⟨s, s0, s1, q⟩
    have k1 : 0 ≤ (1 - s) * ((x - a) * (c - a) + (y - b) * (d - b) - ((c - a) * (c - a) + (d - b) * (d - b))) := Rat.mul_nonneg (by grind) (by grind)
    have k2 : 0 ≤ (1 - s) * (1 - s) * ((c - a) * (c - a) + (d - b) * (d - b)) := Rat.mul_nonneg (ANN (1 - s)) hL
    grind
  ·rw [if_neg h2]
   have hp : 0 < (c - a) * (c - a) + (d - b) * (d - b) := by grind
   constructor
   ·intro q
    have hne : (c - a) * (c - a) + (d - b) * (d - b) ≠ 0 := fun z => by rw [z] at hp; exact absurd hp (by decide)
    refine ⟨((x - a) * (c - a) + (y - b) * (d - b)) / ((c - a) * (c - a) + (d - b) * (d - b)), ?_, ?_, ?_⟩
    ·exact (ADR hp).mp (by rw [Rat.mul_zero, Rat.mul_comm, Rat.div_mul_cancel hne]; grind)
    ·exact (ADR hp).mp (by rw [Rat.mul_one, Rat.mul_comm, Rat.div_mul_cancel hne]; grind)
    ·refine (ADR hp).mp ?_
     generalize hs : ((x - a) * (c - a) + (y - b) * (d - b)) / ((c - a) * (c - a) + (d - b) * (d - b)) = s
     have hsL : s * ((c - a) * (c - a) + (d - b) * (d - b)) = (x - a) * (c - a) + (y - b) * (d - b) := by rw [← hs, Rat.div_mul_cancel hne]
     have e : ((c - a) * (c - a) + (d - b) * (d - b)) * ((x - (a + s * (c - a))) * (x - (a + s * (c - a))) + (y - (b + s * (d - b))) * (y - (b + s * (d - b)))) = ((x - a) * (d - b) - (y - b) * (c - a)) * ((x - a) * (d - b) - (y - b) * (c - a)) := by
      have e1 : ((c - a) * (c - a) + (d - b) * (d - b)) * ((x - (a + s * (c - a))) * (x - (a + s * (c - a))) + (y - (b + s * (d - b))) * (y - (b + s * (d - b)))) = ((c - a) * (c - a) + (d - b) * (d - b)) * ((x - a) * (x - a) + (y - b) * (y - b)) - 2 * (s * ((c - a) * (c - a) + (d - b) * (d - b))) * ((x - a) * (c - a) + (y - b) * (d - b)) + (s * ((c - a) * (c - a) + (d - b) * (d - b))) * (s * ((c - a) * (c - a) + (d - b) * (d - b))) := by grind
      rw [e1, hsL]
      grind
     rw [e]
     grind
   ·rintro ⟨s, s0, s1, q⟩
    have k1 := (ADR hp).mpr q
    have k2 := ANN (s * ((c - a) * (c - a) + (d - b) * (d - b)) - ((x - a) * (c - a) + (y - b) * (d - b)))
    grind
def Dl (x y : Rat) (z : P2 × P2) : Rat := (x - z.1.1) * (z.2.2 - z.1.2) - (y - z.1.2) * (z.2.1 - z.1.1)
def fd (x y : Rat) (z : P2 × P2) : Int :=
 if z.1.2 ≤ y ∧ y < z.2.2 then (if Dl x y z < 0 then 1 else 0)
 else if z.2.2 ≤ y ∧ y < z.1.2 then (if 0 < Dl x y z then -1 else 0) else 0
theorem AWY {x a s t u : Rat} (h : 0 < u) : (x < a + s / u * t) ↔ (x - a) * u - s * t < 0 := by
 have hne : u ≠ 0 := fun z => by rw [z] at h; exact absurd h (by decide)
 rw [← Rat.mul_lt_mul_left h]
 have e : u * (a + s / u * t) = u * a + s * t := by
  have : s / u * u = s := Rat.div_mul_cancel hne
  grind
 rw [e]
 constructor <;> intro q <;> grind
theorem Aa3 (x y : Rat) (z : P2 × P2) : fz x y z = fd x y z := by
 obtain ⟨⟨a, b⟩, ⟨c, d⟩⟩ := z
 unfold fz fd crs Dl
 dsimp only
 by_cases h1 : b ≤ y ∧ y < d
 ·rw [if_pos h1, if_pos h1]
  have hu : 0 < d - b := by have := h1.1; have := h1.2; grind
  have := AWY (x := x) (a := a) (s := y - b) (t := c - a) hu
  by_cases h : x < a + (y - b) / (d - b) * (c - a)
  ·rw [if_pos h, if_pos (this.mp h)]
  ·rw [if_neg h, if_neg (fun w => h (this.mpr w))]
 ·rw [if_neg h1, if_neg h1]
  by_cases h2 : d ≤ y ∧ y < b
  ·rw [if_pos h2, if_pos h2]
   have hu : 0 < b - d := by have := h2.1; have := h2.2; grind
   have k := AWY (x := x) (a := a) (s := -(y - b)) (t := c - a) hu
   have hne : d - b ≠ 0 := fun z => by rw [show b - d = 0 by grind] at hu; exact absurd hu (by decide)
   have e : -(y - b) / (b - d) = (y - b) / (d - b) := by
    have hb : b - d ≠ 0 := fun z => by rw [z] at hu; exact absurd hu (by decide)
    have k1 : -(y - b) / (b - d) * (b - d) = -(y - b) := Rat.div_mul_cancel hb
    have k2 : (y - b) / (d - b) * (d - b) = y - b := Rat.div_mul_cancel hne
    generalize -(y - b) / (b - d) = v at *
    generalize (y - b) / (d - b) = u at *
    have k3 : (v - u) * (b - d) = 0 := by grind
    rcases Rat.mul_eq_zero.mp k3 with k4 | k4
    ·grind
    ·exact absurd k4 hb
   rw [e] at k
   have e2' : ((x - a) * (b - d) - -(y - b) * (c - a) < 0) ↔ 0 < (x - a) * (d - b) - (y - b) * (c - a) := by constructor <;> intro q <;> grind
   rw [e2'] at k
   by_cases h : x < a + (y - b) / (d - b) * (c - a)
   ·rw [if_pos h, if_pos (k.mp h)]
   ·rw [if_neg h, if_neg (fun w => h (k.mpr w))]
  ·rw [if_neg h2, if_neg h2]
theorem AUM (x y : Rat) (p q : P2) : fd x y (q, p) = -fd x y (p, q) := by
 have e : Dl x y (q, p) = -Dl x y (p, q) := by unfold Dl; grind
 unfold fd
 rw [e]
 generalize Dl x y (p, q) = D
 dsimp only
 grind
def mid (z : P2 × P2) : P2 := ((z.1.1 + z.2.1) * (1 / 2), (z.1.2 + z.2.2) * (1 / 2))
theorem AXM (x y : Rat) (p q : P2) : fd x y (p, mid (p, q)) + fd x y (mid (p, q), q) = fd x y (p, q) := by
 have e1 : Dl x y (p, mid (p, q)) * 2 = Dl x y (p, q) := by unfold Dl mid; grind
 have e2' : Dl x y (mid (p, q), q) * 2 = Dl x y (p, q) := by unfold Dl mid; grind
 have e3 : (mid (p, q)).2 * 2 = p.2 + q.2 := by unfold mid; grind
 unfold fd
 generalize Dl x y (p, mid (p, q)) = D1 at *
 generalize Dl x y (mid (p, q), q) = D2 at *
 generalize Dl x y (p, q) = D at *
 generalize mid (p, q) = m at *
 dsimp only
 grind
theorem ARY (x y e f : Rat) (p q : P2) : fd (x + e) (y + f) ((p.1 + e, p.2 + f), (q.1 + e, q.2 + f)) = fd x y (p, q) := by
 have e1 : Dl (x + e) (y + f) ((p.1 + e, p.2 + f), (q.1 + e, q.2 + f)) = Dl x y (p, q) := by unfold Dl; grind
 unfold fd
 rw [e1]
 generalize Dl x y (p, q) = D
 dsimp only
 grind
def Gv (x y : Rat) (p : P2) : Int := (if p.2 ≤ y then 1 else 0) - (if p.2 = y ∧ p.1 < x then 1 else 0)
structure Off (x y : Rat) (p q : P2) : Prop where
 up : p.2 < q.2 → p.2 ≤ y → y ≤ q.2 → Dl x y (p, q) ≠ 0
 dn : q.2 < p.2 → q.2 ≤ y → y ≤ p.2 → Dl x y (p, q) ≠ 0
 fl : p.2 = y → q.2 = y → (x < p.1 ∧ x < q.1) ∨ (p.1 < x ∧ q.1 < x)
theorem AXN {x y : Rat} {p q : P2} (h : ¬ ACF 0 (p, q) x y) : Off x y p q := by
 have key : ∀ s, 0 ≤ s → s ≤ 1 → x = p.1 + s * (q.1 - p.1) → y = p.2 + s * (q.2 - p.2) → False := fun s s0 s1 ex ey => h (near_iff.mpr ⟨s, s0, s1, by
  have e : d2 (p, q) s x y = 0 := by unfold d2; rw [← ex, ← ey]; grind
  rw [e]
  decide +kernel⟩)
 refine ⟨fun h1 h2 h3 hD => ?_, fun h1 h2 h3 hD => ?_, fun h1 h2 => ?_⟩
 ·have hp : 0 < q.2 - p.2 := by grind
  have hne : q.2 - p.2 ≠ 0 := fun z => by rw [z] at hp; exact absurd hp (by decide)
  generalize hs : (y - p.2) / (q.2 - p.2) = s
  have es : s * (q.2 - p.2) = y - p.2 := by rw [← hs, Rat.div_mul_cancel hne]
  refine key s ((ADR hp).mp (by grind)) ((ADR hp).mp (by grind)) ?_ (by grind)
  unfold Dl at hD
  have : (q.2 - p.2) * (x - (p.1 + s * (q.1 - p.1))) = 0 := by grind
  rcases Rat.mul_eq_zero.mp this with k | k
  ·exact absurd k hne
  ·grind
 ·have hp : 0 < p.2 - q.2 := by grind
  have hne : p.2 - q.2 ≠ 0 := fun z => by rw [z] at hp; exact absurd hp (by decide)
  generalize hs : (p.2 - y) / (p.2 - q.2) = s
  have es : s * (p.2 - q.2) = p.2 - y := by rw [← hs, Rat.div_mul_cancel hne]
  refine key s ((ADR hp).mp (by grind)) ((ADR hp).mp (by grind)) ?_ (by grind)
  unfold Dl at hD
  have : (p.2 - q.2) * (x - (p.1 + s * (q.1 - p.1))) = 0 := by grind
  rcases Rat.mul_eq_zero.mp this with k | k
  ·exact absurd k hne
  ·grind
 ·by_cases a1 : x < p.1
  ·by_cases a2 : x < q.1
   ·exact .inl ⟨a1, a2⟩
   ·exfalso
    have hp : 0 < p.1 - q.1 := by grind
    have hne : p.1 - q.1 ≠ 0 := fun z => by rw [z] at hp; exact absurd hp (by decide)
    generalize hs : (p.1 - x) / (p.1 - q.1) = s
    have es : s * (p.1 - q.1) = p.1 - x := by rw [← hs, Rat.div_mul_cancel hne]
    exact key s ((ADR hp).mp (by grind)) ((ADR hp).mp (by grind)) (by grind) (by grind)
  ·by_cases a3 : x = p.1
   ·exact (key 0 (by decide) (by decide) (by grind) (by grind)).elim
   ·by_cases a2 : q.1 < x
    ·exact .inr ⟨by grind, a2⟩
    ·exfalso
     have hp : 0 < q.1 - p.1 := by grind
     have hne : q.1 - p.1 ≠ 0 := fun z => by rw [z] at hp; exact absurd hp (by decide)
     generalize hs : (x - p.1) / (q.1 - p.1) = s
     have es : s * (q.1 - p.1) = x - p.1 := by rw [← hs, Rat.div_mul_cancel hne]
     exact key s ((ADR hp).mp (by grind)) ((ADR hp).mp (by grind)) (by grind) (by grind)
theorem AJO {P : List P2 → Prop} (h1 : ∀ a, P [a]) (h2 : ∀ a b, P [a, b]) (h3 : ∀ a b c, P [a, b, c]) (h4 : ∀ a b c d, P [a, b, c, d]) (h5 : ∀ a b c d e, P [a, b, c, d, e]) : ∀ pts : List P2, pts ≠ [] → pts.length ≤ 5 → P pts
 | [], h, _ => absurd rfl h
 | [a], _, _ => h1 a
 | [a, b], _, _ => h2 a b
 | [a, b, c], _, _ => h3 a b c
 | [a, b, c, d], _, _ => h4 a b c d
 | [a, b, c, d, e], _, _ => h5 a b c d e
 | _ :: _ :: _ :: _ :: _ :: _ :: r, _, h => by simp at h
theorem AaY (a b : Rat) : a < b ∨ a = b ∨ b < a := by grind
theorem AUW {x y : Rat} {p q : P2} (h : Off x y p q) : fd (-x) (-y) ((-p.1, -p.2), (-q.1, -q.2)) - fd x y (p, q) = Gv x y q - Gv x y p := by
 have e1 : Dl (-x) (-y) ((-p.1, -p.2), (-q.1, -q.2)) = Dl x y (p, q) := by unfold Dl; grind
 have c1 : p.2 = y → Dl x y (p, q) = (x - p.1) * (q.2 - p.2) := fun e => by unfold Dl; grind
 have c2 : q.2 = y → Dl x y (p, q) = (x - q.1) * (q.2 - p.2) := fun e => by unfold Dl; grind
 obtain ⟨h1, h2, h3⟩ := h
 have sg : ∀ a b : Rat, 0 < b → ((a * b < 0 ↔ a < 0) ∧ (0 < a * b ↔ 0 < a)) := fun a b hb => by
  have k1 := Rat.mul_lt_mul_left (a := a) (b := 0) hb
  have k2 := Rat.mul_lt_mul_left (a := 0) (b := a) hb
  rw [Rat.mul_zero] at k1 k2
  rw [Rat.mul_comm a b]
  exact ⟨k1, k2⟩
 unfold fd Gv
 rw [e1]
 generalize Dl x y (p, q) = D at *
 dsimp only
 rcases AaY p.2 y with a | a | a <;> rcases AaY q.2 y with b | b | b
 ·grind
 ·have k := sg (x - q.1) (q.2 - p.2) (by grind)
  rw [← c2 b] at k
  grind
 ·have k := h1 (by grind) (by grind) (by grind)
  grind
 ·have k := sg (x - p.1) (p.2 - q.2) (by grind)
  have e : (x - p.1) * (p.2 - q.2) = -D := by rw [c1 a]; grind
  rw [e] at k
  grind
 ·have k := h3 a b
  grind
 ·have k := sg (x - p.1) (q.2 - p.2) (by grind)
  rw [← c1 a] at k
  have k2 := h1 (by grind) (by grind) (by grind)
  grind
 ·have k := h2 (by grind) (by grind) (by grind)
  grind
 ·have k := sg (x - q.1) (p.2 - q.2) (by grind)
  have e : (x - q.1) * (p.2 - q.2) = -D := by rw [c2 b]; grind
  rw [e] at k
  have k2 := h2 (by grind) (by grind) (by grind)
  grind
 ·grind
theorem AW6 (x y : Rat) (p q : P2) : Dl x y (p, q) = (x - p.1) * (q.2 - y) + (x - q.1) * (y - p.2) := by unfold Dl; grind
def sg1 (y : Rat) (p : P2) : Int := if p.2 ≤ y then 1 else 0
theorem AUZ {x y : Rat} {p q : P2} (hp : x < p.1) (hq : x < q.1) : fd x y (p, q) = sg1 y p - sg1 y q := by
 have e := AW6 x y p q
 have k1 : p.2 ≤ y → y < q.2 → Dl x y (p, q) < 0 := fun h1 h2 => by
  have m1 := Rat.mul_pos (show 0 < p.1 - x by grind) (show 0 < q.2 - y by grind)
  have m2 := Rat.mul_nonneg (show 0 ≤ q.1 - x by grind) (show 0 ≤ y - p.2 by grind)
  grind
 have k2 : q.2 ≤ y → y < p.2 → 0 < Dl x y (p, q) := fun h1 h2 => by
  have m1 := Rat.mul_nonneg (show 0 ≤ p.1 - x by grind) (show 0 ≤ y - q.2 by grind)
  have m2 := Rat.mul_pos (show 0 < q.1 - x by grind) (show 0 < p.2 - y by grind)
  grind
 unfold fd sg1
 generalize Dl x y (p, q) = D at *
 dsimp only
 grind
theorem AQU {x y : Rat} {p q : P2} (hp : p.1 < x) (hq : q.1 < x) : fd x y (p, q) = 0 := by
 have e := AW6 x y p q
 have k1 : p.2 ≤ y → y < q.2 → 0 < Dl x y (p, q) := fun h1 h2 => by
  have m1 := Rat.mul_pos (show 0 < x - p.1 by grind) (show 0 < q.2 - y by grind)
  have m2 := Rat.mul_nonneg (show 0 ≤ x - q.1 by grind) (show 0 ≤ y - p.2 by grind)
  grind
 have k2 : q.2 ≤ y → y < p.2 → Dl x y (p, q) < 0 := fun h1 h2 => by
  have m1 := Rat.mul_nonneg (show 0 ≤ x - p.1 by grind) (show 0 ≤ y - q.2 by grind)
  have m2 := Rat.mul_pos (show 0 < x - q.1 by grind) (show 0 < p.2 - y by grind)
  grind
 unfold fd
 generalize Dl x y (p, q) = D at *
 dsimp only
 grind
theorem AWP {x y : Rat} {p q : P2} (hp : y < p.2) (hq : y < q.2) : fd x y (p, q) = 0 := by
 unfold fd
 rw [if_neg (fun h => absurd h.1 (Rat.not_le.mpr hp)), if_neg (fun h => absurd h.1 (Rat.not_le.mpr hq))]
theorem ATM {x y : Rat} {p q : P2} (hp : p.2 < y) (hq : q.2 < y) : fd x y (p, q) = 0 := by
 unfold fd
 generalize Dl x y (p, q) = D
 dsimp only
 grind
def sm1 (f : P2 × P2 → Int) (pts : List P2) : Int := ((K4 pts).map f).sum
theorem ATI {f : P2 × P2 → Int} (sy : ∀ p q, f (q, p) = -f (p, q)) : ∀ pts : List P2, pts ≠ [] → pts.length ≤ 5 → sm1 f pts.reverse = -sm1 f pts := by
 refine AJO (fun a => ?_) (fun a b => ?_) (fun a b c => ?_) (fun a b c d => ?_) (fun a b c d e => ?_)
 ·show f (a, a) + 0 = -(f (a, a) + 0)
  have := sy a a
  omega
 ·show f (b, a) + (f (a, b) + 0) = -(f (a, b) + (f (b, a) + 0))
  have := sy a b
  omega
 ·show f (c, b) + (f (b, a) + (f (a, c) + 0)) = -(f (a, b) + (f (b, c) + (f (c, a) + 0)))
  have := sy a b; have := sy b c; have := sy c a
  omega
 ·show f (d, c) + (f (c, b) + (f (b, a) + (f (a, d) + 0))) = -(f (a, b) + (f (b, c) + (f (c, d) + (f (d, a) + 0))))
  have := sy a b; have := sy b c; have := sy c d; have := sy d a
  omega
 ·show f (e, d) + (f (d, c) + (f (c, b) + (f (b, a) + (f (a, e) + 0)))) = -(f (a, b) + (f (b, c) + (f (c, d) + (f (d, e) + (f (e, a) + 0)))))
  have := sy a b; have := sy b c; have := sy c d; have := sy d e; have := sy e a
  omega
theorem AXT (f : P2 × P2 → Int) : ∀ pts : List P2, pts ≠ [] → pts.length ≤ 5 → sm1 f (pts.drop 1 ++ pts.take 1) = sm1 f pts := by
 refine AJO (fun a => rfl) (fun a b => ?_) (fun a b c => ?_) (fun a b c d => ?_) (fun a b c d e => ?_)
 ·show f (b, a) + (f (a, b) + 0) = f (a, b) + (f (b, a) + 0)
  omega
 ·show f (b, c) + (f (c, a) + (f (a, b) + 0)) = f (a, b) + (f (b, c) + (f (c, a) + 0))
  omega
 ·show f (b, c) + (f (c, d) + (f (d, a) + (f (a, b) + 0))) = f (a, b) + (f (b, c) + (f (c, d) + (f (d, a) + 0)))
  omega
 ·show f (b, c) + (f (c, d) + (f (d, e) + (f (e, a) + (f (a, b) + 0)))) = f (a, b) + (f (b, c) + (f (c, d) + (f (d, e) + (f (e, a) + 0))))
  omega
theorem AP3 {f : P2 × P2 → Int} {g : P2 → Int} : ∀ pts : List P2, pts ≠ [] → pts.length ≤ 5 → (∀ z ∈ K4 pts, f z = g z.2 - g z.1) → sm1 f pts = 0 := by
 refine AJO (fun a h => ?_) (fun a b h => ?_) (fun a b c h => ?_) (fun a b c d h => ?_) (fun a b c d e h => ?_)
 ·show f (a, a) + 0 = 0
  have : f (a, a) = g a - g a := h (a, a) (by simp [K4])
  omega
 ·show f (a, b) + (f (b, a) + 0) = 0
  have : f (a, b) = g b - g a := h (a, b) (by simp [K4])
  have : f (b, a) = g a - g b := h (b, a) (by simp [K4])
  omega
 ·show f (a, b) + (f (b, c) + (f (c, a) + 0)) = 0
  have : f (a, b) = g b - g a := h (a, b) (by simp [K4])
  have : f (b, c) = g c - g b := h (b, c) (by simp [K4])
  have : f (c, a) = g a - g c := h (c, a) (by simp [K4])
  omega
 ·show f (a, b) + (f (b, c) + (f (c, d) + (f (d, a) + 0))) = 0
  have : f (a, b) = g b - g a := h (a, b) (by simp [K4])
  have : f (b, c) = g c - g b := h (b, c) (by simp [K4])
  have : f (c, d) = g d - g c := h (c, d) (by simp [K4])
  have : f (d, a) = g a - g d := h (d, a) (by simp [K4])
  omega
 ·show f (a, b) + (f (b, c) + (f (c, d) + (f (d, e) + (f (e, a) + 0)))) = 0
  have : f (a, b) = g b - g a := h (a, b) (by simp [K4])
  have : f (b, c) = g c - g b := h (b, c) (by simp [K4])
  have : f (c, d) = g d - g c := h (c, d) (by simp [K4])
  have : f (d, e) = g e - g d := h (d, e) (by simp [K4])
  have : f (e, a) = g a - g e := h (e, a) (by simp [K4])
  omega
def AK9 (pts : List P2) : List P2 := (K4 pts).flatMap fun z => [z.1, mid z]
theorem AYQ {f : P2 × P2 → Int} (hm : ∀ p q, f (p, mid (p, q)) + f (mid (p, q), q) = f (p, q)) : ∀ pts : List P2, pts ≠ [] → pts.length ≤ 5 → sm1 f (AK9 pts) = sm1 f pts := by
 refine AJO (fun a => ?_) (fun a b => ?_) (fun a b c => ?_) (fun a b c d => ?_) (fun a b c d e => ?_)
 ·show f (a, mid (a, a)) + (f (mid (a, a), a) + 0) = f (a, a) + 0
  have := hm a a
  omega
 ·show f (a, mid (a, b)) + (f (mid (a, b), b) + (f (b, mid (b, a)) + (f (mid (b, a), a) + 0))) = f (a, b) + (f (b, a) + 0)
  have := hm a b; have := hm b a
  omega
 ·show f (a, mid (a, b)) + (f (mid (a, b), b) + (f (b, mid (b, c)) + (f (mid (b, c), c) + (f (c, mid (c, a)) + (f (mid (c, a), a) + 0))))) = f (a, b) + (f (b, c) + (f (c, a) + 0))
  have := hm a b; have := hm b c; have := hm c a
  omega
 ·show f (a, mid (a, b)) + (f (mid (a, b), b) + (f (b, mid (b, c)) + (f (mid (b, c), c) + (f (c, mid (c, d)) + (f (mid (c, d), d) + (f (d, mid (d, a)) + (f (mid (d, a), a) + 0))))))) = f (a, b) + (f (b, c) + (f (c, d) + (f (d, a) + 0)))
  have := hm a b; have := hm b c; have := hm c d; have := hm d a
  omega
 ·show f (a, mid (a, b)) + (f (mid (a, b), b) + (f (b, mid (b, c)) + (f (mid (b, c), c) + (f (c, mid (c, d)) + (f (mid (c, d), d) + (f (d, mid (d, e)) + (f (mid (d, e), e) + (f (e, mid (e, a)) + (f (mid (e, a), a) + 0))))))))) = f (a, b) + (f (b, c) + (f (c, d) + (f (d, e) + (f (e, a) + 0))))
  have := hm a b; have := hm b c; have := hm c d; have := hm d e; have := hm e a
  omega
theorem AT6 {f h : P2 × P2 → Int} {t : P2 → P2} (e : ∀ p q, f (t p, t q) = h (p, q)) (pts : List P2) : sm1 f (pts.map t) = sm1 h pts := by
 unfold sm1 K4
 rw [← List.map_drop, ← List.map_take, ← List.map_append, List.zip_map, List.map_map]
 congr 1
 exact List.map_congr_left fun z _ => e z.1 z.2
theorem AON {f : P2 × P2 → Int} {pts : List P2} (h : ∀ z ∈ K4 pts, f z = 0) : sm1 f pts = 0 := by
 unfold sm1
 generalize K4 pts = zs at h
 induction zs with
 | nil => rfl
 | cons z zs ih => rw [List.map_cons, List.sum_cons, h z List.mem_cons_self, ih fun w hw => h w (List.mem_cons_of_mem _ hw)]; rfl
theorem AWH {f h : P2 × P2 → Int} (pts : List P2) : sm1 (fun z => f z - h z) pts = sm1 f pts - sm1 h pts := by
 unfold sm1
 generalize K4 pts = zs
 induction zs with
 | nil => rfl
 | cons z zs ih =>
  rw [List.map_cons, List.sum_cons, List.map_cons, List.sum_cons, List.map_cons, List.sum_cons, ih]
  omega
theorem AC0 (ps : List (List P2 × Bool)) (x y : Rat) : wd ps x y = (ps.map fun q => sm1 (fd x y) q.1).sum := by
 have e : fz x y = fd x y := funext fun z => Aa3 x y z
 unfold wd ADK
 rw [e]
 induction ps with
 | nil => rfl
 | cons q ps ih => rw [List.flatMap_cons, List.map_append, List.sum_append, ih, List.map_cons, List.sum_cons]; rfl
theorem ASS (ps qs : List (List P2 × Bool)) (x y : Rat) : wd (ps ++ qs) x y = wd ps x y + wd qs x y := by
 rw [AC0, AC0, AC0, List.map_append, List.sum_append]
theorem AAX {α : Type} {f h : α → Int} : ∀ xs : List α, (∀ x ∈ xs, f x = h x) → (xs.map f).sum = (xs.map h).sum
 | [], _ => rfl
 | x :: xs, k => by rw [List.map_cons, List.map_cons, List.sum_cons, List.sum_cons, k x List.mem_cons_self, AAX xs fun y hy => k y (List.mem_cons_of_mem _ hy)]
theorem APD {α : Type} {f : α → Int} : ∀ xs : List α, (xs.map fun x => -f x).sum = -(xs.map f).sum
 | [] => rfl
 | x :: xs => by rw [List.map_cons, List.map_cons, List.sum_cons, List.sum_cons, APD xs]; omega
theorem AW0 {α : Type} {f : α → Int} (xs : List α) (h : ∀ x ∈ xs, f x = 0) : (xs.map f).sum = 0 := by
 rw [AAX xs (h := fun _ => 0) h]
 induction xs with
 | nil => rfl
 | cons x xs ih => rw [List.map_cons, List.sum_cons, ih fun y hy => h y (List.mem_cons_of_mem _ hy)]; rfl
def mapP (t : List P2 → List P2) (ps : List (List P2 × Bool)) : List (List P2 × Bool) := ps.map fun q => (t q.1, q.2)
theorem AFE (t : List P2 → List P2) (ps : List (List P2 × Bool)) (x y : Rat) : wd (mapP t ps) x y = (ps.map fun q => sm1 (fd x y) (t q.1)).sum := by
 rw [AC0]
 unfold mapP
 rw [List.map_map]
 rfl
theorem AVQ {ps : List (List P2 × Bool)} (h : Good ps) (x y : Rat) : wd (mapP List.reverse ps) x y = -wd ps x y := by
 rw [AFE, AC0, ← APD]
 exact AAX _ fun q hq => ATI (AUM x y) q.1 (h.some q hq) (h.short q hq)
theorem AXV {ps : List (List P2 × Bool)} (h : Good ps) (x y : Rat) : wd (mapP (fun pts => pts.drop 1 ++ pts.take 1) ps) x y = wd ps x y := by
 rw [AFE, AC0]
 exact AAX _ fun q hq => AXT _ q.1 (h.some q hq) (h.short q hq)
theorem AY3 {ps : List (List P2 × Bool)} (h : Good ps) (x y : Rat) : wd (mapP AK9 ps) x y = wd ps x y := by
 rw [AFE, AC0]
 exact AAX _ fun q hq => AYQ (AXM x y) q.1 (h.some q hq) (h.short q hq)
theorem AQZ (ps : List (List P2 × Bool)) (x y e f : Rat) : wd (mapP (List.map fun p => (p.1 + e, p.2 + f)) ps) (x + e) (y + f) = wd ps x y := by
 rw [AFE, AC0]
 exact AAX _ fun q _ => AT6 (ARY x y e f) q.1
theorem AVM {ps : List (List P2 × Bool)} (h : Good ps) {x y : Rat} (off : ∀ q ∈ ps, ∀ z ∈ K4 q.1, ¬ ACF 0 z x y) : wd (mapP (List.map fun p => (-p.1, -p.2)) ps) (-x) (-y) = wd ps x y := by
 rw [AFE, AC0]
 refine AAX _ fun q hq => ?_
 rw [AT6 (h := fun z => fd (-x) (-y) ((-z.1.1, -z.1.2), (-z.2.1, -z.2.2))) (fun _ _ => rfl)]
 have k := AP3 (f := fun z => fd (-x) (-y) ((-z.1.1, -z.1.2), (-z.2.1, -z.2.2)) - fd x y z) (g := Gv x y) q.1 (h.some q hq) (h.short q hq) fun z hz => AUW (AXN (off q hq z hz))
 rw [AWH] at k
 omega
theorem d8 {pts : List P2} {z : P2 × P2} (hz : z ∈ K4 pts) : z.1 ∈ pts ∧ z.2 ∈ pts := by
 obtain ⟨a, b⟩ := z
 have m := List.of_mem_zip hz
 refine ⟨m.1, ?_⟩
 rcases List.mem_append.mp m.2 with k | k
 ·exact List.mem_of_mem_drop k
 ·exact List.mem_of_mem_take k
theorem AWD {ps : List (List P2 × Bool)} (h : Good ps) {x y : Rat} (o : (∀ q ∈ ps, ∀ p ∈ q.1, x < p.1) ∨ (∀ q ∈ ps, ∀ p ∈ q.1, p.1 < x) ∨ (∀ q ∈ ps, ∀ p ∈ q.1, y < p.2) ∨ (∀ q ∈ ps, ∀ p ∈ q.1, p.2 < y)) : wd ps x y = 0 := by
 rw [AC0]
 refine AW0 _ fun q hq => ?_
 rcases o with o | o | o | o
 ·refine AP3 (g := fun p => -sg1 y p) q.1 (h.some q hq) (h.short q hq) fun z hz => ?_
  have m := d8 hz
  have := AUZ (y := y) (o q hq z.1 m.1) (o q hq z.2 m.2)
  show fd x y (z.1, z.2) = _
  omega
 ·exact AON fun z hz => AQU (o q hq z.1 (d8 hz).1) (o q hq z.2 (d8 hz).2)
 ·exact AON fun z hz => AWP (o q hq z.1 (d8 hz).1) (o q hq z.2 (d8 hz).2)
 ·exact AON fun z hz => ATM (o q hq z.1 (d8 hz).1) (o q hq z.2 (d8 hz).2)
def AQP (ps : List (List P2 × Bool)) : List (List P2 × Bool) := ps.map fun q => (q.1, true)
theorem wd0 : Wd 0 := ⟨by decide, by decide, by decide⟩
theorem RTh : RT (1 / 2) = .tuple [.int 1, .int 2] := by kernel_rfl
theorem AaO : At (1 / 2) 2 1 := ⟨1, (by decide +kernel : (1 / 2 : Rat) * ((2 : Int) : Rat) = ((1 : Int) : Rat)), by decide⟩
theorem Ab5 : Sm (1 / 2) := v7 AaO (by decide) (by rw [J5]; omega) (by rw [J5]; omega)
theorem ARV {ps : List (List P2 × Bool)} (h : Good ps) : Good (AQP ps) := by
 refine ⟨by unfold AQP; rw [List.length_map]; exact h.few, fun q hq => ?_, fun q hq => ?_, fun q hq => ?_⟩ <;> obtain ⟨r, hr, rfl⟩ := List.mem_map.mp hq
 ·exact h.some r hr
 ·exact h.short r hr
 ·exact h.pts r hr
theorem ALM {a b : FT} {ρ : Ev} {x : Bool} (h1 : a ρ = .ok x) (h2 : x = true → b ρ = .ok false) : x9 a b ρ = .ok false := by
 unfold x9; rw [h1]
 cases x with
 | true => exact h2 rfl
 | false => rfl
theorem AcR {a b c d e f : FE} {ρ : Ev} {x y z w u v : T} (h1 : a ρ = .ok x) (h2 : b ρ = .ok y) (h3 : c ρ = .ok z) (h4 : d ρ = .ok w) (h5 : e ρ = .ok u) (h6 : f ρ = .ok v) : J3 (A0 a (A0 b (A0 c (A0 d (A0 e (A0 f B2)))))) ρ = .ok (.tuple [x, y, z, w, u, v]) := by
 unfold J3 A0 B2; rw [h1, h2, h3, h4, h5, h6]; rfl
theorem AbI {ps : List (List P2 × Bool)} {f : List P2 → List P2} : ps.map (fun q => PaT (f q.1, q.2)) = (mapP f ps).map PaT := by unfold mapP; rw [List.map_map]; rfl
theorem APG {ps : List (List P2 × Bool)} (hl : ps.length ≤ 6) : W3 [PhT ps] = .ok (PhT (mapP List.reverse ps)) := by
 have cb := W2 (g := Tr.gTup [Tr.gName 0, Tr.gName 1]) (te := J3 (A0 (AZ2 (A3 0) (some (e1 AEH (eC (.int 1))))) (A0 (A3 1) B2))) (ρ := [none, none]) (i := PaT) (f := fun q => PaT (q.1.reverse, q.2)) ps fun q _ => ⟨[some (.tuple (q.1.map PT)), some (.bool q.2)], rfl, APP (x := .tuple (q.1.reverse.map PT)) (by
  unfold AZ2
  rw [List.map_reverse]
  rfl) (y := .bool q.2) rfl⟩
 rw [AbI] at cb
 have e : P8 [some (PhT ps)] = .rt (PhT (mapP List.reverse ps)) := by
  unfold P8
  exact N6 (AEA (X0 (ts := ps.map PaT) (j8 rfl) (by rw [List.length_map]; omega) cb) rfl)
 show clR (Tr.run 1 P8 [PhT ps]) = _
 rw [P4 (ρ := [some (PhT ps)]) rfl e]
 rfl
noncomputable abbrev AZ4 : FS := (C4 (E7 (Tr.gName 7) (e2 ixT (A3 2) (e2 ABS (e2 t9 (A3 5) (eC (.int 1))) (eN AFJ (A0 (A3 2) B2)))))
  (C4 (E7 (Tr.gName 8) (eN AFV (A0 (U5 (iN ATV (A0 (eC (.int 2)) B2)) [none, some 6, some 7] (Tr.gName 0) (fun _ => .ok true) (eF (A5 2 [] M6) (A0 (eF (A5 2 [] J6) (A0 (e2 ixT (A3 1) (A3 0)) (A0 (e2 ixT (A3 2) (A3 0)) B2))) (A0 (eC (.tuple [(.int 1), (.int 2)])) B2)))) B2)))
  (E7 (Tr.gName 4) (e2 t9 (A3 4) (ABC (A0 (A3 6) (A0 (A3 8) B2)))))))
noncomputable abbrev AbB : FB := (AE8 (i8 1 (E7 (Tr.gName 4) (ABC B2))) (AE8 (i8 1 (AEP (iN (AV8 true) (A0 (A3 2) B2)) (Tr.gTup [(Tr.gName 5), (Tr.gName 6)]) AZ4)) (ANL (J3 (A0 (eN AFV (A0 (A3 4) B2)) (A0 (A3 3) B2))))))
theorem AYZ {a b : P2} (ha : A12 a) (hb : A12 b) : At (mid (a, b)).1 24 240 ∧ At (mid (a, b)).2 24 240 := ⟨(ha.1.add hb.1).mul AaO, (ha.2.add hb.2).mul AaO⟩
theorem AVS {a b : P2} (Aa : A12 a) (Ab : A12 b) : O6 (Tr.gName 0) (fun _ => .ok true) (eF (A5 2 [] M6) (A0 (eF (A5 2 [] J6) (A0 (e2 ixT (A3 1) (A3 0)) (A0 (e2 ixT (A3 2) (A3 0)) B2))) (A0 (eC (.tuple [(.int 1), (.int 2)])) B2))) [none, some (PT a), some (PT b)] [.int 0, .int 1] = .ok [RT (mid (a, b)).1, RT (mid (a, b)).2] := by
 have g : ∀ t : T, Tr.gName 0 t [none, some (PT a), some (PT b)] = some [some t, some (PT a), some (PT b)] := fun _ => rfl
 have n1 := Aa.1.add Ab.1
 have n2 := Aa.2.add Ab.2
 have s1 : Sm (a.1 + b.1) := v7 n1 (by decide) (by rw [J5]; omega) (by rw [J5]; omega)
 have s2 : Sm (a.2 + b.2) := v7 n2 (by decide) (by rw [J5]; omega) (by rw [J5]; omega)
 have hc : ∀ ρ : Ev, eC (.tuple [(.int 1), (.int 2)]) ρ = .ok (RT (1 / 2)) := fun ρ => by rw [RTh]; rfl
 have t0 := ACG (ρ := [some (.int 0), some (PT a), some (PT b)]) (ACG (h_2 (a := A3 1) (b := A3 0) (x := PT a) (y := .int 0) rfl rfl (show ixT (PT a) (.int 0) = some (RT a.1) from rfl)) (h_2 (a := A3 2) (b := A3 0) (x := PT b) (y := .int 0) rfl rfl (show ixT (PT b) (.int 0) = some (RT b.1) from rfl)) (AEG (AFZ Aa.1) (AFZ Ab.1))) (hc _) (AJP s1 Ab5)
 have t1 := ACG (ρ := [some (.int 1), some (PT a), some (PT b)]) (ACG (h_2 (a := A3 1) (b := A3 0) (x := PT a) (y := .int 1) rfl rfl (show ixT (PT a) (.int 1) = some (RT a.2) from rfl)) (h_2 (a := A3 2) (b := A3 0) (x := PT b) (y := .int 1) rfl rfl (show ixT (PT b) (.int 1) = some (RT b.2) from rfl)) (AEG (AFZ Aa.2) (AFZ Ab.2))) (hc _) (AJP s2 Ab5)
 simp only [O6, g, t0, t1]
 rfl
theorem N1 {a b : P2} (Aa : A12 a) (Ab : A12 b) {P : T} {acc : List T} {n : Int} {o0 o1 o3 o7 o8 : Option T} (hix : e2 ixT (A3 2) (e2 ABS (e2 t9 (A3 5) (eC (.int 1))) (eN AFJ (A0 (A3 2) B2))) [o0, o1, some P, o3, some (.list acc), some (.int n), some (PT a), o7, o8] = .ok (PT b)) (hl : acc.length ≤ 20 := by simp) :
  AZ4 [o0, o1, some P, o3, some (.list acc), some (.int n), some (PT a), o7, o8] = .nx [o0, o1, some P, o3, some (.list (acc ++ [PT a, PT (mid (a, b))])), some (.int n), some (PT a), some (PT b), some (PT (mid (a, b)))] := by
 have ad : t9 (.list acc) (.list [PT a, PT (mid (a, b))]) = some (.list (acc ++ [PT a, PT (mid (a, b))])) := by
  show (if O5 (acc.length + 2) = true then some (PyData.list (acc ++ [PT a, PT (mid (a, b))])) else none) = _
  rw [if_pos (show O5 _ = true from decide_eq_true (show acc.length + 2 ≤ 1000 by omega))]
 unfold AZ4
 rw [AB0 (v := PT b) (ρ' := [o0, o1, some P, o3, some (.list acc), some (.int n), some (PT a), some (PT b), o8]) hix rfl]
 rw [AB0 (v := PT (mid (a, b))) (ρ' := [o0, o1, some P, o3, some (.list acc), some (.int n), some (PT a), some (PT b), some (PT (mid (a, b)))]) (AEA (X0 (ts := [.int 0, .int 1]) rfl (show 2 ≤ 100000 by decide) (AVS Aa Ab)) rfl) rfl]
 exact AD1 (h_2 (x := .list acc) rfl (Ab8 (x := PT a) (y := PT (mid (a, b))) rfl rfl) ad)
theorem ASH {o0 o3 o5 o6 o7 o8 : Option T} : ∀ pts : List P2, pts ≠ [] → pts.length ≤ 5 → (∀ p ∈ pts, A12 p) → ∃ p5 p6 p7 p8 : Option T, ∀ o1 : Option T,
  AHH (Tr.gTup [(Tr.gName 5), (Tr.gName 6)]) AZ4 (AFC 0 (pts.map PT)) [o0, o1, some (.tuple (pts.map PT)), o3, some (.list []), o5, o6, o7, o8] = .nx [o0, o1, some (.tuple (pts.map PT)), o3, some (.list ((AK9 pts).map PT)), p5, p6, p7, p8] := by
 refine AJO ?_ ?_ ?_ ?_ ?_
 ·intro a h
  have Aa := h a (by simp)
  exact ⟨_, _, _, _, fun o1 => M3 rfl (N1 Aa Aa (h_2 (x := .tuple _) rfl (h_2 (h_2 (x := .int _) rfl h_c rfl) (AEA (x := .tuple _) rfl rfl) (z := .int 0) (by kernel_rfl)) rfl)) rfl⟩
 ·intro a b h
  have Aa := h a (by simp)
  have Ab := h b (by simp)
  exact ⟨_, _, _, _, fun o1 => M3 rfl (N1 Aa Ab (by with_unfolding_all rfl)) (M3 rfl (N1 Ab Aa (h_2 (x := .tuple _) rfl (h_2 (h_2 (x := .int _) rfl h_c rfl) (AEA (x := .tuple _) rfl rfl) (z := .int 0) (by kernel_rfl)) rfl)) rfl)⟩
 ·intro a b c h
  have Aa := h a (by simp)
  have Ab := h b (by simp)
  have Ac := h c (by simp)
  exact ⟨_, _, _, _, fun o1 => M3 rfl (N1 Aa Ab (by with_unfolding_all rfl)) (M3 rfl (N1 Ab Ac (by with_unfolding_all rfl)) (M3 rfl (N1 Ac Aa (h_2 (x := .tuple _) rfl (h_2 (h_2 (x := .int _) rfl h_c rfl) (AEA (x := .tuple _) rfl rfl) (z := .int 0) (by kernel_rfl)) rfl)) rfl))⟩
 ·intro a b c d h
  have Aa := h a (by simp)
  have Ab := h b (by simp)
  have Ac := h c (by simp)
  have Ad := h d (by simp)
  exact ⟨_, _, _, _, fun o1 => M3 rfl (N1 Aa Ab (by with_unfolding_all rfl)) (M3 rfl (N1 Ab Ac (by with_unfolding_all rfl)) (M3 rfl (N1 Ac Ad (by with_unfolding_all rfl)) (M3 rfl (N1 Ad Aa (h_2 (x := .tuple _) rfl (h_2 (h_2 (x := .int _) rfl h_c rfl) (AEA (x := .tuple _) rfl rfl) (z := .int 0) (by kernel_rfl)) rfl)) rfl)))⟩
 ·intro a b c d e h
  have Aa := h a (by simp)
  have Ab := h b (by simp)
  have Ac := h c (by simp)
  have Ad := h d (by simp)
  have Ae := h e (by simp)
  exact ⟨_, _, _, _, fun o1 => M3 rfl (N1 Aa Ab (by with_unfolding_all rfl)) (M3 rfl (N1 Ab Ac (by with_unfolding_all rfl)) (M3 rfl (N1 Ac Ad (by with_unfolding_all rfl)) (M3 rfl (N1 Ad Ae (by with_unfolding_all rfl)) (M3 rfl (N1 Ae Aa (h_2 (x := .tuple _) rfl (h_2 (h_2 (x := .int _) rfl h_c rfl) (AEA (x := .tuple _) rfl rfl) (z := .int 0) (by kernel_rfl)) rfl)) rfl))))⟩
theorem AIR {o0 : Option T} : ∀ (ps : List (List P2 × Bool)) (acc : List T) (o2 o3 o4 o5 o6 o7 o8 : Option T), (∀ q ∈ ps, GoodQ q) → acc.length + ps.length ≤ 100 → ∃ (p2 p3 p4 p5 p6 p7 p8 : Option T), ∀ ad : Nat,
  W9 (fun t ρ => (Tr.gTup [(Tr.gName 2), (Tr.gName 3)] t ρ).bind fun ρ' => if N9 1 ad ρ' = true then some ρ' else none) AbB (ps.map PaT) ad [o0, some (W0 ad), o2, o3, o4, o5, o6, o7, o8] acc = .nx [o0, some (W0 ad), p2, p3, p4, p5, p6, p7, p8] (acc ++ (mapP AK9 ps).map PaT)
 | [], acc, o2, o3, o4, o5, o6, o7, o8, _, _ => ⟨o2, o3, o4, o5, o6, o7, o8, fun ad => by rw [List.map_nil, W9]; unfold mapP; rw [List.map_nil, List.map_nil, List.append_nil]⟩
 | q :: ps, acc, o2, o3, o4, o5, o6, o7, o8, h, hl => by
  rw [List.length_cons] at hl
  have hq := h q List.mem_cons_self
  obtain ⟨a5, a6, a7, a8, e1⟩ := ASH (o0 := o0) (o3 := some (.bool q.2)) (o5 := o5) (o6 := o6) (o7 := o7) (o8 := o8) q.1 hq.some hq.short hq.pts
  obtain ⟨p2, p3, p4, p5, p6, p7, p8, g⟩ := AIR (o0 := o0) ps (acc ++ [PaT (AK9 q.1, q.2)]) (some (.tuple (q.1.map PT))) (some (.bool q.2)) (some (.list ((AK9 q.1).map PT))) a5 a6 a7 a8 (fun y hy => h y (List.mem_cons_of_mem _ hy)) (by rw [List.length_append, List.length_singleton]; omega)
  refine ⟨p2, p3, p4, p5, p6, p7, p8, fun ad => ?_⟩
  have hr := g ad
  rw [List.append_assoc] at hr
  refine ADV (ρ1 := [o0, some (W0 ad), some (.tuple (q.1.map PT)), some (.bool q.2), o4, o5, o6, o7, o8]) rfl rfl ?_ hr
  unfold AbB
  refine AC1 (AA1 (ρ' := [o0, some (W0 ad), some (.tuple (q.1.map PT)), some (.bool q.2), some (.list []), o5, o6, o7, o8]) (AD1 AbY) rfl) ?_
  refine AC1 (AA1 (ρ' := [o0, some (W0 ad), some (.tuple (q.1.map PT)), some (.bool q.2), some (.list ((AK9 q.1).map PT)), a5, a6, a7, a8]) ?_ rfl) ?_
  ·unfold AEP
   exact e1 _
  ·exact ALI (APP (AEA (x := .list ((AK9 q.1).map PT)) rfl rfl) (y := .bool q.2) rfl) (by omega)
theorem ARC {ps : List (List P2 × Bool)} (h : ∀ q ∈ ps, GoodQ q) (hl : ps.length ≤ 6) : d5 [PhT ps] = .ok (PhT (mapP AK9 ps)) := by
 obtain ⟨p2, p3, p4, p5, p6, p7, p8, g⟩ := AIR (o0 := some (PhT ps)) ps [] none none none none none none none h (by rw [List.length_nil]; omega)
 have e : T5 [some (PhT ps), none, none, none, none, none, none, none, none] = .rt (PhT (mapP AK9 ps)) := by
  unfold T5
  rw [AHW (r := [some (PhT ps), some (.list ((mapP AK9 ps).map PaT)), p2, p3, p4, p5, p6, p7, p8]) (show 1 < 9 by decide) fun ad => ⟨_, _, AGO (ts := ps.map PaT) (j8 rfl) (g ad), rfl⟩]
  exact N6 (AEA (x := .list ((mapP AK9 ps).map PaT)) rfl rfl)
 show clR (Tr.run 9 T5 [PhT ps]) = _
 rw [P4 (ρ := [some (PhT ps), none, none, none, none, none, none, none, none]) rfl e]
 rfl
theorem AWE {a b : FE} {ρ : Ev} {x y : Bool} (h1 : a ρ = .ok (.bool x)) (h2 : b ρ = .ok (.bool y)) : eOr a b ρ = .ok (.bool (x || y)) := by
 unfold eOr; rw [h1]
 cases x with
 | true => rfl
 | false => exact h2
def shM (e f : Rat) : Mt := ⟨1, 0, 0, 1, e, f⟩
theorem AZZ (e f : Rat) (ps : List (List P2 × Bool)) : AE6 (shM e f) ps = mapP (List.map fun p => (p.1 + e, p.2 + f)) ps := by
 unfold AE6 mapP
 refine List.map_congr_left fun q _ => ?_
 congr 1
 refine List.map_congr_left fun p _ => Prod.ext ?_ ?_
 ·show (1 : Rat) * p.1 + 0 * p.2 + e = p.1 + e
  grind
 ·show (0 : Rat) * p.1 + 1 * p.2 + f = p.2 + f
  grind
theorem AVE (ps : List (List P2 × Bool)) : AE6 (qm (2 % 4)) ps = mapP (List.map fun p => (-p.1, -p.2)) ps := by
 unfold AE6 mapP
 refine List.map_congr_left fun q _ => ?_
 congr 1
 refine List.map_congr_left fun p _ => Prod.ext ?_ ?_
 ·show (-1 : Rat) * p.1 + 0 * p.2 + 0 = -p.1
  grind
 ·show (0 : Rat) * p.1 + -1 * p.2 + 0 = -p.2
  grind
theorem AaZ {e f : Rat} (he : At e 12 2400) (hf : At f 12 2400) : MB (shM e f) 12 2400 12 := ⟨⟨⟨12, (by decide +kernel : (1 : Rat) * ((12 : Int) : Rat) = ((12 : Int) : Rat)), by decide⟩, At.zero.mono (by decide), At.zero.mono (by decide), ⟨12, (by decide +kernel : (1 : Rat) * ((12 : Int) : Rat) = ((12 : Int) : Rat)), by decide⟩, he, hf⟩, by decide, by decide⟩
theorem AbZ {m : Mt} {B : Nat} (hm : MB m 12 2400 12) {p : P2} (h : A12 p) : MvSm m p.1 p.2 := (AT5 hm h.1 h.2 (by decide) (show (12 : Int).natAbs ≤ 12 by decide) (by rw [J5]; omega) (by rw [J5]; omega) (by rw [J5]; omega) (by rw [J5]; omega) (by rw [J5]; omega) (by rw [J5]; omega)).1
theorem AcU {p : P2} (h : A12 p) : MvSm (qm (2 % 4)) p.1 p.2 := (AT5 (q_b 2) h.1 h.2 (by decide) (show (12 : Int).natAbs ≤ 12 by decide) (by rw [J5]; omega) (by rw [J5]; omega) (by rw [J5]; omega) (by rw [J5]; omega) (by rw [J5]; omega) (by rw [J5]; omega)).1
theorem AJE {ps : List (List P2 × Bool)} (h : Good ps) {t : List P2 → List P2} (h0 : ∀ l, l ≠ [] → t l ≠ []) (hl : ∀ l, l.length ≤ 5 → (t l).length ≤ 10) (hp : ∀ q ∈ ps, ∀ p ∈ t q.1, AW p) : GW (mapP t ps) := by
 refine ⟨by unfold mapP; rw [List.length_map]; exact h.few, fun q hq => ?_⟩
 obtain ⟨r, hr, rfl⟩ := List.mem_map.mp hq
 exact ⟨h0 r.1 (h.some r hr), hl r.1 (h.short r hr), hp r hr⟩
theorem AO2 {ps qs : List (List P2 × Bool)} (h : Good ps) (k : Good qs) (l1 : ps.length ≤ 3) (l2 : qs.length ≤ 3) : GW (ps ++ qs) := by
 refine ⟨by rw [List.length_append]; omega, fun q hq => ?_⟩
 rcases List.mem_append.mp hq with hq | hq
 ·exact h.gw.q q hq
 ·exact k.gw.q q hq
theorem AR5 {x e : Rat} (hx : At x 12 120) (he : At e 12 2400) : At (x + e) 24 5040 := ((hx.add he).up 2).mono (by decide)
theorem AX2 {ps : List (List P2 × Bool)} (h : Good ps) : GW (mapP AK9 ps) := by
 refine AJE h (fun l hl z => ?_) (fun l hl => ?_) fun q hq p hp => ?_
 ·cases l with
  | nil => exact hl rfl
  | cons a r => cases r <;> simp [AK9, K4] at z
 ·unfold AK9
  rw [List.length_flatMap]
  have := AGB l
  have e : ∀ zs : List (P2 × P2), (zs.map fun z => [z.1, mid z].length).sum = 2 * zs.length := fun zs => by
   induction zs with
   | nil => rfl
   | cons z zs ih =>
    show 2 + (zs.map fun z => [z.1, mid z].length).sum = 2 * (zs.length + 1)
    rw [ih]
    omega
  rw [e]
  omega
 ·obtain ⟨z, hz, hp⟩ := List.mem_flatMap.mp hp
  obtain ⟨m1, m2⟩ := d8 hz
  have A1 := h.pts q hq _ m1
  have A2 := h.pts q hq _ m2
  rcases List.mem_cons.mp hp with rfl | hp
  ·exact AW2 A1
  ·rw [List.mem_singleton.mp hp]
   obtain ⟨k1, k2⟩ := AYZ A1 A2
   exact ⟨k1.mono (by decide), k2.mono (by decide)⟩
def BxO (ps : List (List P2 × Bool)) (BX : T) : Prop := (BX = .none ∧ ps = []) ∨ ∃ l b r t, BX = .tuple [RT l, RT b, RT r, RT t] ∧ Box (g9 ps) l b r t ∧ Sm l ∧ Sm b ∧ Sm r ∧ Sm t
theorem AUH {ps : List (List P2 × Bool)} (h : Good ps) : ∃ BX, AAZ [PhT ps] = .ok BX ∧ BxO ps BX := by
 by_cases h0 : ps = []
 ·subst h0
  exact ⟨.none, AVG, .inl ⟨rfl, rfl⟩⟩
 ·obtain ⟨l, b, r, t, e1, B1, _⟩ := AX0 h.gp h0
  refine ⟨_, e1, .inr ⟨l, b, r, t, rfl, B1, ?_, ?_, ?_, ?_⟩⟩
  ·obtain ⟨p, hp, rfl⟩ := List.mem_map.mp B1.x.inL
   exact (ADX h.gp hp).1
  ·obtain ⟨p, hp, rfl⟩ := List.mem_map.mp B1.y.inL
   exact (ADX h.gp hp).2
  ·obtain ⟨p, hp, rfl⟩ := List.mem_map.mp B1.x.inH
   exact (ADX h.gp hp).1
  ·obtain ⟨p, hp, rfl⟩ := List.mem_map.mp B1.y.inH
   exact (ADX h.gp hp).2
theorem AWZ {ps : List (List P2 × Bool)} (h : Good ps) {BX : T} (hB : BxO ps BX) {x y : Rat} (sx : Sm x) (sy : Sm y) : ∃ o : Bool, U7 [BX, RT x, RT y] = .ok (.bool o) ∧ (o = true → wd ps x y = 0) := by
 rcases hB with ⟨rfl, rfl⟩ | ⟨l, b, r, t, rfl, B, sl, sb, sr, st⟩
 ·refine ⟨true, ?_, fun _ => rfl⟩
  have e : J8 [some .none, some (RT x), some (RT y)] = .rt (.bool true) := by
   unfold J8
   exact AQK (Aa9 (h_b (h_2 (x := .none) rfl h_c rfl))) (N6 h_c)
  show clR (Tr.run 3 J8 [.none, RT x, RT y]) = _
  rw [P4 (ρ := [some .none, some (RT x), some (RT y)]) rfl e]
  rfl
 ·have l1 := AEK sx sl
  have l2 := AEK sr sx
  have l3 := AEK sy sb
  have l4 := AEK st sy
  have bx : ∀ q ∈ ps, ∀ p ∈ q.1, (l ≤ p.1 ∧ p.1 ≤ r) ∧ (b ≤ p.2 ∧ p.2 ≤ t) := fun q hq p hp => ⟨B.x.all p.1 (List.mem_map.mpr ⟨p, List.mem_flatMap.mpr ⟨q, hq, hp⟩, rfl⟩), B.y.all p.2 (List.mem_map.mpr ⟨p, List.mem_flatMap.mpr ⟨q, hq, hp⟩, rfl⟩)⟩
  refine ⟨decide (x < l) || decide (r < x) || (decide (y < b) || decide (t < y)), ?_, fun ho => ?_⟩
  ·have c : bOr (bV (e2 isT (A3 0) (eC .none))) (bOr (bV (eF (A5 2 [] L1) (A0 (A3 1) (A0 (e2 ixT (A3 0) (eC (.int 0))) B2)))) (bV (eF (A5 2 [] L1) (A0 (e2 ixT (A3 0) (eC (.int 2))) (A0 (A3 1) B2))))) [some (.tuple [RT l, RT b, RT r, RT t]), some (RT x), some (RT y)] = .ok (decide (x < l) || decide (r < x)) :=
    Aa8 (h_b (h_2 (x := .tuple [RT l, RT b, RT r, RT t]) rfl h_c rfl)) (AYL (h_b (ACG (x := RT x) rfl (h_2 (x := .tuple [RT l, RT b, RT r, RT t]) rfl h_c rfl) l1)) (h_b (ACG (h_2 (x := .tuple [RT l, RT b, RT r, RT t]) rfl h_c rfl) (y := RT x) rfl l2)))
   have e : J8 [some (.tuple [RT l, RT b, RT r, RT t]), some (RT x), some (RT y)] = .rt (.bool (decide (x < l) || decide (r < x) || (decide (y < b) || decide (t < y)))) := by
    unfold J8
    cases hk : (decide (x < l) || decide (r < x)) with
    | true => rw [hk] at c; exact AQK c (N6 h_c)
    | false =>
     rw [hk] at c
     rw [S8 c, Bool.false_or]
     exact N6 (AWE (ACG (x := RT y) rfl (h_2 (x := .tuple [RT l, RT b, RT r, RT t]) rfl h_c rfl) l3) (ACG (h_2 (x := .tuple [RT l, RT b, RT r, RT t]) rfl h_c rfl) (y := RT y) rfl l4))
   show clR (Tr.run 3 J8 [.tuple [RT l, RT b, RT r, RT t], RT x, RT y]) = _
   rw [P4 (ρ := [some (.tuple [RT l, RT b, RT r, RT t]), some (RT x), some (RT y)]) rfl e]
   rfl
  ·refine AWD h ?_
   simp only [Bool.or_eq_true, decide_eq_true_eq] at ho
   rcases ho with (ho | ho) | (ho | ho)
   ·exact .inl fun q hq p hp => by have := (bx q hq p hp).1.1; grind
   ·exact .inr (.inl fun q hq p hp => by have := (bx q hq p hp).1.2; grind)
   ·exact .inr (.inr (.inl fun q hq p hp => by have := (bx q hq p hp).2.1; grind))
   ·exact .inr (.inr (.inr fun q hq p hp => by have := (bx q hq p hp).2.2; grind))
theorem ASK {ps : List (List P2 × Bool)} {x y : Rat} (h : ATQ 0 (AQP ps) x y = false) : ∀ q ∈ ps, ∀ z ∈ K4 q.1, ¬ ACF 0 z x y := fun q hq z hz => by
 unfold ATQ at h
 rw [List.any_eq_false] at h
 have m : z ∈ ABZ (AQP ps) := List.mem_flatMap.mpr ⟨(q.1, true), List.mem_map.mpr ⟨q, hq, rfl⟩, by
  unfold AA0 ARG
  rw [if_pos (by simp)]
  exact hz⟩
 have := h z m
 simpa using this
theorem AVD (n : Int) : APY true (n + n) = false ∧ APY false (n + n) = APY false n ∧ (APY true n = true → APY false n = true) := by
 unfold APY
 rw [if_pos rfl, if_neg (by decide), if_neg (by decide), if_pos rfl]
 refine ⟨?_, ?_, fun h => ?_⟩
 ·have : (n + n).fmod 2 = 0 := by rw [Int.fmod_eq_emod_of_nonneg _ (by decide)]; omega
  rw [this]; rfl
 ·have : (n + n == 0) = (n == 0) := by
   rw [Bool.eq_iff_iff, beq_iff_eq, beq_iff_eq]
   omega
  rw [this]
 ·cases hn : (n == 0) with
  | false => rfl
  | true =>
   have : n = 0 := eq_of_beq hn
   subst this
   exact absurd h (by decide)
theorem ne_int (n : Int) : Tr.neT (.int n) (.int n) = some (.bool false) := AOI (AP9 n 1) (by decide)
noncomputable abbrev AV4 : FS := (C4 (E7 (Tr.gTup [(Tr.gName 6), (Tr.gName 7)]) (eF (A5 2 [] K9) (A0 (A3 0) (A0 (e2 t9 (eC (.int 130)) (e2 J0 (eC (.int 4)) (A3 5))) B2))))
  (C4 (E7 (Tr.gName 8) (eF (A5 3 [] D4) (A0 (A3 1) (A0 (A3 6) (A0 (A3 7) B2)))))
  (C4 (sIf (bV (e2 neT (eF (A5 3 [] D4) (A0 (e2 ACI (A3 1) (A3 2)) (A0 (A3 6) (A0 (A3 7) B2)))) (e2 t9 (A3 8) (eF (A5 3 [] D4) (A0 (A3 2) (A0 (A3 6) (A0 (A3 7) B2))))))) (G5 (eC (.bool false))) C6)
  (C4 (sIf (bV (e2 neT (eF (A5 3 [] D4) (A0 (e2 ACI (A3 2) (A3 1)) (A0 (A3 6) (A0 (A3 7) B2)))) (eF (A5 3 [] D4) (A0 (e2 ACI (A3 1) (A3 2)) (A0 (A3 6) (A0 (A3 7) B2)))))) (G5 (eC (.bool false))) C6)
  (C4 (E7 (Tr.gName 9) (eF (A5 4 [] R8) (A0 (eN AFV (A0 (U5 (iOf G7 (A3 1)) [none, none] (Tr.gTup [(Tr.gName 0), (Tr.gName 1)]) (fun _ => .ok true) (J3 (A0 (A3 0) (A0 (eC (.bool true)) B2)))) B2)) (A0 (eC (.tuple [(.int 0), (.int 1)])) (A0 (A3 6) (A0 (A3 7) B2))))))
  (C4 (sIf (x9 (Y3 (bV (A3 9))) (bV (e2 neT (eF (A5 3 [] D4) (A0 (eF (A5 1 [] W3) (A0 (A3 1) B2)) (A0 (A3 6) (A0 (A3 7) B2)))) (e1 AEH (A3 8))))) (G5 (eC (.bool false))) C6)
  (C4 (sIf (bOr (bV (e2 neT (eF (A5 3 [] D4) (A0 (eF (A5 1 [] d5) (A0 (A3 1) B2)) (A0 (A3 6) (A0 (A3 7) B2)))) (A3 8))) (bV (e2 neT (eF (A5 3 [] D4) (A0 (A3 4) (A0 (A3 6) (A0 (A3 7) B2)))) (A3 8)))) (G5 (eC (.bool false))) C6)
  (C4 (E7 (Tr.gName 10) (eF (A5 2 [] O3) (A0 (A3 1) (A0 (A3 3) B2))))
  (C4 (sIf (bV (e2 neT (eF (A5 3 [] D4) (A0 (A3 10) (A0 (eF (A5 2 [] J6) (A0 (A3 6) (A0 (e2 ixT (A3 3) (eC (.int 4))) B2))) (A0 (eF (A5 2 [] J6) (A0 (A3 7) (A0 (e2 ixT (A3 3) (eC (.int 5))) B2))) B2)))) (A3 8))) (G5 (eC (.bool false))) C6)
  (C4 (E7 (Tr.gName 11) (eF (A5 2 [] O3) (A0 (A3 1) (A0 (eF (A5 1 [] ABE) (A0 (eC (.int 2)) B2)) B2))))
  (C4 (sIf (x9 (Y3 (bV (A3 9))) (bV (e2 neT (eF (A5 3 [] D4) (A0 (A3 11) (A0 (J3 (A0 (e1 AEH (e2 ixT (A3 6) (eC (.int 0)))) (A0 (e2 ixT (A3 6) (eC (.int 1))) B2))) (A0 (J3 (A0 (e1 AEH (e2 ixT (A3 7) (eC (.int 0)))) (A0 (e2 ixT (A3 7) (eC (.int 1))) B2))) B2)))) (A3 8)))) (G5 (eC (.bool false))) C6)
  (C4 (sIf (bV (eF (A5 4 [] J1) (A0 (e2 ACI (A3 1) (A3 1)) (A0 (eC (.str (Str.ofString "odd"))) (A0 (A3 6) (A0 (A3 7) B2)))))) (G5 (eC (.bool false))) C6)
  (C4 (sIf (bV (e2 neT (eF (A5 4 [] J1) (A0 (e2 ACI (A3 1) (A3 1)) (A0 (eC (.str (Str.ofString "whole"))) (A0 (A3 6) (A0 (A3 7) B2))))) (eF (A5 4 [] J1) (A0 (A3 1) (A0 (eC (.str (Str.ofString "whole"))) (A0 (A3 6) (A0 (A3 7) B2))))))) (G5 (eC (.bool false))) C6)
  (C4 (sIf (x9 (bV (eF (A5 4 [] J1) (A0 (A3 1) (A0 (eC (.str (Str.ofString "odd"))) (A0 (A3 6) (A0 (A3 7) B2)))))) (Y3 (bV (eF (A5 4 [] J1) (A0 (A3 1) (A0 (eC (.str (Str.ofString "whole"))) (A0 (A3 6) (A0 (A3 7) B2)))))))) (G5 (eC (.bool false))) C6)
  (sIf (x9 (bV (e2 neT (A3 8) (eC (.int 0)))) (bV (eF (A5 3 [] U7) (A0 (eF (A5 1 [] AAZ) (A0 (A3 1) B2)) (A0 (A3 6) (A0 (A3 7) B2)))))) (G5 (eC (.bool false))) C6)))))))))))))))
theorem AO8 {ps ms : List (List P2 × Bool)} (G : Good ps) (M : Good ms) (l1 : ps.length ≤ 3) (l2 : ms.length ≤ 3) {e f : Rat} (he : At e 12 2400) (hf : At f 12 2400) {L : T} {k : Int} {p : P2} (A : A12 p) (hp : K9 [L, .int (130 + 4 * k)] = .ok (PT p)) (hk : 0 ≤ k ∧ k ≤ 4) (o6 o7 o8 o9 o10 o11 : Option T) : ∃ (n : Int) (on : Bool),
  AV4 [some L, some (PhT ps), some (PhT ms), some (MT (shM e f)), some (PhT (mapP (fun pts => pts.drop 1 ++ pts.take 1) ps)), some (.int k), o6, o7, o8, o9, o10, o11] = .nx [some L, some (PhT ps), some (PhT ms), some (MT (shM e f)), some (PhT (mapP (fun pts => pts.drop 1 ++ pts.take 1) ps)), some (.int k), some (RT p.1), some (RT p.2), some (.int n), some (.bool on), some (PhT (AE6 (shM e f) ps)), some (PhT (AE6 (qm (2 % 4)) ps))] := by
 have A1 : At p.1 24 5040 := (A.1.up 2).mono (by decide)
 have A2 : At p.2 24 5040 := (A.2.up 2).mono (by decide)
 have fw := G.few
 have k0 := M2 G.gw A1 A2
 have k1 := M2 (AO2 G M l1 l2) A1 A2
 have k2 := M2 (AO2 M G l2 l1) A1 A2
 have k3 := M2 M.gw A1 A2
 rw [ASS] at k1 k2
 rw [Int.add_comm] at k2
 have ks := AP8 wd0 (ARV G) (Q := 12) (B := 120) (by decide) (by decide) (by decide) A.1 A.2
 have kb := M2 (AJE G (t := List.reverse) (fun l hl z => hl (List.reverse_eq_nil_iff.mp z)) (fun l hl => by rw [List.length_reverse]; omega) fun q hq u hu => AW2 (G.pts q hq u (List.mem_reverse.mp hu))) A1 A2
 rw [AVQ G] at kb
 have kf := M2 (AX2 G) A1 A2
 rw [AY3 G] at kf
 have kr := M2 (AJE G (t := fun pts => pts.drop 1 ++ pts.take 1) (fun l hl z => by
  cases l with
  | nil => exact hl rfl
  | cons a r => simp at z) (fun l hl => by simp; omega) fun q hq u hu => by
   refine AW2 (G.pts q hq u ?_)
   rcases List.mem_append.mp hu with hu | hu
   ·exact List.mem_of_mem_drop hu
   ·exact List.mem_of_mem_take hu) A1 A2
 rw [AXV G] at kr
 have msh := ALN (m := shM e f) ((AaZ he hf).sm (by rw [J5]; omega) (by rw [J5]; omega)) G.gp fun q hq u hu => AbZ (B := 0) (AaZ he hf) (G.pts q hq u hu)
 have ksh := M2 (AJE G (t := List.map fun p => (p.1 + e, p.2 + f)) (fun l hl z => hl (List.map_eq_nil_iff.mp z)) (fun l hl => by rw [List.length_map]; omega) fun q hq u hu => by
  obtain ⟨v, hv, rfl⟩ := List.mem_map.mp hu
  exact ⟨AR5 (G.pts q hq v hv).1 he, AR5 (G.pts q hq v hv).2 hf⟩) (AR5 A.1 he) (AR5 A.2 hf)
 rw [AQZ, ← AZZ] at ksh
 have mtu := ALN (m := qm (2 % 4)) ((q_b 2).sm (by rw [J5]; decide) (by rw [J5]; decide)) G.gp fun q hq u hu => AcU (G.pts q hq u hu)
 have ktu := M2 (AJE G (t := List.map fun p => (-p.1, -p.2)) (fun l hl z => hl (List.map_eq_nil_iff.mp z)) (fun l hl => by rw [List.length_map]; omega) fun q hq u hu => by
  obtain ⟨v, hv, rfl⟩ := List.mem_map.mp hu
  exact ⟨(AW2 (G.pts q hq v hv)).1.neg, (AW2 (G.pts q hq v hv)).2.neg⟩) A1.neg A2.neg
 have htu : ATQ 0 (AQP ps) p.1 p.2 = false → wd (mapP (List.map fun p => (-p.1, -p.2)) ps) (-p.1) (-p.2) = wd ps p.1 p.2 := fun h => AVM G (ASK h)
 rw [← AVE] at ktu htu
 have G2 := AO2 G G l1 l1
 have i1 := AD6 G2 A1 A2 ALQ ALD
 have i2 := AD6 G2 A1 A2 AGJ AG9
 have i3 := AD6 G.gw A1 A2 AGJ AG9
 have i4 := AD6 G.gw A1 A2 ALQ ALD
 rw [ASS] at i1 i2
 obtain ⟨d1, d2', d3⟩ := AVD (wd ps p.1 p.2)
 rw [d1] at i1
 rw [d2'] at i2
 obtain ⟨BX, hbx, hB⟩ := AUH G
 obtain ⟨o, hout, hzero⟩ := AWZ G hB (AFZ A.1) (AFZ A.2)
 have cc := W2 (g := Tr.gTup [Tr.gName 0, Tr.gName 1]) (te := J3 (A0 (A3 0) (A0 (eC (.bool true)) B2))) (ρ := [none, none]) (i := PaT) (f := fun q => PaT (q.1, true)) ps fun q _ => ⟨[some (.tuple (q.1.map PT)), some (.bool q.2)], rfl, APP (x := .tuple (q.1.map PT)) rfl h_c⟩
 have ec : ps.map (fun q => PaT (q.1, true)) = (AQP ps).map PaT := by unfold AQP; rw [List.map_map]; rfl
 rw [ec] at cc
 have ap : ∀ a b : List (List P2 × Bool), a.length ≤ 3 → b.length ≤ 3 → ACI (PhT a) (PhT b) = some (PhT (a ++ b)) := fun a b h1 h2 => by
  unfold PhT
  rw [AOR (by rw [List.length_map, List.length_map]; omega), ← List.map_append]
 have hbk := APG fw
 have hfi := ARC G.q fw
 have sx := AFZ A.1
 have sy := AFZ A.2
 have p4 := AEG sx (Ab1 he)
 have p5 := AEG sy (Ab1 hf)
 refine ⟨wd ps p.1 p.2, ATQ 0 (AQP ps) p.1 p.2, ?_⟩
 generalize hn : wd ps p.1 p.2 = n at *
 generalize ho : ATQ 0 (AQP ps) p.1 p.2 = on at *
 unfold AV4
 rw [AFS (v := PT p) (ρ' := [some L, some (PhT ps), some (PhT ms), some (MT (shM e f)), some (PhT (mapP (fun pts => pts.drop 1 ++ pts.take 1) ps)), some (.int k), some (RT p.1), some (RT p.2), o8, o9, o10, o11]) (ACG (x := L) rfl (h_2 h_c (h_2 (x := .int 4) (y := .int k) rfl rfl (AbU (by decide) hk.1 (by omega))) (ACA 130 (4 * k))) hp) rfl]
 rw [AB0 (v := .int n) (ρ' := [some L, some (PhT ps), some (PhT ms), some (MT (shM e f)), some (PhT (mapP (fun pts => pts.drop 1 ++ pts.take 1) ps)), some (.int k), some (RT p.1), some (RT p.2), some (.int n), o9, o10, o11]) (AEW (x := PhT ps) (y := RT p.1) (z := RT p.2) rfl rfl rfl k0) rfl]
 rw [S8 (h_b (h_2 (AEW (h_2 (x := PhT ps) (y := PhT ms) rfl rfl (ap ps ms l1 l2)) (y := RT p.1) (z := RT p.2) rfl rfl k1) (h_2 (x := .int n) rfl (AEW (x := PhT ms) (y := RT p.1) (z := RT p.2) rfl rfl rfl k3) (ACA _ _)) (ne_int _)))]
 rw [S8 (h_b (h_2 (AEW (h_2 (x := PhT ms) (y := PhT ps) rfl rfl (ap ms ps l2 l1)) (y := RT p.1) (z := RT p.2) rfl rfl k2) (AEW (h_2 (x := PhT ps) (y := PhT ms) rfl rfl (ap ps ms l1 l2)) (y := RT p.1) (z := RT p.2) rfl rfl k1) (ne_int _)))]
 rw [AB0 (v := .bool on) (ρ' := [some L, some (PhT ps), some (PhT ms), some (MT (shM e f)), some (PhT (mapP (fun pts => pts.drop 1 ++ pts.take 1) ps)), some (.int k), some (RT p.1), some (RT p.2), some (.int n), some (.bool on), o10, o11]) (ASO (AEA (X0 (ts := ps.map PaT) (j8 rfl) (by rw [List.length_map]; omega) cc) (show AFV _ = some (PhT (AQP ps)) from rfl)) (show eC (.tuple [(.int 0), (.int 1)]) _ = .ok (RT 0) from rfl) (z := RT p.1) (w := RT p.2) rfl rfl ks) rfl]
 rw [S8 (ALM (AD9 (h_b (a := A3 9) (k := on) rfl)) fun _ => h_b (h_2 (AEW (ABY (x := PhT ps) rfl hbk) (y := RT p.1) (z := RT p.2) rfl rfl kb) (h_1 (f := AEH) (x := .int n) (z := .int (-n)) rfl rfl) (ne_int _)))]
 rw [S8 (AYP (h_b (h_2 (AEW (ABY (x := PhT ps) rfl hfi) (y := RT p.1) (z := RT p.2) rfl rfl kf) (y := .int n) rfl (ne_int _))) (h_b (h_2 (AEW (x := PhT (mapP (fun pts => pts.drop 1 ++ pts.take 1) ps)) (y := RT p.1) (z := RT p.2) rfl rfl rfl kr) (y := .int n) rfl (ne_int _))))]
 rw [AB0 (v := PhT (AE6 (shM e f) ps)) (ρ' := [some L, some (PhT ps), some (PhT ms), some (MT (shM e f)), some (PhT (mapP (fun pts => pts.drop 1 ++ pts.take 1) ps)), some (.int k), some (RT p.1), some (RT p.2), some (.int n), some (.bool on), some (PhT (AE6 (shM e f) ps)), o11]) (ACG (x := PhT ps) (y := MT (shM e f)) rfl rfl msh) rfl]
 rw [S8 (h_b (h_2 (AEW (x := PhT (AE6 (shM e f) ps)) rfl (ACG (x := RT p.1) rfl (h_2 (x := MT (shM e f)) rfl h_c rfl) p4) (ACG (x := RT p.2) rfl (h_2 (x := MT (shM e f)) rfl h_c rfl) p5) ksh) (y := .int n) rfl (ne_int _)))]
 rw [AB0 (v := PhT (AE6 (qm (2 % 4)) ps)) (ρ' := [some L, some (PhT ps), some (PhT ms), some (MT (shM e f)), some (PhT (mapP (fun pts => pts.drop 1 ++ pts.take 1) ps)), some (.int k), some (RT p.1), some (RT p.2), some (.int n), some (.bool on), some (PhT (AE6 (shM e f) ps)), some (PhT (AE6 (qm (2 % 4)) ps))]) (ACG (x := PhT ps) rfl (ABY h_c (AMK 2)) mtu) rfl]
 rw [S8 (ALM (AD9 (h_b (a := A3 9) (k := on) rfl)) fun q => h_b (by
  have z : on = false := by simpa using q
  have kk := ktu
  rw [htu z] at kk
  have n1 : J3 (A0 (e1 AEH (e2 ixT (A3 6) (eC (.int 0)))) (A0 (e2 ixT (A3 6) (eC (.int 1))) B2)) [some L, some (PhT ps), some (PhT ms), some (MT (shM e f)), some (PhT (mapP (fun pts => pts.drop 1 ++ pts.take 1) ps)), some (.int k), some (RT p.1), some (RT p.2), some (.int n), some (.bool on), some (PhT (AE6 (shM e f) ps)), some (PhT (AE6 (qm (2 % 4)) ps))] = .ok (RT (-p.1)) := by rw [← ATC]; rfl
  have n2 : J3 (A0 (e1 AEH (e2 ixT (A3 7) (eC (.int 0)))) (A0 (e2 ixT (A3 7) (eC (.int 1))) B2)) [some L, some (PhT ps), some (PhT ms), some (MT (shM e f)), some (PhT (mapP (fun pts => pts.drop 1 ++ pts.take 1) ps)), some (.int k), some (RT p.1), some (RT p.2), some (.int n), some (.bool on), some (PhT (AE6 (shM e f) ps)), some (PhT (AE6 (qm (2 % 4)) ps))] = .ok (RT (-p.2)) := by rw [← ATC]; rfl
  exact h_2 (AEW (x := PhT (AE6 (qm (2 % 4)) ps)) rfl n1 n2 kk) (y := .int n) rfl (ne_int _)))]
 rw [S8 (h_b (ASO (h_2 (x := PhT ps) (y := PhT ps) rfl rfl (ap ps ps l1 l1)) h_c (z := RT p.1) (w := RT p.2) rfl rfl i1))]
 rw [S8 (h_b (h_2 (ASO (h_2 (x := PhT ps) (y := PhT ps) rfl rfl (ap ps ps l1 l1)) h_c (z := RT p.1) (w := RT p.2) rfl rfl i2) (ASO (x := PhT ps) rfl h_c (z := RT p.1) (w := RT p.2) rfl rfl i3) (AOI (AK2 _ 1) (by decide))))]
 rw [S8 (ALM (h_b (ASO (x := PhT ps) rfl h_c (z := RT p.1) (w := RT p.2) rfl rfl i4)) fun q => AD9 (k := true) (h_b (by rw [ASO (x := PhT ps) rfl h_c (z := RT p.1) (w := RT p.2) rfl rfl i3, d3 q])))]
 refine AU3 (ALM (h_b (h_2 (x := .int n) rfl h_c (AL0 n 0))) fun q => h_b ?_) rfl
 rw [AEW (ABY (x := PhT ps) rfl hbx) (y := RT p.1) (z := RT p.2) rfl rfl hout]
 cases o with
 | false => rfl
 | true =>
  have := hzero rfl
  rw [this] at q
  exact absurd q (by decide)
theorem AJ0 {ps ms : List (List P2 × Bool)} (G : Good ps) (M : Good ms) (l1 : ps.length ≤ 3) (l2 : ms.length ≤ 3) {e f : Rat} (he : At e 12 2400) (hf : At f 12 2400) {L : T} (hp : ∀ k : Int, 0 ≤ k → ∃ p, K9 [L, .int (130 + 4 * k)] = .ok (PT p) ∧ A12 p) : ∀ (ks : List Int) (o5 o6 o7 o8 o9 o10 o11 : Option T), (∀ k ∈ ks, 0 ≤ k ∧ k ≤ 4) → ∃ p5 p6 p7 p8 p9 p10 p11 : Option T,
  AHH (Tr.gName 5) AV4 (ks.map PyData.int) [some L, some (PhT ps), some (PhT ms), some (MT (shM e f)), some (PhT (mapP (fun pts => pts.drop 1 ++ pts.take 1) ps)), o5, o6, o7, o8, o9, o10, o11] = .nx [some L, some (PhT ps), some (PhT ms), some (MT (shM e f)), some (PhT (mapP (fun pts => pts.drop 1 ++ pts.take 1) ps)), p5, p6, p7, p8, p9, p10, p11]
 | [], o5, o6, o7, o8, o9, o10, o11, _ => ⟨o5, o6, o7, o8, o9, o10, o11, rfl⟩
 | k :: ks, o5, o6, o7, o8, o9, o10, o11, hk => by
  obtain ⟨p, e1, A⟩ := hp k (hk k List.mem_cons_self).1
  obtain ⟨n, on, b⟩ := AO8 G M l1 l2 he hf A e1 (hk k List.mem_cons_self) o6 o7 o8 o9 o10 o11
  obtain ⟨p5, p6, p7, p8, p9, p10, p11, h⟩ := AJ0 G M l1 l2 he hf hp ks (some (.int k)) (some (RT p.1)) (some (RT p.2)) (some (.int n)) (some (.bool on)) (some (PhT (AE6 (shM e f) ps))) (some (PhT (AE6 (qm (2 % 4)) ps))) fun u hu => hk u (List.mem_cons_of_mem _ hu)
  exact ⟨p5, p6, p7, p8, p9, p10, p11, M3 (ρ1 := [some L, some (PhT ps), some (PhT ms), some (MT (shM e f)), some (PhT (mapP (fun pts => pts.drop 1 ++ pts.take 1) ps)), some (.int k), o6, o7, o8, o9, o10, o11]) rfl b h⟩
theorem AS6 : ∀ ns : List Int, ns.length ≤ 63 → API [.list (ns.map PyData.int)] = .ok (.bool true) := by
 intro ns hl
 obtain ⟨ps, hps, G, l1⟩ := AI2 (ns := ns) hl (k := 0) (by decide)
 obtain ⟨ms, hms, M, l2⟩ := AI2 (ns := ns) hl (k := 60) (by decide)
 obtain ⟨e, f1, he⟩ := AIS (ns := ns) (k := 120) hl (by decide)
 obtain ⟨f, f2, hf⟩ := AIS (ns := ns) (k := 124) hl (by decide)
 have pts := fun (k : Int) (hk : 0 ≤ k) => AG5 (ns := ns) (k := 130 + 4 * k) hl (by omega)
 generalize hL : PyData.list (ns.map PyData.int) = L at hps hms f1 f2 pts ⊢
 obtain ⟨o5, o6, o7, o8, o9, o10, o11, hmain⟩ := AJ0 G M l1 l2 he hf (L := L) pts [0, 1, 2, 3, 4] none none none none none none none (fun k hk => by
  simp only [List.mem_cons, List.not_mem_nil, or_false] at hk
  omega)
 have fw := G.few
 have cr := W2 (g := Tr.gTup [Tr.gName 0, Tr.gName 1]) (te := J3 (A0 (e2 ACI (AG0 (A3 0) (some (eC (.int 1))) none) (AG0 (A3 0) none (some (eC (.int 1))))) (A0 (A3 1) B2))) (ρ := [none, none]) (i := PaT) (f := fun q => PaT (q.1.drop 1 ++ q.1.take 1, q.2)) ps fun q hq => ⟨[some (.tuple (q.1.map PT)), some (.bool q.2)], rfl, by
  obtain ⟨l, b⟩ := q
  match l, G.some _ hq, G.short _ hq with
  | a :: r, _, hs =>
   have hs' : r.length + 1 ≤ 5 := hs
   exact APP (AVI (a := A3 0) (p := a) (ps := r) rfl (by omega)) (y := .bool b) rfl⟩
 rw [AbI (f := fun pts => pts.drop 1 ++ pts.take 1)] at cr
 have w0 := M2 (ps := []) ⟨by decide, fun q hq => (List.not_mem_nil hq).elim⟩ (x := 0) (y := 0) (At.zero.mono (by decide)) (At.zero.mono (by decide))
 have e0 : ANE [some L, none, none, none, none, none, none, none, none, none, none, none] = .rt (.bool true) := by
  unfold ANE
  rw [ASD (x := PhT ps) (y := PhT ms) (ρ' := [some L, some (PhT ps), some (PhT ms), none, none, none, none, none, none, none, none, none]) (ACG (x := L) rfl h_c hps) (ACG (x := L) rfl h_c hms) rfl]
  rw [AB0 (v := MT (shM e f)) (ρ' := [some L, some (PhT ps), some (PhT ms), some (MT (shM e f)), none, none, none, none, none, none, none, none]) (AcR (show eC (.tuple [(.int 1), (.int 1)]) _ = .ok (RT 1) from rfl) (show eC (.tuple [(.int 0), (.int 1)]) _ = .ok (RT 0) from rfl) (show eC (.tuple [(.int 0), (.int 1)]) _ = .ok (RT 0) from rfl) (show eC (.tuple [(.int 1), (.int 1)]) _ = .ok (RT 1) from rfl) (ACG (x := L) rfl h_c f1) (ACG (x := L) rfl h_c f2)) rfl]
  rw [AB0 (v := PhT (mapP (fun pts => pts.drop 1 ++ pts.take 1) ps)) (ρ' := [some L, some (PhT ps), some (PhT ms), some (MT (shM e f)), some (PhT (mapP (fun pts => pts.drop 1 ++ pts.take 1) ps)), none, none, none, none, none, none, none]) (AEA (X0 (ts := ps.map PaT) (j8 rfl) (by rw [List.length_map]; omega) cr) rfl) rfl]
  rw [AIQ (ts := [0, 1, 2, 3, 4].map PyData.int) rfl hmain]
  exact N6 (h_2 (AEW (x := PhT []) rfl (show eC (.tuple [(.int 0), (.int 1)]) _ = .ok (RT 0) from rfl) (show eC (.tuple [(.int 0), (.int 1)]) _ = .ok (RT 0) from rfl) w0) h_c rfl)
 show clR (Tr.run 12 ANE [L]) = _
 rw [P4 (ρ := [some L, none, none, none, none, none, none, none, none, none, none, none]) rfl e0]
 rfl
end Kw
end
section
namespace Kw
open PySem hiding start
open PyProof.Rows hiding St
open L2 PySem.Spec Tr
def top (i : Nat) : Stmt := PySem.Challenge.pw_pageloom_k17_whole_winding.main.body.getD i (.Pass ⟨0, 0, 0, 0⟩)
abbrev t7 : Stmt := top 8
abbrev AAO : List Str := ["thing"]
abbrev P3 : Stmt := top 9
abbrev W1 : List Str := ["one", "other"]
abbrev t6 : Stmt := top 10
abbrev AA7 : List Str := ["top", "below"]
abbrev X4 : Stmt := top 11
abbrev x8 : List Str := ["thing", "top", "below"]
abbrev ABQ : Stmt := top 12
abbrev ACY : List Str := ["top", "below", "shared"]
abbrev P0 : Stmt := top 13
abbrev V7 : List Str := ["thing"]
abbrev U0 : Stmt := top 49
abbrev e7 : List Str := ["_law_script", "_law_k", "_law_many", "_law_cell", "_law_turn", "_law_rest"]
abbrev P9 : Stmt := top 50
abbrev V8 : List Str := ["_law_one", "_law_other"]
abbrev X7 : Stmt := top 51
abbrev x3 : List Str := ["_law_above", "_law_below", "_law_size"]
abbrev AGS : Stmt := top 14
abbrev AIM : List Str := ["one", "other"]
abbrev ADJ : Stmt := top 15
abbrev AF6 : List Str := ["one", "other"]
abbrev S5 : Stmt := top 20
abbrev Y6 : List Str := ["thing"]
abbrev Q3 : Stmt := top 21
abbrev V4 : List Str := ["thing"]
abbrev Z5 : Stmt := top 22
abbrev r6 : List Str := ["parts"]
abbrev ADM : Stmt := top 23
abbrev AEV : List Str := ["matrix", "x", "y", "a", "b", "c", "d", "e", "f", "to_x", "to_y"]
abbrev u9 : Stmt := top 24
abbrev AAN : List Str := ["many"]
abbrev Q7 : Stmt := top 52
abbrev V5 : List Str := ["_law_script", "_law_at", "_law_below"]
abbrev Y8 : Stmt := top 53
abbrev x4 : List Str := ["_law_one", "_law_other"]
abbrev T4 : Stmt := top 54
abbrev d9 : List Str := ["_law_one", "_law_other"]
abbrev AAQ : Stmt := top 16
abbrev ABG : List Str := ["one", "other"]
abbrev X3 : Stmt := top 17
abbrev t4 : List Str := ["terms", "unit", "top", "below"]
abbrev u6 : Stmt := top 26
abbrev AAJ : List Str := ["thing", "x", "y"]
abbrev w6 : Stmt := top 27
abbrev AAH : List Str := ["thing", "points", "is_closed"]
abbrev x0 : Stmt := top 28
abbrev AA4 : List Str := ["thing"]
abbrev Z0 : Stmt := top 29
abbrev x5 : List Str := ["thing"]
abbrev O1 : Stmt := top 30
abbrev T3 : List Str := ["part", "matrix", "points", "is_closed"]
abbrev O7 : Stmt := top 31
abbrev U1 : List Str := ["path", "matrix"]
abbrev AAG : Stmt := top 32
abbrev AB7 : List Str := ["numbers", "least", "greatest", "other"]
abbrev j9 : Stmt := top 33
abbrev y7 : List Str := ["path", "spots", "left", "right", "low", "high"]
abbrev u7 : Stmt := top 36
abbrev AA8 : List Str := ["thing"]
abbrev t5 : Stmt := top 37
abbrev AAB : List Str := ["thing"]
abbrev P7 : Stmt := top 38
abbrev U6 : List Str := ["path", "lines", "points", "is_closed", "start", "end", "wholes", "unit"]
abbrev Z6 : Stmt := top 39
abbrev v9 : List Str := ["lines", "height", "top", "below", "found", "x", "y", "to_x", "to_y", "unit", "level", "rise", "step", "across"]
abbrev ACD : Stmt := top 40
abbrev ADN : List Str := ["found", "x", "top", "below"]
abbrev ADY : Stmt := top 41
abbrev AEU : List Str := ["rule", "many"]
abbrev AA9 : Stmt := top 42
abbrev ABM : List Str := ["path", "x", "y"]
abbrev Z4 : Stmt := top 43
abbrev x6 : List Str := ["path", "rule", "x", "y"]
abbrev P1 : Stmt := top 44
abbrev V2 : List Str := ["path", "width", "half", "lines", "points", "is_closed", "ends", "start", "end", "wholes", "unit"]
abbrev AAF : Stmt := top 45
abbrev ABD : List Str := ["line", "x", "y", "below", "from_x", "from_y", "to_x", "to_y", "reach", "unit", "wide", "high", "aside", "above", "most", "length", "along"]
abbrev Q1 : Stmt := top 46
abbrev U8 : List Str := ["lines", "x", "y", "below", "line"]
abbrev N4 : Stmt := top 47
abbrev R7 : List Str := ["path", "width", "x", "y", "across", "up", "below"]
abbrev T9 : Stmt := top 55
abbrev e9 : List Str := ["_law_script", "_law_at", "_law_below", "_law_x", "_law_y"]
abbrev S6 : Stmt := top 56
abbrev Y2 : List Str := ["_law_script", "_law_at", "_law_many", "_law_points"]
abbrev S3 : Stmt := top 57
abbrev Y1 : List Str := ["_law_script", "_law_at"]
abbrev X2 : Stmt := top 58
abbrev w4 : List Str := ["_law_one", "_law_other"]
abbrev M8 : Stmt := top 59
abbrev R3 : List Str := ["_law_path_here"]
abbrev O9 : Stmt := top 60
abbrev T7 : List Str := ["_law_path_here", "_law_found", "_law_points", "_law_is_closed", "_law_row", "_law_at", "_law_one", "_law_other", "_law_half"]
abbrev Q0 : Stmt := top 61
abbrev W4 : List Str := ["_law_box", "_law_x", "_law_y"]
abbrev AEZ : Stmt := top 62
abbrev AKA : List Str := ["_law_script", "_law_path_here", "_law_more", "_law_matrix", "_law_other_start", "_law_k", "_law_x", "_law_y", "_law_many", "_law_on_line", "_law_shifted", "_law_turned"]
set_option maxHeartbeats 4000000
section
variable {P : Program} {w : World} {K : PySem.W.Frag} {mg : Str → Option Value} {base : Heap} {f : Addr} {cdv : Value} {A : Around} {outer : List Env} {s : Shared} {H : Hp} {E : XK}
variable (B : Blt mg) (zz_enumerate : mg "enumerate" = none) (g_QUARTERS : GlobC K mg "QUARTERS" X6) (g_RULES : GlobC K mg "RULES" AKJ) (g_TOO_GREAT : GlobC K mg "TOO_GREAT" Z3) (D__law_behind : Df P w K mg base "_law_behind" 1 1 W3) (D__law_common : Df P w K mg base "_law_common" 1 2 K8) (D__law_drawn : Df P w K mg base "_law_drawn" 1 3 G4) (D__law_finer : Df P w K mg base "_law_finer" 4 1 d5) (D__law_is_out : Df P w K mg base "_law_is_out" 2 3 U7) (D__law_less : Df P w K mg base "_law_less" 1 2 L1) (D__law_made : Df P w K mg base "_law_made" 2 2 G8) (D__law_number : Df P w K mg base "_law_number" 3 2 U9) (D__law_part : Df P w K mg base "_law_part" 4 2 w9) (D__law_path : Df P w K mg base "_law_path" 5 2 w8) (D__law_plus : Df P w K mg base "_law_plus" 3 2 J6) (D__law_point : Df P w K mg base "_law_point" 3 2 K9) (D__law_times : Df P w K mg base "_law_times" 3 2 M6) (D_all_told : Df P w K mg base "all_told" 1 1 K7) (D_box_of : Df P w K mg base "box_of" 7 1 AAZ) (D_common_part : Df P w K mg base "common_part" 1 2 C5) (D_crossings : Df P w K mg base "crossings" 1 2 AB2) (D_ends_of : Df P w K mg base "ends_of" 2 1 ABL) (D_in_units : Df P w K mg base "in_units" 2 1 L8) (D_is_in : Df P w K mg base "is_in" 1 2 ADL) (D_is_inside : Df P w K mg base "is_inside" 8 4 J1) (D_is_less : Df P w K mg base "is_less" 1 2 W5) (D_is_matrix : Df P w K mg base "is_matrix" 3 1 v0) (D_is_near : Df P w K mg base "is_near" 1 4 V6) (D_is_near_one : Df P w K mg base "is_near_one" 2 4 m5) (D_is_number : Df P w K mg base "is_number" 2 1 E4) (D_is_on_stroke : Df P w K mg base "is_on_stroke" 7 4 R8) (D_is_part : Df P w K mg base "is_part" 4 1 AD8) (D_is_path : Df P w K mg base "is_path" 5 1 AB6) (D_is_point : Df P w K mg base "is_point" 3 1 ABP) (D_is_rule : Df P w K mg base "is_rule" 1 1 AAP) (D_is_short : Df P w K mg base "is_short" 1 2 L9) (D_is_whole : Df P w K mg base "is_whole" 1 1 N2) (D_is_width : Df P w K mg base "is_width" 3 1 ABW) (D_lines_drawn : Df P w K mg base "lines_drawn" 3 2 r0) (D_lines_round : Df P w K mg base "lines_round" 3 1 m6) (D_lowest : Df P w K mg base "lowest" 2 2 R9) (D_moved : Df P w K mg base "moved" 4 3 ADW) (D_moved_part : Df P w K mg base "moved_part" 5 2 d7) (D_moved_path : Df P w K mg base "moved_path" 7 2 O3) (D_need_matrix : Df P w K mg base "need_matrix" 4 1 V0) (D_need_number : Df P w K mg base "need_number" 3 1 L0) (D_need_path : Df P w K mg base "need_path" 6 1 O0) (D_plus : Df P w K mg base "plus" 3 2 ACO) (D_quarter : Df P w K mg base "quarter" 2 1 ABE) (D_times : Df P w K mg base "times" 3 2 AAV) (D_turns : Df P w K mg base "turns" 1 2 AHG) (D_winding : Df P w K mg base "winding" 7 3 D4) (x_NoMatrix : ErrK K mg "NoMatrix") (x_NoNumber : ErrK K mg "NoNumber") (x_NoPath : ErrK K mg "NoPath") (x_NoRule : ErrK K mg "NoRule")
theorem AK6 : FnScope AAO ["thing"] (A6 t7) := ⟨rfl, rfl, rfl, by decide +kernel, rfl, by decide +kernel, by decide +kernel⟩
include B  in
theorem AMX (hr : Room 0 (cx P w K mg base AAO "is_whole" t7 f cdv A outer s H E).A) : JSs (cx P w K mg base AAO "is_whole" t7 f cdv A outer s H E) (N5 K E) (B8 t7) ADI := by
 have nb : NB AAO := ⟨by decide +kernel, by decide +kernel⟩
 unfold ADI
 exact A8 (C1 (AF4 (AMW B rfl rfl (vL nb 0 rfl rfl rfl) rfl) (AES (AXR (AF1 B rfl rfl (vL nb 0 rfl rfl rfl) rfl)))))
theorem AFO : FnScope W1 ["one", "other"] (A6 P3) := ⟨rfl, rfl, rfl, by decide +kernel, rfl, by decide +kernel, by decide +kernel⟩
include B  in
theorem AHO (hr : Room 0 (cx P w K mg base W1 "common_part" P3 f cdv A outer s H E).A) : JSs (cx P w K mg base W1 "common_part" P3 f cdv A outer s H E) (N5 K E) (B8 P3) n8 := by
 have nb : NB W1 := ⟨by decide +kernel, by decide +kernel⟩
 unfold n8
 refine A4 ?_ ?_
 ·exact (AHD .leaving (J4 (j7 hr.units) R5 M9 (vL nb 1 rfl rfl rfl) A7 (D7 _)) (A8 (@AE3 _ _ 0 1 (Str.ofString "one") (Str.ofString "other") _ _ _ _ _ _ _ _ _ _ rfl nb.nd rfl rfl (by decide) rfl rfl (aj2 (vL nb 1 rfl rfl rfl) (B5 X9 Y9 (vL nb 0 rfl rfl rfl) (vL nb 1 rfl rfl rfl)) rfl rfl) rfl rfl)))
 exact A8 (C1 (vL nb 0 rfl rfl rfl))
theorem AKF : FnScope AA7 ["top", "below"] (A6 t6) := ⟨rfl, rfl, rfl, by decide +kernel, rfl, by decide +kernel, by decide +kernel⟩
include B g_TOO_GREAT in
theorem AN1 (hr : Room 0 (cx P w K mg base AA7 "is_short" t6 f cdv A outer s H E).A) : JSs (cx P w K mg base AA7 "is_short" t6 f cdv A outer s H E) (N5 K E) (B8 t6) ABT := by
 have nb : NB AA7 := ⟨by decide +kernel, by decide +kernel⟩
 unfold ABT
 exact A8 (C1 (AF4 (x2 (AGY) ADB (AIB B.abs rfl (aj1 (vL nb 0 rfl rfl rfl) rfl) rfl) (AEI g_TOO_GREAT rfl) (D7 _)) (AES (x2 (AGY) ADB (vL nb 1 rfl rfl rfl) (AEI g_TOO_GREAT rfl) (D7 _)))))
theorem AJ6 : FnScope x8 ["thing"] (A6 X4) := ⟨rfl, rfl, rfl, by decide +kernel, rfl, by decide +kernel, by decide +kernel⟩
include B D_common_part D_is_short D_is_whole in
theorem AK8 (hr : Room 1 (cx P w K mg base x8 "is_number" X4 f cdv A outer s H E).A) : JSs (cx P w K mg base x8 "is_number" X4 f cdv A outer s H E) (N5 K E) (B8 X4) S4 := by
 have nb : NB x8 := ⟨by decide +kernel, by decide +kernel⟩
 unfold S4
 refine A4 ?_ ?_
 ·exact (N7 (AJF (ADP (W8 (D5 (T0 B rfl rfl (vL nb 0 rfl rfl rfl) rfl) (fun _ => rfl))) (ABO (J4 (j7 hr.units) R5 M9 (ACZ B.len rfl (aj1 (vL nb 0 rfl rfl rfl) rfl) rfl) A7 (D7 _))))) (A8 (C1 L3)) D8)
 refine A4 ?_ ?_
 ·exact (y9 (vL nb 0 rfl rfl rfl) (K3 rfl (A9 (@B0 _ 1 (Str.ofString "top") _ nb.nd rfl (Or.inl rfl) (Or.inr rfl)) (A9 (@B0 _ 2 (Str.ofString "below") _ nb.nd rfl (Or.inl rfl) (Or.inr rfl)) E8 rfl) rfl) rfl rfl) rfl rfl rfl)
 refine A4 ?_ ?_
 ·exact (N7 (AJF (ADP (W8 (D5 (B3 D_is_whole hr (by decide) B4 rfl (aj1 (vL nb 1 rfl rfl rfl) rfl) rfl rfl) (fun _ => rfl))) (ABO (W8 (D5 (B3 D_is_whole hr (by decide) B4 rfl (aj1 (vL nb 2 rfl rfl rfl) rfl) rfl rfl) (fun _ => rfl)))))) (A8 (C1 L3)) D8)
 exact A8 (C1 (AF4 (x2 (AMA) AGK (vL nb 2 rfl rfl rfl) A7 (D7 _)) (AF4 (B3 D_is_short hr (by decide) B4 rfl (aj2 (vL nb 1 rfl rfl rfl) (vL nb 2 rfl rfl rfl) rfl rfl) rfl rfl) (AES (x2 (AGE hr.units) ADT (B3 D_common_part hr (by decide) B4 rfl (aj2 (AIB B.abs rfl (aj1 (vL nb 1 rfl rfl rfl) rfl) rfl) (vL nb 2 rfl rfl rfl) rfl rfl) rfl rfl) A7 (D7 _))))))
theorem AOM : FnScope ACY ["top", "below"] (A6 ABQ) := ⟨rfl, rfl, rfl, by decide +kernel, rfl, by decide +kernel, by decide +kernel⟩
include B D_common_part D_is_short in
theorem AS0 (hr : Room 1 (cx P w K mg base ACY "lowest" ABQ f cdv A outer s H E).A) : JSs (cx P w K mg base ACY "lowest" ABQ f cdv A outer s H E) (N5 K E) (B8 ABQ) AD0 := by
 have nb : NB ACY := ⟨by decide +kernel, by decide +kernel⟩
 unfold AD0
 refine A4 ?_ ?_
 ·exact (N7 (J4 (AGY) ADB K0 (vL nb 1 rfl rfl rfl) A7 (D7 _)) (A8 (@AE3 _ _ 0 1 (Str.ofString "top") (Str.ofString "below") _ _ _ _ _ _ _ _ _ _ rfl nb.nd rfl rfl (by decide) rfl rfl (aj2 (AHN AD4 AB3 (vL nb 0 rfl rfl rfl)) (AHN AD4 AB3 (vL nb 1 rfl rfl rfl)) rfl rfl) rfl rfl)) D8)
 refine A4 ?_ ?_
 ·exact (@G1 _ _ 2 (Str.ofString "shared") _ _ _ _ nb.nd rfl (Or.inl rfl) (B3 D_common_part hr (by decide) B4 rfl (aj2 (AIB B.abs rfl (aj1 (vL nb 0 rfl rfl rfl) rfl) rfl) (vL nb 1 rfl rfl rfl) rfl rfl) rfl rfl) (by kernel_rfl) (Or.inr rfl))
 refine A4 ?_ ?_
 ·exact (@AE3 _ _ 0 1 (Str.ofString "top") (Str.ofString "below") _ _ _ _ _ _ _ _ _ _ rfl nb.nd rfl rfl (by decide) rfl rfl (aj2 (B5 Q4 Q2 (vL nb 0 rfl rfl rfl) (vL nb 2 rfl rfl rfl)) (B5 Q4 Q2 (vL nb 1 rfl rfl rfl) (vL nb 2 rfl rfl rfl)) rfl rfl) rfl rfl)
 exact A8 (C1 (ACK (D5 (B3 D_is_short hr (by decide) B4 rfl (aj2 (vL nb 0 rfl rfl rfl) (vL nb 1 rfl rfl rfl) rfl rfl) rfl rfl) (fun _ => rfl)) (O2 (aj2 (vL nb 0 rfl rfl rfl) (vL nb 1 rfl rfl rfl) rfl rfl)) i9))
theorem AFY : FnScope V7 ["thing"] (A6 P0) := ⟨rfl, rfl, rfl, by decide +kernel, rfl, by decide +kernel, by decide +kernel⟩
include B D_is_number x_NoNumber in
theorem AHJ (hr : Room 2 (cx P w K mg base V7 "need_number" P0 f cdv A outer s H E).A) : JSs (cx P w K mg base V7 "need_number" P0 f cdv A outer s H E) (N5 K E) (B8 P0) W6 := by
 have nb : NB V7 := ⟨by decide +kernel, by decide +kernel⟩
 unfold W6
 exact A8 (N7 (W8 (D5 (B3 D_is_number hr (by decide) B4 rfl (aj1 (vL nb 0 rfl rfl rfl) rfl) rfl rfl) (fun _ => rfl))) (A8 (AAC x_NoNumber rfl (aj1 (AAA (by decide +kernel)) rfl) rfl rfl)) D8)
theorem AHP : FnScope e7 ["_law_script", "_law_k", "_law_many"] (A6 U0) := ⟨rfl, rfl, rfl, by decide +kernel, rfl, by decide +kernel, by decide +kernel⟩
include B  in
theorem AJD (hr : Room 0 (cx P w K mg base e7 "_law_drawn" U0 f cdv A outer s H E).A) : JSs (cx P w K mg base e7 "_law_drawn" U0 f cdv A outer s H E) (N5 K E) (B8 U0) S9 := by
 have nb : NB e7 := ⟨by decide +kernel, by decide +kernel⟩
 unfold S9
 refine A4 ?_ ?_
 ·exact (@G1 _ _ 3 (Str.ofString "_law_cell") _ _ _ _ nb.nd rfl (Or.inl rfl) (B5 B9 B6 A7 (vL nb 1 rfl rfl rfl)) (by kernel_rfl) (Or.inr rfl))
 refine A4 ?_ ?_
 ·refine (N7 (J4 (j7 hr.units) R5 M9 (vL nb 0 rfl rfl rfl) (AG6 w5) (D7 _)) (A4 (@G1 _ _ 3 (Str.ofString "_law_cell") _ _ _ _ nb.nd rfl (Or.inl rfl) (J7 (vL nb 0 rfl rfl rfl) (B5 X9 Y9 (vL nb 1 rfl rfl rfl) (ACZ B.len rfl (aj1 (vL nb 0 rfl rfl rfl) rfl) rfl)) (fun _ _ => rfl)) (by kernel_rfl) (Or.inr rfl))
  (A4 (@G1 _ _ 4 (Str.ofString "_law_turn") _ _ _ _ nb.nd rfl (Or.inl rfl) (B5 Q4 Q2 (vL nb 1 rfl rfl rfl) (ACZ B.len rfl (aj1 (vL nb 0 rfl rfl rfl) rfl) rfl)) (by kernel_rfl) (Or.inr rfl))
  (A4 (N7 (AJF (AGM (J4 (AUO) AOD K0 (vL nb 3 rfl rfl rfl) ?_ (D7 _)) (ADG (J4 (AGY) ADB K0 (vL nb 4 rfl rfl rfl) A7 (D7 _))))) (A4 (@G1 _ _ 5 (Str.ofString "_law_rest") _ _ _ _ nb.nd rfl (Or.inl rfl) (B5 Q4 Q2 (vL nb 3 rfl rfl rfl) ?_) (by kernel_rfl) (Or.inr rfl))
  (A4 (AHD .leaving (AJF (AGM (J4 (AMA) AGK K0 (vL nb 5 rfl rfl rfl) A7 (D7 _)) (ADG (J4 (AMA) AGK K0 (vL nb 4 rfl rfl rfl) A7 (D7 _))))) (A4 (@G1 _ _ 5 (Str.ofString "_law_rest") _ _ _ _ nb.nd rfl (Or.inl rfl) (B5 Q4 Q2 (vL nb 5 rfl rfl rfl) A7) (by kernel_rfl) (Or.inr rfl))
  (A8 (@G1 _ _ 4 (Str.ofString "_law_turn") _ _ _ _ nb.nd rfl (Or.inl rfl) (B5 v1 S7 (vL nb 4 rfl rfl rfl) A7) (by kernel_rfl) (Or.inr rfl)))))
  (A8 (N7 (J4 (AMA) AGK K0 (vL nb 5 rfl rfl rfl) A7 (D7 _)) (A8 (C1 (B5 X9 Y9 (B5 X9 Y9 (vL nb 5 rfl rfl rfl) A7) (vL nb 2 rfl rfl rfl)))) D8)))) D8)
  (A8 (@G1 _ _ 3 (Str.ofString "_law_cell") _ _ _ _ nb.nd rfl (Or.inl rfl) (B5 op_addT E3 (vL nb 3 rfl rfl rfl) (B5 B9 B6 A7 (B5 Q4 Q2 (vL nb 1 rfl rfl rfl) (ACZ B.len rfl (aj1 (vL nb 0 rfl rfl rfl) rfl) rfl)))) (by kernel_rfl) (Or.inr rfl)))))) D8)
  all_goals (refine y6 60 _ _ ?_; kernel_rfl)
 refine A4 ?_ ?_
 ·exact (@G1 _ _ 3 (Str.ofString "_law_cell") _ _ _ _ nb.nd rfl (Or.inl rfl) (B5 X9 Y9 (B5 op_addT E3 (B5 B9 B6 (B5 X9 Y9 (vL nb 3 rfl rfl rfl) A7) A7) (B5 B9 B6 A7 (B5 op_addT E3 (vL nb 1 rfl rfl rfl) A7))) A7) (by kernel_rfl) (Or.inr rfl))
 refine A4 ?_ ?_
 ·exact (@G1 _ _ 3 (Str.ofString "_law_cell") _ _ _ _ nb.nd rfl (Or.inl rfl) (B5 X9 Y9 (B5 op_addT E3 (B5 B9 B6 (vL nb 3 rfl rfl rfl) (vL nb 3 rfl rfl rfl)) (B5 Q4 Q2 (vL nb 3 rfl rfl rfl) A7)) A7) (by kernel_rfl) (Or.inr rfl))
 exact A8 (C1 (B5 X9 Y9 (B5 Q4 Q2 (B5 X9 Y9 (B5 op_addT E3 (B5 B9 B6 (vL nb 3 rfl rfl rfl) (vL nb 3 rfl rfl rfl)) (B5 Q4 Q2 (vL nb 3 rfl rfl rfl) A7)) A7) A7) (vL nb 2 rfl rfl rfl)))
theorem AFN : FnScope V8 ["_law_one", "_law_other"] (A6 P9) := ⟨rfl, rfl, rfl, by decide +kernel, rfl, by decide +kernel, by decide +kernel⟩
include B  in
theorem AH1 (hr : Room 0 (cx P w K mg base V8 "_law_common" P9 f cdv A outer s H E).A) : JSs (cx P w K mg base V8 "_law_common" P9 f cdv A outer s H E) (N5 K E) (B8 P9) m9 := by
 have nb : NB V8 := ⟨by decide +kernel, by decide +kernel⟩
 unfold m9
 refine A4 ?_ ?_
 ·exact (AHD .leaving (J4 (AMA) AGK K0 (vL nb 1 rfl rfl rfl) A7 (D7 _)) (A8 (@AE3 _ _ 0 1 (Str.ofString "_law_one") (Str.ofString "_law_other") _ _ _ _ _ _ _ _ _ _ rfl nb.nd rfl rfl (by decide) rfl rfl (aj2 (vL nb 1 rfl rfl rfl) (B5 X9 Y9 (vL nb 0 rfl rfl rfl) (vL nb 1 rfl rfl rfl)) rfl rfl) rfl rfl)))
 exact A8 (C1 (vL nb 0 rfl rfl rfl))
theorem AHX : FnScope x3 ["_law_above", "_law_below"] (A6 X7) := ⟨rfl, rfl, rfl, by decide +kernel, rfl, by decide +kernel, by decide +kernel⟩
include B D__law_common in
theorem AKB (hr : Room 1 (cx P w K mg base x3 "_law_made" X7 f cdv A outer s H E).A) : JSs (cx P w K mg base x3 "_law_made" X7 f cdv A outer s H E) (N5 K E) (B8 X7) Y4 := by
 have nb : NB x3 := ⟨by decide +kernel, by decide +kernel⟩
 unfold Y4
 refine A4 ?_ ?_
 ·exact (@G1 _ _ 2 (Str.ofString "_law_size") _ _ _ _ nb.nd rfl (Or.inl rfl) (B3 D__law_common hr (by decide) B4 rfl (aj2 (AIB B.abs rfl (aj1 (vL nb 0 rfl rfl rfl) rfl) rfl) (AIB B.abs rfl (aj1 (vL nb 1 rfl rfl rfl) rfl) rfl) rfl rfl) rfl rfl) (by kernel_rfl) (Or.inr rfl))
 refine A4 ?_ ?_
 ·exact (@G1 _ _ 2 (Str.ofString "_law_size") _ _ _ _ nb.nd rfl (Or.inl rfl) (ACK (J4 (AGY) ADB K0 (vL nb 1 rfl rfl rfl) A7 (D7 _)) (AHN AD4 AB3 (vL nb 2 rfl rfl rfl)) (vL nb 2 rfl rfl rfl)) (by kernel_rfl) (Or.inr rfl))
 exact A8 (C1 (O2 (aj2 (B5 Q4 Q2 (vL nb 0 rfl rfl rfl) (vL nb 2 rfl rfl rfl)) (B5 Q4 Q2 (vL nb 1 rfl rfl rfl) (vL nb 2 rfl rfl rfl)) rfl rfl)))
theorem AV3 : FnScope AIM ["one", "other"] (A6 AGS) := ⟨rfl, rfl, rfl, by decide +kernel, rfl, by decide +kernel, by decide +kernel⟩
include B D_lowest in
theorem AYJ (hr : Room 2 (cx P w K mg base AIM "plus" AGS f cdv A outer s H E).A) : JSs (cx P w K mg base AIM "plus" AGS f cdv A outer s H E) (N5 K E) (B8 AGS) AJA := by
 have nb : NB AIM := ⟨by decide +kernel, by decide +kernel⟩
 unfold AJA
 refine A4 ?_ ?_
 ·exact (N7 (AJF (ADP (J4 (AJG) AEQ ACT (vL nb 0 rfl rfl rfl) i9 (D7 _)) (ABO (J4 (AJG) AEQ ACT (vL nb 1 rfl rfl rfl) i9 (D7 _))))) (A8 (C1 i9)) D8)
 exact A8 (C1 (B3 D_lowest hr (by decide) B4 rfl (aj2 (B5 op_addT E3 (B5 B9 B6 (J7 (vL nb 0 rfl rfl rfl) A7 (fun _ _ => rfl)) (J7 (vL nb 1 rfl rfl rfl) A7 (fun _ _ => rfl))) (B5 B9 B6 (J7 (vL nb 1 rfl rfl rfl) A7 (fun _ _ => rfl)) (J7 (vL nb 0 rfl rfl rfl) A7 (fun _ _ => rfl)))) (B5 B9 B6 (J7 (vL nb 0 rfl rfl rfl) A7 (fun _ _ => rfl)) (J7 (vL nb 1 rfl rfl rfl) A7 (fun _ _ => rfl))) rfl rfl) rfl rfl))
theorem ARF : FnScope AF6 ["one", "other"] (A6 ADJ) := ⟨rfl, rfl, rfl, by decide +kernel, rfl, by decide +kernel, by decide +kernel⟩
include B D_lowest in
theorem AUB (hr : Room 2 (cx P w K mg base AF6 "times" ADJ f cdv A outer s H E).A) : JSs (cx P w K mg base AF6 "times" ADJ f cdv A outer s H E) (N5 K E) (B8 ADJ) AF0 := by
 have nb : NB AF6 := ⟨by decide +kernel, by decide +kernel⟩
 unfold AF0
 refine A4 ?_ ?_
 ·exact (N7 (AJF (ADP (J4 (AJG) AEQ ACT (vL nb 0 rfl rfl rfl) i9 (D7 _)) (ABO (J4 (AJG) AEQ ACT (vL nb 1 rfl rfl rfl) i9 (D7 _))))) (A8 (C1 i9)) D8)
 exact A8 (C1 (B3 D_lowest hr (by decide) B4 rfl (aj2 (B5 B9 B6 (J7 (vL nb 0 rfl rfl rfl) A7 (fun _ _ => rfl)) (J7 (vL nb 1 rfl rfl rfl) A7 (fun _ _ => rfl))) (B5 B9 B6 (J7 (vL nb 0 rfl rfl rfl) A7 (fun _ _ => rfl)) (J7 (vL nb 1 rfl rfl rfl) A7 (fun _ _ => rfl))) rfl rfl) rfl rfl))
theorem AJV : FnScope Y6 ["thing"] (A6 S5) := ⟨rfl, rfl, rfl, by decide +kernel, rfl, by decide +kernel, by decide +kernel⟩
include B D_is_number in
theorem AKD (hr : Room 2 (cx P w K mg base Y6 "is_matrix" S5 f cdv A outer s H E).A) : JSs (cx P w K mg base Y6 "is_matrix" S5 f cdv A outer s H E) (N5 K E) (B8 S5) v6 := by
 have nb : NB Y6 := ⟨by decide +kernel, by decide +kernel⟩
 unfold v6
 refine A4 ?_ ?_
 ·exact (N7 (AJF (ADP (W8 (D5 (T0 B rfl rfl (vL nb 0 rfl rfl rfl) rfl) (fun _ => rfl))) (ABO (J4 (j7 hr.units) R5 M9 (ACZ B.len rfl (aj1 (vL nb 0 rfl rfl rfl) rfl) rfl) A7 (D7 _))))) (A8 (C1 L3)) D8)
 exact A8 (C1 (AOC rfl B.all rfl (aj1 (have nb1 : NB ["part"] := ⟨by decide +kernel, by decide +kernel⟩; E5 (so := A6 S5) (N := Y6) (Nc := ["part"]) (sel := [none]) rfl rfl rfl (by decide +kernel) (C2 rfl) (AA6 (vL nb 0 rfl rfl rfl)) (fun cl C s H fp => (@B0 _ 0 (Str.ofString "part") _ nb1.nd rfl (Or.inl rfl) (Or.inr rfl))) (fun cl C s H fp => O8) (fun cl C s H fp => (B3 D_is_number hr (by decide) ACX rfl (aj1 (vL nb1 0 rfl rfl rfl) rfl) rfl rfl)) (fun _ => rfl)) rfl) rfl))
theorem AG2 : FnScope V4 ["thing"] (A6 Q3) := ⟨rfl, rfl, rfl, by decide +kernel, rfl, by decide +kernel, by decide +kernel⟩
include B D_is_matrix x_NoMatrix in
theorem AHM (hr : Room 3 (cx P w K mg base V4 "need_matrix" Q3 f cdv A outer s H E).A) : JSs (cx P w K mg base V4 "need_matrix" Q3 f cdv A outer s H E) (N5 K E) (B8 Q3) V1 := by
 have nb : NB V4 := ⟨by decide +kernel, by decide +kernel⟩
 unfold V1
 exact A8 (N7 (W8 (D5 (B3 D_is_matrix hr (by decide) B4 rfl (aj1 (vL nb 0 rfl rfl rfl) rfl) rfl rfl) (fun _ => rfl))) (A8 (AAC x_NoMatrix rfl (aj1 (AAA (by decide +kernel)) rfl) rfl rfl)) D8)
theorem AKS : FnScope r6 ["parts"] (A6 Z5) := ⟨rfl, rfl, rfl, by decide +kernel, rfl, by decide +kernel, by decide +kernel⟩
include B  in
theorem AMZ (hr : Room 0 (cx P w K mg base r6 "all_told" Z5 f cdv A outer s H E).A) : JSs (cx P w K mg base r6 "all_told" Z5 f cdv A outer s H E) (N5 K E) (B8 Z5) AAR := by
 have nb : NB r6 := ⟨by decide +kernel, by decide +kernel⟩
 have hu100 : (cx P w K mg base r6 "all_told" Z5 f cdv A outer s H E).A.units + 100 < cLine := by have := hr.un; omega
 unfold AAR
 exact A8 (C1 (ACK (J4 (AXK hu100) AU7 ANV i9 (vL nb 0 rfl rfl rfl) (by with_unfolding_all rfl)) i9 (j6 B.tuple rfl (aj1 (vL nb 0 rfl rfl rfl) rfl) rfl)))
theorem AQV : FnScope AEV ["matrix", "x", "y"] (A6 ADM) := ⟨rfl, rfl, rfl, by decide +kernel, rfl, by decide +kernel, by decide +kernel⟩
include B D_all_told D_plus D_times in
theorem AUV (hr : Room 3 (cx P w K mg base AEV "moved" ADM f cdv A outer s H E).A) : JSs (cx P w K mg base AEV "moved" ADM f cdv A outer s H E) (N5 K E) (B8 ADM) AEY := by
 have nb : NB AEV := ⟨by decide +kernel, by decide +kernel⟩
 unfold AEY
 refine A4 ?_ ?_
 ·exact (y9 (vL nb 0 rfl rfl rfl) (K3 rfl (A9 (@B0 _ 3 (Str.ofString "a") _ nb.nd rfl (Or.inl rfl) (Or.inr rfl)) (A9 (@B0 _ 4 (Str.ofString "b") _ nb.nd rfl (Or.inl rfl) (Or.inr rfl)) (A9 (@B0 _ 5 (Str.ofString "c") _ nb.nd rfl (Or.inl rfl) (Or.inr rfl)) (A9 (@B0 _ 6 (Str.ofString "d") _ nb.nd rfl (Or.inl rfl) (Or.inr rfl)) (A9 (@B0 _ 7 (Str.ofString "e") _ nb.nd rfl (Or.inl rfl) (Or.inr rfl)) (A9 (@B0 _ 8 (Str.ofString "f") _ nb.nd rfl (Or.inl rfl) (Or.inr rfl)) E8 rfl) rfl) rfl) rfl) rfl) rfl) rfl rfl) rfl rfl rfl)
 refine A4 ?_ ?_
 ·exact (@G1 _ _ 9 (Str.ofString "to_x") _ _ _ _ nb.nd rfl (Or.inl rfl) (B3 D_plus hr (by decide) B4 rfl (aj2 (B3 D_plus hr (by decide) B4 rfl (aj2 (B3 D_times hr (by decide) B4 rfl (aj2 (vL nb 3 rfl rfl rfl) (vL nb 1 rfl rfl rfl) rfl rfl) rfl rfl) (B3 D_times hr (by decide) B4 rfl (aj2 (vL nb 5 rfl rfl rfl) (vL nb 2 rfl rfl rfl) rfl rfl) rfl rfl) rfl rfl) rfl rfl) (vL nb 7 rfl rfl rfl) rfl rfl) rfl rfl) (by kernel_rfl) (Or.inr rfl))
 refine A4 ?_ ?_
 ·exact (@G1 _ _ 10 (Str.ofString "to_y") _ _ _ _ nb.nd rfl (Or.inl rfl) (B3 D_plus hr (by decide) B4 rfl (aj2 (B3 D_plus hr (by decide) B4 rfl (aj2 (B3 D_times hr (by decide) B4 rfl (aj2 (vL nb 4 rfl rfl rfl) (vL nb 1 rfl rfl rfl) rfl rfl) rfl rfl) (B3 D_times hr (by decide) B4 rfl (aj2 (vL nb 6 rfl rfl rfl) (vL nb 2 rfl rfl rfl) rfl rfl) rfl rfl) rfl rfl) rfl rfl) (vL nb 8 rfl rfl rfl) rfl rfl) rfl rfl) (by kernel_rfl) (Or.inr rfl))
 exact A8 (C1 (B3 D_all_told hr (by decide) B4 rfl (aj1 (AG6 (aj2 (vL nb 9 rfl rfl rfl) (vL nb 10 rfl rfl rfl) rfl rfl)) rfl) rfl rfl))
theorem AMY : FnScope AAN ["many"] (A6 u9) := ⟨rfl, rfl, rfl, by decide +kernel, rfl, by decide +kernel, by decide +kernel⟩
include B g_QUARTERS D_is_whole x_NoNumber in
theorem APW (hr : Room 1 (cx P w K mg base AAN "quarter" u9 f cdv A outer s H E).A) : JSs (cx P w K mg base AAN "quarter" u9 f cdv A outer s H E) (N5 K E) (B8 u9) AAK := by
 have nb : NB AAN := ⟨by decide +kernel, by decide +kernel⟩
 unfold AAK
 refine A4 ?_ ?_
 ·exact (N7 (W8 (D5 (B3 D_is_whole hr (by decide) B4 rfl (aj1 (vL nb 0 rfl rfl rfl) rfl) rfl rfl) (fun _ => rfl))) (A8 (AAC x_NoNumber rfl (aj1 (AAA (by decide +kernel)) rfl) rfl rfl)) D8)
 exact A8 (C1 (j6 B.tuple rfl (aj1 (have nb1 : NB ["part"] := ⟨by decide +kernel, by decide +kernel⟩; E5 (so := A6 u9) (N := AAN) (Nc := ["part"]) (sel := [none]) rfl rfl rfl (by decide +kernel) (C2 rfl) (AA6 (J7 (AEI g_QUARTERS rfl) (B5 X9 Y9 (vL nb 0 rfl rfl rfl) A7) (fun _ _ => rfl))) (fun cl C s H fp => (@B0 _ 0 (Str.ofString "part") _ nb1.nd rfl (Or.inl rfl) (Or.inr rfl))) (fun cl C s H fp => O8) (fun cl C s H fp => (O2 (aj2 (vL nb1 0 rfl rfl rfl) A7 rfl rfl))) (fun _ => rfl)) rfl) rfl))
theorem AG1 : FnScope V5 ["_law_script", "_law_at"] (A6 Q7) := ⟨rfl, rfl, rfl, by decide +kernel, rfl, by decide +kernel, by decide +kernel⟩
include B D__law_drawn D__law_made in
theorem AHI (hr : Room 2 (cx P w K mg base V5 "_law_number" Q7 f cdv A outer s H E).A) : JSs (cx P w K mg base V5 "_law_number" Q7 f cdv A outer s H E) (N5 K E) (B8 Q7) P5 := by
 have nb : NB V5 := ⟨by decide +kernel, by decide +kernel⟩
 unfold P5
 refine A4 ?_ ?_
 ·refine (@G1 _ _ 2 (Str.ofString "_law_below") _ _ _ _ nb.nd rfl (Or.inl rfl) (J7 ?_ (B3 D__law_drawn hr (by decide) B4 rfl (aj3 (vL nb 0 rfl rfl rfl) (vL nb 1 rfl rfl rfl) A7 rfl rfl rfl) rfl rfl) (fun _ _ => rfl)) (by kernel_rfl) (Or.inr rfl))
  all_goals (refine y6 60 _ _ ?_; kernel_rfl)
 refine A8 (C1 (B3 D__law_made hr (by decide) B4 rfl (aj2 (B5 v1 S7 (B3 D__law_drawn hr (by decide) B4 rfl (aj3 (vL nb 0 rfl rfl rfl) (B5 op_addT E3 (vL nb 1 rfl rfl rfl) A7) (J7 ?_ (B3 D__law_drawn hr (by decide) B4 rfl (aj3 (vL nb 0 rfl rfl rfl) (B5 op_addT E3 (vL nb 1 rfl rfl rfl) A7) A7 rfl rfl rfl) rfl rfl) (fun _ _ => rfl)) rfl rfl rfl) rfl rfl) A7) (vL nb 2 rfl rfl rfl) rfl rfl) rfl rfl))
 all_goals (refine y6 60 _ _ ?_; kernel_rfl)
theorem AJK : FnScope x4 ["_law_one", "_law_other"] (A6 Y8) := ⟨rfl, rfl, rfl, by decide +kernel, rfl, by decide +kernel, by decide +kernel⟩
include B D__law_made in
theorem AKW (hr : Room 2 (cx P w K mg base x4 "_law_plus" Y8 f cdv A outer s H E).A) : JSs (cx P w K mg base x4 "_law_plus" Y8 f cdv A outer s H E) (N5 K E) (B8 Y8) v3 := by
 have nb : NB x4 := ⟨by decide +kernel, by decide +kernel⟩
 unfold v3
 exact A8 (C1 (B3 D__law_made hr (by decide) B4 rfl (aj2 (B5 op_addT E3 (B5 B9 B6 (J7 (vL nb 0 rfl rfl rfl) A7 (fun _ _ => rfl)) (J7 (vL nb 1 rfl rfl rfl) A7 (fun _ _ => rfl))) (B5 B9 B6 (J7 (vL nb 1 rfl rfl rfl) A7 (fun _ _ => rfl)) (J7 (vL nb 0 rfl rfl rfl) A7 (fun _ _ => rfl)))) (B5 B9 B6 (J7 (vL nb 0 rfl rfl rfl) A7 (fun _ _ => rfl)) (J7 (vL nb 1 rfl rfl rfl) A7 (fun _ _ => rfl))) rfl rfl) rfl rfl))
theorem AH2 : FnScope d9 ["_law_one", "_law_other"] (A6 T4) := ⟨rfl, rfl, rfl, by decide +kernel, rfl, by decide +kernel, by decide +kernel⟩
include B D__law_made in
theorem AJB (hr : Room 2 (cx P w K mg base d9 "_law_times" T4 f cdv A outer s H E).A) : JSs (cx P w K mg base d9 "_law_times" T4 f cdv A outer s H E) (N5 K E) (B8 T4) i7 := by
 have nb : NB d9 := ⟨by decide +kernel, by decide +kernel⟩
 unfold i7
 exact A8 (C1 (B3 D__law_made hr (by decide) B4 rfl (aj2 (B5 B9 B6 (J7 (vL nb 0 rfl rfl rfl) A7 (fun _ _ => rfl)) (J7 (vL nb 1 rfl rfl rfl) A7 (fun _ _ => rfl))) (B5 B9 B6 (J7 (vL nb 0 rfl rfl rfl) A7 (fun _ _ => rfl)) (J7 (vL nb 1 rfl rfl rfl) A7 (fun _ _ => rfl))) rfl rfl) rfl rfl))
theorem AME : FnScope ABG ["one", "other"] (A6 AAQ) := ⟨rfl, rfl, rfl, by decide +kernel, rfl, by decide +kernel, by decide +kernel⟩
include B  in
theorem AP0 (hr : Room 0 (cx P w K mg base ABG "is_less" AAQ f cdv A outer s H E).A) : JSs (cx P w K mg base ABG "is_less" AAQ f cdv A outer s H E) (N5 K E) (B8 AAQ) AA5 := by
 have nb : NB ABG := ⟨by decide +kernel, by decide +kernel⟩
 unfold AA5
 exact A8 (C1 (x2 (AGY) ADB (B5 B9 B6 (J7 (vL nb 0 rfl rfl rfl) A7 (fun _ _ => rfl)) (J7 (vL nb 1 rfl rfl rfl) A7 (fun _ _ => rfl))) (B5 B9 B6 (J7 (vL nb 1 rfl rfl rfl) A7 (fun _ _ => rfl)) (J7 (vL nb 0 rfl rfl rfl) A7 (fun _ _ => rfl))) (D7 _)))
theorem AKP : FnScope t4 ["terms"] (A6 X3) := ⟨rfl, rfl, rfl, by decide +kernel, rfl, by decide +kernel, by decide +kernel⟩
include B D_common_part in
theorem AMN (hr : Room 1 (cx P w K mg base t4 "in_units" X3 f cdv A outer s H E).A) : JSs (cx P w K mg base t4 "in_units" X3 f cdv A outer s H E) (N5 K E) (B8 X3) Q9 := by
 have nb : NB t4 := ⟨by decide +kernel, by decide +kernel⟩
 unfold Q9
 refine A4 ?_ ?_
 ·exact (@G1 _ _ 1 (Str.ofString "unit") _ _ _ _ nb.nd rfl (Or.inr rfl) A7 (by kernel_rfl) (Or.inl rfl))
 refine A4 ?_ ?_
 ·exact (AJJ .leaving rfl (AA6 (vL nb 0 rfl rfl rfl)) (K3 rfl (A9 (@B0 _ 2 (Str.ofString "top") _ nb.nd rfl (Or.inl rfl) (Or.inr rfl)) (A9 (@B0 _ 3 (Str.ofString "below") _ nb.nd rfl (Or.inl rfl) (Or.inr rfl)) E8 rfl) rfl) rfl rfl) (A8 (@G1 _ _ 1 (Str.ofString "unit") _ _ _ _ nb.nd rfl (Or.inr rfl) (B5 Q4 Q2 (B5 B9 B6 (AFB nb 1 rfl rfl (Or.inr (Or.inl rfl))) (vL nb 3 rfl rfl rfl)) (B3 D_common_part hr (by decide) B4 rfl (aj2 (AFB nb 1 rfl rfl (Or.inr (Or.inl rfl))) (vL nb 3 rfl rfl rfl) rfl rfl) rfl rfl)) (by kernel_rfl) (Or.inl rfl))) (fun _ => rfl))
 exact A8 (C1 (O2 (aj2 (have nb1 : NB ["top", "below", "unit"] := ⟨by decide +kernel, by decide +kernel⟩; E5 (so := A6 X3) (N := t4) (Nc := ["top", "below", "unit"]) (sel := [none, none, some 1]) rfl rfl rfl (by decide +kernel) (W7 (fun g hg => by rcases List.mem_cons.mp hg with rfl | hg; exact (C2 rfl); rcases List.mem_cons.mp hg with rfl | hg; exact (C2 rfl); cases hg)) (AA6 (vL nb 0 rfl rfl rfl)) (fun cl C s H fp => (K3 rfl (A9 (@B0 _ 0 (Str.ofString "top") _ nb1.nd rfl (Or.inl rfl) (Or.inr rfl)) (A9 (@B0 _ 1 (Str.ofString "below") _ nb1.nd rfl (Or.inl rfl) (Or.inr rfl)) E8 rfl) rfl) rfl rfl)) (fun cl C s H fp => O8) (fun cl C s H fp => (B5 B9 B6 (vL nb1 0 rfl rfl rfl) (B5 Q4 Q2 (AFB nb1 2 rfl rfl (Or.inr (Or.inl rfl))) (vL nb1 1 rfl rfl rfl)))) (fun _ => rfl)) (AFB nb 1 rfl rfl (Or.inr (Or.inl rfl))) rfl rfl)))
theorem AL7 : FnScope AAJ ["thing"] (A6 u6) := ⟨rfl, rfl, rfl, by decide +kernel, rfl, by decide +kernel, by decide +kernel⟩
include B D_is_number in
theorem AMC (hr : Room 2 (cx P w K mg base AAJ "is_point" u6 f cdv A outer s H E).A) : JSs (cx P w K mg base AAJ "is_point" u6 f cdv A outer s H E) (N5 K E) (B8 u6) t8 := by
 have nb : NB AAJ := ⟨by decide +kernel, by decide +kernel⟩
 unfold t8
 refine A4 ?_ ?_
 ·exact (N7 (AJF (ADP (W8 (D5 (T0 B rfl rfl (vL nb 0 rfl rfl rfl) rfl) (fun _ => rfl))) (ABO (J4 (j7 hr.units) R5 M9 (ACZ B.len rfl (aj1 (vL nb 0 rfl rfl rfl) rfl) rfl) A7 (D7 _))))) (A8 (C1 L3)) D8)
 refine A4 ?_ ?_
 ·exact (y9 (vL nb 0 rfl rfl rfl) (K3 rfl (A9 (@B0 _ 1 (Str.ofString "x") _ nb.nd rfl (Or.inl rfl) (Or.inr rfl)) (A9 (@B0 _ 2 (Str.ofString "y") _ nb.nd rfl (Or.inl rfl) (Or.inr rfl)) E8 rfl) rfl) rfl rfl) rfl rfl rfl)
 exact A8 (C1 (AF4 (B3 D_is_number hr (by decide) B4 rfl (aj1 (vL nb 1 rfl rfl rfl) rfl) rfl rfl) (AES (B3 D_is_number hr (by decide) B4 rfl (aj1 (vL nb 2 rfl rfl rfl) rfl) rfl rfl))))
theorem AN8 : FnScope AAH ["thing"] (A6 w6) := ⟨rfl, rfl, rfl, by decide +kernel, rfl, by decide +kernel, by decide +kernel⟩
include B D_is_point in
theorem AOZ (hr : Room 3 (cx P w K mg base AAH "is_part" w6 f cdv A outer s H E).A) : JSs (cx P w K mg base AAH "is_part" w6 f cdv A outer s H E) (N5 K E) (B8 w6) AAS := by
 have nb : NB AAH := ⟨by decide +kernel, by decide +kernel⟩
 unfold AAS
 refine A4 ?_ ?_
 ·exact (N7 (AJF (ADP (W8 (D5 (T0 B rfl rfl (vL nb 0 rfl rfl rfl) rfl) (fun _ => rfl))) (ABO (J4 (j7 hr.units) R5 M9 (ACZ B.len rfl (aj1 (vL nb 0 rfl rfl rfl) rfl) rfl) A7 (D7 _))))) (A8 (C1 L3)) D8)
 refine A4 ?_ ?_
 ·exact (y9 (vL nb 0 rfl rfl rfl) (K3 rfl (A9 (@B0 _ 1 (Str.ofString "points") _ nb.nd rfl (Or.inl rfl) (Or.inr rfl)) (A9 (@B0 _ 2 (Str.ofString "is_closed") _ nb.nd rfl (Or.inl rfl) (Or.inr rfl)) E8 rfl) rfl) rfl rfl) rfl rfl rfl)
 refine A4 ?_ ?_
 ·exact (N7 (AJF (ADP (W8 (D5 (T0 B rfl rfl (vL nb 1 rfl rfl rfl) rfl) (fun _ => rfl))) (ADP (W8 (D5 (vL nb 1 rfl rfl rfl) (fun _ => rfl))) (ABO (W8 (D5 (AF1 B rfl rfl (vL nb 2 rfl rfl rfl) rfl) (fun _ => rfl))))))) (A8 (C1 L3)) D8)
 exact A8 (C1 (AOC rfl B.all rfl (aj1 (have nb1 : NB ["spot"] := ⟨by decide +kernel, by decide +kernel⟩; E5 (so := A6 w6) (N := AAH) (Nc := ["spot"]) (sel := [none]) rfl rfl rfl (by decide +kernel) (C2 rfl) (AA6 (vL nb 1 rfl rfl rfl)) (fun cl C s H fp => (@B0 _ 0 (Str.ofString "spot") _ nb1.nd rfl (Or.inl rfl) (Or.inr rfl))) (fun cl C s H fp => O8) (fun cl C s H fp => (B3 D_is_point hr (by decide) ACX rfl (aj1 (vL nb1 0 rfl rfl rfl) rfl) rfl rfl)) (fun _ => rfl)) rfl) rfl))
theorem AML : FnScope AA4 ["thing"] (A6 x0) := ⟨rfl, rfl, rfl, by decide +kernel, rfl, by decide +kernel, by decide +kernel⟩
include B D_is_part in
theorem AO4 (hr : Room 4 (cx P w K mg base AA4 "is_path" x0 f cdv A outer s H E).A) : JSs (cx P w K mg base AA4 "is_path" x0 f cdv A outer s H E) (N5 K E) (B8 x0) AA3 := by
 have nb : NB AA4 := ⟨by decide +kernel, by decide +kernel⟩
 unfold AA3
 exact A8 (C1 (AF4 (T0 B rfl rfl (vL nb 0 rfl rfl rfl) rfl) (AES (AOC rfl B.all rfl (aj1 (have nb1 : NB ["part"] := ⟨by decide +kernel, by decide +kernel⟩; E5 (so := A6 x0) (N := AA4) (Nc := ["part"]) (sel := [none]) rfl rfl rfl (by decide +kernel) (C2 rfl) (AA6 (vL nb 0 rfl rfl rfl)) (fun cl C s H fp => (@B0 _ 0 (Str.ofString "part") _ nb1.nd rfl (Or.inl rfl) (Or.inr rfl))) (fun cl C s H fp => O8) (fun cl C s H fp => (B3 D_is_part hr (by decide) ACX rfl (aj1 (vL nb1 0 rfl rfl rfl) rfl) rfl rfl)) (fun _ => rfl)) rfl) rfl))))
theorem AJ4 : FnScope x5 ["thing"] (A6 Z0) := ⟨rfl, rfl, rfl, by decide +kernel, rfl, by decide +kernel, by decide +kernel⟩
include B D_is_path x_NoPath in
theorem AKC (hr : Room 5 (cx P w K mg base x5 "need_path" Z0 f cdv A outer s H E).A) : JSs (cx P w K mg base x5 "need_path" Z0 f cdv A outer s H E) (N5 K E) (B8 Z0) X8 := by
 have nb : NB x5 := ⟨by decide +kernel, by decide +kernel⟩
 unfold X8
 exact A8 (N7 (W8 (D5 (B3 D_is_path hr (by decide) B4 rfl (aj1 (vL nb 0 rfl rfl rfl) rfl) rfl rfl) (fun _ => rfl))) (A8 (AAC x_NoPath rfl (aj1 (AAA (by decide +kernel)) rfl) rfl rfl)) D8)
theorem AHK : FnScope T3 ["part", "matrix"] (A6 O1) := ⟨rfl, rfl, rfl, by decide +kernel, rfl, by decide +kernel, by decide +kernel⟩
include B D_all_told D_moved in
theorem AJW (hr : Room 4 (cx P w K mg base T3 "moved_part" O1 f cdv A outer s H E).A) : JSs (cx P w K mg base T3 "moved_part" O1 f cdv A outer s H E) (N5 K E) (B8 O1) T6 := by
 have nb : NB T3 := ⟨by decide +kernel, by decide +kernel⟩
 unfold T6
 refine A4 ?_ ?_
 ·exact (y9 (vL nb 0 rfl rfl rfl) (K3 rfl (A9 (@B0 _ 2 (Str.ofString "points") _ nb.nd rfl (Or.inl rfl) (Or.inr rfl)) (A9 (@B0 _ 3 (Str.ofString "is_closed") _ nb.nd rfl (Or.inl rfl) (Or.inr rfl)) E8 rfl) rfl) rfl rfl) rfl rfl rfl)
 exact A8 (C1 (B3 D_all_told hr (by decide) B4 rfl (aj1 (AG6 (aj2 (B3 D_all_told hr (by decide) B4 rfl (aj1 (have nb1 : NB ["x", "y", "matrix"] := ⟨by decide +kernel, by decide +kernel⟩; E5 (so := A6 O1) (N := T3) (Nc := ["x", "y", "matrix"]) (sel := [none, none, some 1]) rfl rfl rfl (by decide +kernel) (W7 (fun g hg => by rcases List.mem_cons.mp hg with rfl | hg; exact (C2 rfl); rcases List.mem_cons.mp hg with rfl | hg; exact (C2 rfl); cases hg)) (AA6 (vL nb 2 rfl rfl rfl)) (fun cl C s H fp => (K3 rfl (A9 (@B0 _ 0 (Str.ofString "x") _ nb1.nd rfl (Or.inl rfl) (Or.inr rfl)) (A9 (@B0 _ 1 (Str.ofString "y") _ nb1.nd rfl (Or.inl rfl) (Or.inr rfl)) E8 rfl) rfl) rfl rfl)) (fun cl C s H fp => O8) (fun cl C s H fp => (B3 D_moved hr (by decide) ACX rfl (aj3 (AFB nb1 2 rfl rfl (Or.inr (Or.inl rfl))) (vL nb1 0 rfl rfl rfl) (vL nb1 1 rfl rfl rfl) rfl rfl rfl) rfl rfl)) (fun _ => rfl)) rfl) rfl rfl) (vL nb 3 rfl rfl rfl) rfl rfl)) rfl) rfl rfl))
theorem AHU : FnScope U1 ["path", "matrix"] (A6 O7) := ⟨rfl, rfl, rfl, by decide +kernel, rfl, by decide +kernel, by decide +kernel⟩
include B D_all_told D_moved_part D_need_matrix D_need_path in
theorem AJC (hr : Room 6 (cx P w K mg base U1 "moved_path" O7 f cdv A outer s H E).A) : JSs (cx P w K mg base U1 "moved_path" O7 f cdv A outer s H E) (N5 K E) (B8 O7) U2 := by
 have nb : NB U1 := ⟨by decide +kernel, by decide +kernel⟩
 unfold U2
 refine A4 ?_ ?_
 ·exact (AA2 (B3 D_need_path hr (by decide) B4 rfl (aj1 (vL nb 0 rfl rfl rfl) rfl) rfl rfl) rfl)
 refine A4 ?_ ?_
 ·exact (AA2 (B3 D_need_matrix hr (by decide) B4 rfl (aj1 (AFB nb 1 rfl rfl (Or.inr (Or.inl rfl))) rfl) rfl rfl) rfl)
 exact A8 (C1 (B3 D_all_told hr (by decide) B4 rfl (aj1 (have nb1 : NB ["part", "matrix"] := ⟨by decide +kernel, by decide +kernel⟩; E5 (so := A6 O7) (N := U1) (Nc := ["part", "matrix"]) (sel := [none, some 1]) rfl rfl rfl (by decide +kernel) (C2 rfl) (AA6 (vL nb 0 rfl rfl rfl)) (fun cl C s H fp => (@B0 _ 0 (Str.ofString "part") _ nb1.nd rfl (Or.inl rfl) (Or.inr rfl))) (fun cl C s H fp => O8) (fun cl C s H fp => (B3 D_moved_part hr (by decide) ACX rfl (aj2 (vL nb1 0 rfl rfl rfl) (AFB nb1 1 rfl rfl (Or.inr (Or.inl rfl))) rfl rfl) rfl rfl)) (fun _ => rfl)) rfl) rfl rfl))
theorem AN0 : FnScope AB7 ["numbers"] (A6 AAG) := ⟨rfl, rfl, rfl, by decide +kernel, rfl, by decide +kernel, by decide +kernel⟩
include B D_is_less in
theorem ANX (hr : Room 1 (cx P w K mg base AB7 "ends_of" AAG f cdv A outer s H E).A) : JSs (cx P w K mg base AB7 "ends_of" AAG f cdv A outer s H E) (N5 K E) (B8 AAG) AAM := by
 have nb : NB AB7 := ⟨by decide +kernel, by decide +kernel⟩
 unfold AAM
 refine A4 ?_ ?_
 ·exact (@AVU _ _ 1 2 (Str.ofString "least") (Str.ofString "greatest") _ _ _ _ _ nb.nd rfl rfl (Or.inl rfl) (Or.inl rfl) (J7 (vL nb 0 rfl rfl rfl) A7 (fun _ _ => rfl)) rfl rfl rfl (Or.inr rfl) (Or.inr rfl))
 refine A4 ?_ ?_
 ·exact (AJJ .leaving rfl (AF9 (vL nb 0 rfl rfl rfl)) (@B0 _ 3 (Str.ofString "other") _ nb.nd rfl (Or.inl rfl) (Or.inr rfl)) (A4 (N7 (D5 (B3 D_is_less hr (by decide) B4 rfl (aj2 (vL nb 3 rfl rfl rfl) (vL nb 1 rfl rfl rfl) rfl rfl) rfl rfl) (fun _ => rfl)) (A8 (@G1 _ _ 1 (Str.ofString "least") _ _ _ _ nb.nd rfl (Or.inl rfl) (vL nb 3 rfl rfl rfl) (by kernel_rfl) (Or.inr rfl))) D8)
  (A8 (N7 (D5 (B3 D_is_less hr (by decide) B4 rfl (aj2 (vL nb 2 rfl rfl rfl) (vL nb 3 rfl rfl rfl) rfl rfl) rfl rfl) (fun _ => rfl)) (A8 (@G1 _ _ 2 (Str.ofString "greatest") _ _ _ _ nb.nd rfl (Or.inl rfl) (vL nb 3 rfl rfl rfl) (by kernel_rfl) (Or.inr rfl))) D8))) (fun _ => rfl))
 exact A8 (C1 (O2 (aj2 (vL nb 1 rfl rfl rfl) (vL nb 2 rfl rfl rfl) rfl rfl)))
theorem AQ8 : FnScope y7 ["path"] (A6 j9) := ⟨rfl, rfl, rfl, by decide +kernel, rfl, by decide +kernel, by decide +kernel⟩
include B D_ends_of D_need_path in
theorem ASE (hr : Room 6 (cx P w K mg base y7 "box_of" j9 f cdv A outer s H E).A) : JSs (cx P w K mg base y7 "box_of" j9 f cdv A outer s H E) (N5 K E) (B8 j9) n0 := by
 have nb : NB y7 := ⟨by decide +kernel, by decide +kernel⟩
 unfold n0
 refine A4 ?_ ?_
 ·exact (AA2 (B3 D_need_path hr (by decide) B4 rfl (aj1 (vL nb 0 rfl rfl rfl) rfl) rfl rfl) rfl)
 refine A4 ?_ ?_
 ·exact (N7 (W8 (D5 (vL nb 0 rfl rfl rfl) (fun _ => rfl))) (A8 (C1 i9)) D8)
 refine A4 ?_ ?_
 ·exact (@AUQ _ _ 1 (Str.ofString "spots") _ _ _ _ _ _ _ nb.nd rfl rfl (have nb1 : NB ["points", "is_closed", "spot"] := ⟨by decide +kernel, by decide +kernel⟩; AJ9 (so := A6 j9) (N := y7) (Nc := ["points", "is_closed", "spot"]) (sel := [none, none, none]) (k := 2) rfl rfl rfl (by decide +kernel) (W7 (fun g hg => by rcases List.mem_cons.mp hg with rfl | hg; exact (C2 rfl); rcases List.mem_cons.mp hg with rfl | hg; exact (C2 rfl); cases hg)) (AA6 (vL nb 0 rfl rfl rfl)) (fun cl C s H fp => (K3 rfl (A9 (@B0 _ 0 (Str.ofString "points") _ nb1.nd rfl (Or.inl rfl) (Or.inr rfl)) (A9 (@B0 _ 1 (Str.ofString "is_closed") _ nb1.nd rfl (Or.inl rfl) (Or.inr rfl)) E8 rfl) rfl) rfl rfl)) (fun cl C s H fp => O8) (fun cl C s H fp => (AA6 (vL nb1 0 rfl rfl rfl))) (fun cl C s H fp => (@B0 _ 2 (Str.ofString "spot") _ nb1.nd rfl (Or.inl rfl) (Or.inr rfl))) (fun cl C s H fp => O8) (fun cl C s H fp => (vL nb1 2 rfl rfl rfl)) (fun _ => rfl) (fun _ _ _ _ _ _ => rfl) rfl (AMI (fun g hg => by rcases List.mem_cons.mp hg with rfl | hg; exact AF3 (by decide); rcases List.mem_cons.mp hg with rfl | hg; exact AF3 (by decide); cases hg))) (by kernel_rfl))
 refine A4 ?_ ?_
 ·exact (y9 (B3 D_ends_of hr (by decide) B4 rfl (aj1 (have nb1 : NB ["x", "y"] := ⟨by decide +kernel, by decide +kernel⟩; E5 (so := A6 j9) (N := y7) (Nc := ["x", "y"]) (sel := [none, none]) rfl rfl rfl (by decide +kernel) (W7 (fun g hg => by rcases List.mem_cons.mp hg with rfl | hg; exact (C2 rfl); rcases List.mem_cons.mp hg with rfl | hg; exact (C2 rfl); cases hg)) (AF9 (vL nb 1 rfl rfl rfl)) (fun cl C s H fp => (K3 rfl (A9 (@B0 _ 0 (Str.ofString "x") _ nb1.nd rfl (Or.inl rfl) (Or.inr rfl)) (A9 (@B0 _ 1 (Str.ofString "y") _ nb1.nd rfl (Or.inl rfl) (Or.inr rfl)) E8 rfl) rfl) rfl rfl)) (fun cl C s H fp => O8) (fun cl C s H fp => (vL nb1 0 rfl rfl rfl)) (fun _ => rfl)) rfl) rfl rfl) (K3 rfl (A9 (@B0 _ 2 (Str.ofString "left") _ nb.nd rfl (Or.inl rfl) (Or.inr rfl)) (A9 (@B0 _ 3 (Str.ofString "right") _ nb.nd rfl (Or.inl rfl) (Or.inr rfl)) E8 rfl) rfl) rfl rfl) rfl rfl rfl)
 refine A4 ?_ ?_
 ·exact (y9 (B3 D_ends_of hr (by decide) B4 rfl (aj1 (have nb1 : NB ["x", "y"] := ⟨by decide +kernel, by decide +kernel⟩; E5 (so := A6 j9) (N := y7) (Nc := ["x", "y"]) (sel := [none, none]) rfl rfl rfl (by decide +kernel) (W7 (fun g hg => by rcases List.mem_cons.mp hg with rfl | hg; exact (C2 rfl); rcases List.mem_cons.mp hg with rfl | hg; exact (C2 rfl); cases hg)) (AF9 (vL nb 1 rfl rfl rfl)) (fun cl C s H fp => (K3 rfl (A9 (@B0 _ 0 (Str.ofString "x") _ nb1.nd rfl (Or.inl rfl) (Or.inr rfl)) (A9 (@B0 _ 1 (Str.ofString "y") _ nb1.nd rfl (Or.inl rfl) (Or.inr rfl)) E8 rfl) rfl) rfl rfl)) (fun cl C s H fp => O8) (fun cl C s H fp => (vL nb1 1 rfl rfl rfl)) (fun _ => rfl)) rfl) rfl rfl) (K3 rfl (A9 (@B0 _ 4 (Str.ofString "low") _ nb.nd rfl (Or.inl rfl) (Or.inr rfl)) (A9 (@B0 _ 5 (Str.ofString "high") _ nb.nd rfl (Or.inl rfl) (Or.inr rfl)) E8 rfl) rfl) rfl rfl) rfl rfl rfl)
 exact A8 (C1 (O2 (C3 (vL nb 2 rfl rfl rfl) (C3 (vL nb 4 rfl rfl rfl) (C3 (vL nb 3 rfl rfl rfl) (C3 (vL nb 5 rfl rfl rfl) w5 rfl) rfl) rfl) rfl)))
theorem AMO : FnScope AA8 ["thing"] (A6 u7) := ⟨rfl, rfl, rfl, by decide +kernel, rfl, by decide +kernel, by decide +kernel⟩
include B g_RULES in
theorem AQ5 (hr : Room 0 (cx P w K mg base AA8 "is_rule" u7 f cdv A outer s H E).A) : JSs (cx P w K mg base AA8 "is_rule" u7 f cdv A outer s H E) (N5 K E) (B8 u7) AFD := by
 have nb : NB AA8 := ⟨by decide +kernel, by decide +kernel⟩
 have hu100 : (cx P w K mg base AA8 "is_rule" u7 f cdv A outer s H E).A.units + 100 < cLine := by have := hr.un; omega
 unfold AFD
 exact A8 (C1 (x2 (AXY hu100) AV7 (vL nb 0 rfl rfl rfl) (AEI g_RULES rfl) (by with_unfolding_all rfl)))
theorem AK5 : FnScope AAB ["thing"] (A6 t5) := ⟨rfl, rfl, rfl, by decide +kernel, rfl, by decide +kernel, by decide +kernel⟩
include B D_is_number in
theorem AM8 (hr : Room 2 (cx P w K mg base AAB "is_width" t5 f cdv A outer s H E).A) : JSs (cx P w K mg base AAB "is_width" t5 f cdv A outer s H E) (N5 K E) (B8 t5) r9 := by
 have nb : NB AAB := ⟨by decide +kernel, by decide +kernel⟩
 unfold r9
 exact A8 (C1 (AF4 (B3 D_is_number hr (by decide) B4 rfl (aj1 (vL nb 0 rfl rfl rfl) rfl) rfl rfl) (AES (x2 (AUO) AOD (J7 (vL nb 0 rfl rfl rfl) A7 (fun _ _ => rfl)) A7 (D7 _)))))
theorem AFL : FnScope U6 ["path"] (A6 P7) := ⟨rfl, rfl, rfl, by decide +kernel, rfl, by decide +kernel, by decide +kernel⟩
include B D_in_units in
theorem AHC (hr : Room 2 (cx P w K mg base U6 "lines_round" P7 f cdv A outer s H E).A) : JSs (cx P w K mg base U6 "lines_round" P7 f cdv A outer s H E) (N5 K E) (B8 P7) Q8 := by
 have nb : NB U6 := ⟨by decide +kernel, by decide +kernel⟩
 unfold Q8
 refine @ACV _ _ 1 (Str.ofString "lines") _ _ _ _ _ _ _ nb.nd rfl (Or.inl rfl) (by kernel_rfl) (Or.inr rfl) ?_ ?_
 ·exact (AFF (Ek := N5 K E) .leaving rfl (ANT (AEX (vL nb 0 rfl rfl rfl))) (K3 rfl (A9 (@B0 _ 2 (Str.ofString "points") _ nb.nd rfl (Or.inl rfl) (Or.inr rfl)) (A9 (@B0 _ 3 (Str.ofString "is_closed") _ nb.nd rfl (Or.inl rfl) (Or.inr rfl)) E8 rfl) rfl) rfl rfl) (ADS (AFF (Ek := N5 K E) .leaving rfl (AQ3 true true rfl B.zip (aj2 (vL nb 2 rfl rfl rfl) (B5 X5 P6 (AF5 (vL nb 2 rfl rfl rfl) (ABH A7) AC8) (AF5 (vL nb 2 rfl rfl rfl) AC8 (ABH A7))) rfl rfl) rfl rfl) (K3 rfl (A9 (@B0 _ 4 (Str.ofString "start") _ nb.nd rfl (Or.inl rfl) (Or.inr rfl)) (A9 (@B0 _ 5 (Str.ofString "end") _ nb.nd rfl (Or.inl rfl) (Or.inr rfl)) E8 rfl) rfl) rfl rfl) (m8 (AAY (Ek := N5 K E) (y9 (B3 D_in_units hr (by decide) B4 rfl (aj1 (B5 X5 P6 (vL nb 4 rfl rfl rfl) (vL nb 5 rfl rfl rfl)) rfl) rfl rfl) (K3 rfl (A9 (@B0 _ 6 (Str.ofString "wholes") _ nb.nd rfl (Or.inl rfl) (Or.inr rfl)) (A9 (@B0 _ 7 (Str.ofString "unit") _ nb.nd rfl (Or.inl rfl) (Or.inr rfl)) E8 rfl) rfl) rfl rfl) rfl rfl rfl)) (ADS (@AM4 _ (N5 K E) 1 (Str.ofString "lines") _ _ _ _ _ _ rfl (Or.inl rfl) (by decide +kernel) (by decide +kernel) (B5 X5 P6 (j6 B.tuple rfl (aj1 (vL nb 6 rfl rfl rfl) rfl) rfl) (O2 (aj1 (vL nb 7 rfl rfl rfl) rfl))) rfl rfl rfl rfl rfl rfl))) (fun _ => rfl))) (fun _ => rfl))
 exact A8 (C1 (vL nb 1 rfl rfl rfl))
theorem AJS : FnScope v9 ["lines", "height"] (A6 Z6) := ⟨rfl, rfl, rfl, by decide +kernel, rfl, by decide +kernel, by decide +kernel⟩
include B  in
theorem AL2 (hr : Room 0 (cx P w K mg base v9 "crossings" Z6 f cdv A outer s H E).A) : JSs (cx P w K mg base v9 "crossings" Z6 f cdv A outer s H E) (N5 K E) (B8 Z6) Y7 := by
 have nb : NB v9 := ⟨by decide +kernel, by decide +kernel⟩
 unfold Y7
 refine A4 ?_ ?_
 ·exact (y9 (vL nb 1 rfl rfl rfl) (K3 rfl (A9 (@B0 _ 2 (Str.ofString "top") _ nb.nd rfl (Or.inl rfl) (Or.inr rfl)) (A9 (@B0 _ 3 (Str.ofString "below") _ nb.nd rfl (Or.inl rfl) (Or.inr rfl)) E8 rfl) rfl) rfl rfl) rfl rfl rfl)
 refine @ACV _ _ 4 (Str.ofString "found") _ _ _ _ _ _ _ nb.nd rfl (Or.inl rfl) (by kernel_rfl) (Or.inr rfl) ?_ ?_
 ·exact (AFF (Ek := N5 K E) .leaving rfl (ANT (AQT (vL nb 0 rfl rfl rfl))) (K3 rfl (A9 (@B0 _ 5 (Str.ofString "x") _ nb.nd rfl (Or.inl rfl) (Or.inr rfl)) (A9 (@B0 _ 6 (Str.ofString "y") _ nb.nd rfl (Or.inl rfl) (Or.inr rfl)) (A9 (@B0 _ 7 (Str.ofString "to_x") _ nb.nd rfl (Or.inl rfl) (Or.inr rfl)) (A9 (@B0 _ 8 (Str.ofString "to_y") _ nb.nd rfl (Or.inl rfl) (Or.inr rfl)) (A9 (@B0 _ 9 (Str.ofString "unit") _ nb.nd rfl (Or.inl rfl) (Or.inr rfl)) E8 rfl) rfl) rfl) rfl) rfl) rfl rfl) (m8 (AAY (Ek := N5 K E) (@G1 _ _ 10 (Str.ofString "level") _ _ _ _ nb.nd rfl (Or.inl rfl) (B5 B9 B6 (vL nb 2 rfl rfl rfl) (vL nb 9 rfl rfl rfl)) (by kernel_rfl) (Or.inr rfl))) (m8 (AAY (Ek := N5 K E) (@G1 _ _ 11 (Str.ofString "rise") _ _ _ _ nb.nd rfl (Or.inl rfl) (B5 v1 S7 (vL nb 8 rfl rfl rfl) (vL nb 6 rfl rfl rfl)) (by kernel_rfl) (Or.inr rfl))) (m8 (AAY (Ek := N5 K E) (N7 (AM2 (ANF) (AGY) AGC ADB K0 (B5 B9 B6 (vL nb 6 rfl rfl rfl) (vL nb 3 rfl rfl rfl)) (vL nb 10 rfl rfl rfl) (B5 B9 B6 (vL nb 8 rfl rfl rfl) (vL nb 3 rfl rfl rfl)) (by with_unfolding_all rfl)) (A8 (@G1 _ _ 12 (Str.ofString "step") _ _ _ _ nb.nd rfl (Or.inl rfl) A7 (by kernel_rfl) (Or.inr rfl))) (A8 (N7 (AM2 (ANF) (AGY) AGC ADB K0 (B5 B9 B6 (vL nb 8 rfl rfl rfl) (vL nb 3 rfl rfl rfl)) (vL nb 10 rfl rfl rfl) (B5 B9 B6 (vL nb 6 rfl rfl rfl) (vL nb 3 rfl rfl rfl)) (by with_unfolding_all rfl)) (A8 (@G1 _ _ 12 (Str.ofString "step") _ _ _ _ nb.nd rfl (Or.inl rfl) (AHN AD4 AB3 A7) (by kernel_rfl) (Or.inr rfl))) (A8 AVY))))) (m8 (AAY (Ek := N5 K E) (@G1 _ _ 13 (Str.ofString "across") _ _ _ _ nb.nd rfl (Or.inl rfl) (B5 op_addT E3 (B5 B9 B6 (B5 B9 B6 (vL nb 5 rfl rfl rfl) (vL nb 3 rfl rfl rfl)) (vL nb 11 rfl rfl rfl)) (B5 B9 B6 (B5 v1 S7 (vL nb 10 rfl rfl rfl) (B5 B9 B6 (vL nb 6 rfl rfl rfl) (vL nb 3 rfl rfl rfl))) (B5 v1 S7 (vL nb 7 rfl rfl rfl) (vL nb 5 rfl rfl rfl)))) (by kernel_rfl) (Or.inr rfl))) (ADS (@AM4 _ (N5 K E) 4 (Str.ofString "found") _ _ _ _ _ _ rfl (Or.inl rfl) (by decide +kernel) (by decide +kernel) (O2 (aj3 (B5 B9 B6 (vL nb 13 rfl rfl rfl) (vL nb 12 rfl rfl rfl)) (B5 B9 B6 (B5 B9 B6 (B5 B9 B6 (vL nb 3 rfl rfl rfl) (vL nb 11 rfl rfl rfl)) (vL nb 9 rfl rfl rfl)) (vL nb 12 rfl rfl rfl)) (vL nb 12 rfl rfl rfl) rfl rfl rfl)) rfl rfl rfl rfl rfl rfl)))))) (fun _ => rfl))
 exact A8 (C1 (vL nb 4 rfl rfl rfl))
theorem AQY : FnScope ADN ["found", "x"] (A6 ACD) := ⟨rfl, rfl, rfl, by decide +kernel, rfl, by decide +kernel, by decide +kernel⟩
include B  in
theorem AUI (hr : Room 0 (cx P w K mg base ADN "turns" ACD f cdv A outer s H E).A) : JSs (cx P w K mg base ADN "turns" ACD f cdv A outer s H E) (N5 K E) (B8 ACD) ADF := by
 have nb : NB ADN := ⟨by decide +kernel, by decide +kernel⟩
 unfold ADF
 refine A4 ?_ ?_
 ·exact (y9 (vL nb 1 rfl rfl rfl) (K3 rfl (A9 (@B0 _ 2 (Str.ofString "top") _ nb.nd rfl (Or.inr rfl) (Or.inl rfl)) (A9 (@B0 _ 3 (Str.ofString "below") _ nb.nd rfl (Or.inr rfl) (Or.inl rfl)) E8 rfl) rfl) rfl rfl) rfl rfl rfl)
 exact A8 (C1 (AYE rfl B.sum rfl (aj1 (have nb1 : NB ["across", "by", "step", "below", "top"] := ⟨by decide +kernel, by decide +kernel⟩; E5 (so := A6 ACD) (N := ADN) (Nc := ["across", "by", "step", "below", "top"]) (sel := [none, none, none, some 3, some 2]) rfl rfl rfl (by decide +kernel) (W7 (fun g hg => by rcases List.mem_cons.mp hg with rfl | hg; exact (C2 rfl); rcases List.mem_cons.mp hg with rfl | hg; exact (C2 rfl); rcases List.mem_cons.mp hg with rfl | hg; exact (C2 rfl); cases hg)) (AF9 (vL nb 0 rfl rfl rfl)) (fun cl C s H fp => (K3 rfl (A9 (@B0 _ 0 (Str.ofString "across") _ nb1.nd rfl (Or.inl rfl) (Or.inr rfl)) (A9 (@B0 _ 1 (Str.ofString "by") _ nb1.nd rfl (Or.inl rfl) (Or.inr rfl)) (A9 (@B0 _ 2 (Str.ofString "step") _ nb1.nd rfl (Or.inl rfl) (Or.inr rfl)) E8 rfl) rfl) rfl) rfl rfl)) (fun cl C s H fp => (ATO (J4 (AMA) AGK K0 (B5 B9 B6 (vL nb1 0 rfl rfl rfl) (AFB nb1 3 rfl rfl (Or.inr (Or.inl rfl)))) (B5 B9 B6 (AFB nb1 4 rfl rfl (Or.inr (Or.inl rfl))) (vL nb1 1 rfl rfl rfl)) (D7 _)))) (fun cl C s H fp => (vL nb1 2 rfl rfl rfl)) (fun _ => rfl)) rfl) rfl))
theorem AR3 : FnScope AEU ["rule", "many"] (A6 ADY) := ⟨rfl, rfl, rfl, by decide +kernel, rfl, by decide +kernel, by decide +kernel⟩
include B  in
theorem ATT (hr : Room 0 (cx P w K mg base AEU "is_in" ADY f cdv A outer s H E).A) : JSs (cx P w K mg base AEU "is_in" ADY f cdv A outer s H E) (N5 K E) (B8 ADY) AB1 := by
 have nb : NB AEU := ⟨by decide +kernel, by decide +kernel⟩
 unfold AB1
 exact A8 (C1 (ACK (J4 (AGE hr.units) ADT ALP (vL nb 0 rfl rfl rfl) (AAA (by decide +kernel)) (D7 _)) (x2 (j7 hr.units) R5 (vL nb 1 rfl rfl rfl) A7 (D7 _)) (x2 (AGE hr.units) ADT (B5 X9 Y9 (vL nb 1 rfl rfl rfl) A7) A7 (D7 _))))
theorem AMR : FnScope ABM ["path", "x", "y"] (A6 AA9) := ⟨rfl, rfl, rfl, by decide +kernel, rfl, by decide +kernel, by decide +kernel⟩
include B D_crossings D_lines_round D_need_number D_need_path D_turns in
theorem APS (hr : Room 6 (cx P w K mg base ABM "winding" AA9 f cdv A outer s H E).A) : JSs (cx P w K mg base ABM "winding" AA9 f cdv A outer s H E) (N5 K E) (B8 AA9) AAL := by
 have nb : NB ABM := ⟨by decide +kernel, by decide +kernel⟩
 unfold AAL
 refine A4 ?_ ?_
 ·exact (AA2 (B3 D_need_path hr (by decide) B4 rfl (aj1 (vL nb 0 rfl rfl rfl) rfl) rfl rfl) rfl)
 refine A4 ?_ ?_
 ·exact (AA2 (B3 D_need_number hr (by decide) B4 rfl (aj1 (vL nb 1 rfl rfl rfl) rfl) rfl rfl) rfl)
 refine A4 ?_ ?_
 ·exact (AA2 (B3 D_need_number hr (by decide) B4 rfl (aj1 (vL nb 2 rfl rfl rfl) rfl) rfl rfl) rfl)
 exact A8 (C1 (B3 D_turns hr (by decide) B4 rfl (aj2 (B3 D_crossings hr (by decide) B4 rfl (aj2 (B3 D_lines_round hr (by decide) B4 rfl (aj1 (vL nb 0 rfl rfl rfl) rfl) rfl rfl) (vL nb 2 rfl rfl rfl) rfl rfl) rfl rfl) (vL nb 1 rfl rfl rfl) rfl rfl) rfl rfl))
theorem AJ2 : FnScope x6 ["path", "rule", "x", "y"] (A6 Z4) := ⟨rfl, rfl, rfl, by decide +kernel, rfl, by decide +kernel, by decide +kernel⟩
include B D_is_in D_is_rule D_need_path D_winding x_NoRule in
theorem AK1 (hr : Room 7 (cx P w K mg base x6 "is_inside" Z4 f cdv A outer s H E).A) : JSs (cx P w K mg base x6 "is_inside" Z4 f cdv A outer s H E) (N5 K E) (B8 Z4) Z1 := by
 have nb : NB x6 := ⟨by decide +kernel, by decide +kernel⟩
 unfold Z1
 refine A4 ?_ ?_
 ·exact (AA2 (B3 D_need_path hr (by decide) B4 rfl (aj1 (vL nb 0 rfl rfl rfl) rfl) rfl rfl) rfl)
 refine A4 ?_ ?_
 ·exact (N7 (W8 (D5 (B3 D_is_rule hr (by decide) B4 rfl (aj1 (vL nb 1 rfl rfl rfl) rfl) rfl rfl) (fun _ => rfl))) (A8 (AAC x_NoRule rfl (aj1 (AAA (by decide +kernel)) rfl) rfl rfl)) D8)
 exact A8 (C1 (B3 D_is_in hr (by decide) B4 rfl (aj2 (vL nb 1 rfl rfl rfl) (B3 D_winding hr (by decide) B4 rfl (aj3 (vL nb 0 rfl rfl rfl) (vL nb 2 rfl rfl rfl) (vL nb 3 rfl rfl rfl) rfl rfl rfl) rfl rfl) rfl rfl) rfl rfl))
theorem AFQ : FnScope V2 ["path", "width"] (A6 P1) := ⟨rfl, rfl, rfl, by decide +kernel, rfl, by decide +kernel, by decide +kernel⟩
include B D_in_units in
theorem AGW (hr : Room 2 (cx P w K mg base V2 "lines_drawn" P1 f cdv A outer s H E).A) : JSs (cx P w K mg base V2 "lines_drawn" P1 f cdv A outer s H E) (N5 K E) (B8 P1) Q5 := by
 have nb : NB V2 := ⟨by decide +kernel, by decide +kernel⟩
 unfold Q5
 refine A4 ?_ ?_
 ·exact (@G1 _ _ 2 (Str.ofString "half") _ _ _ _ nb.nd rfl (Or.inl rfl) (O2 (aj2 (J7 (vL nb 1 rfl rfl rfl) A7 (fun _ _ => rfl)) (B5 B9 B6 (J7 (vL nb 1 rfl rfl rfl) A7 (fun _ _ => rfl)) A7) rfl rfl)) (by kernel_rfl) (Or.inr rfl))
 refine @ACV _ _ 3 (Str.ofString "lines") _ _ _ _ _ _ _ nb.nd rfl (Or.inl rfl) (by kernel_rfl) (Or.inr rfl) ?_ ?_
 ·exact (AFF (Ek := N5 K E) .leaving rfl (ANT (AEX (vL nb 0 rfl rfl rfl))) (K3 rfl (A9 (@B0 _ 4 (Str.ofString "points") _ nb.nd rfl (Or.inl rfl) (Or.inr rfl)) (A9 (@B0 _ 5 (Str.ofString "is_closed") _ nb.nd rfl (Or.inl rfl) (Or.inr rfl)) E8 rfl) rfl) rfl rfl) (m8 (AAY (Ek := N5 K E) (@G1 _ _ 6 (Str.ofString "ends") _ _ _ _ nb.nd rfl (Or.inl rfl) (ACK (AJF (ADP (D5 (vL nb 5 rfl rfl rfl) (fun _ => rfl)) (ABO (J4 (AGE hr.units) ADT ALP (ACZ B.len rfl (aj1 (vL nb 4 rfl rfl rfl) rfl) rfl) A7 (D7 _))))) (B5 X5 P6 (AF5 (vL nb 4 rfl rfl rfl) (ABH A7) AC8) (AF5 (vL nb 4 rfl rfl rfl) AC8 (ABH A7))) (AF5 (vL nb 4 rfl rfl rfl) (ABH A7) AC8)) (by kernel_rfl) (Or.inr rfl))) (ADS (AFF (Ek := N5 K E) .leaving rfl (AQ3 true true rfl B.zip (aj2 (vL nb 4 rfl rfl rfl) (vL nb 6 rfl rfl rfl) rfl rfl) rfl rfl) (K3 rfl (A9 (@B0 _ 7 (Str.ofString "start") _ nb.nd rfl (Or.inl rfl) (Or.inr rfl)) (A9 (@B0 _ 8 (Str.ofString "end") _ nb.nd rfl (Or.inl rfl) (Or.inr rfl)) E8 rfl) rfl) rfl rfl) (m8 (AAY (Ek := N5 K E) (y9 (B3 D_in_units hr (by decide) B4 rfl (aj1 (B5 X5 P6 (B5 X5 P6 (vL nb 7 rfl rfl rfl) (vL nb 8 rfl rfl rfl)) (O2 (aj1 (vL nb 2 rfl rfl rfl) rfl))) rfl) rfl rfl) (K3 rfl (A9 (@B0 _ 9 (Str.ofString "wholes") _ nb.nd rfl (Or.inl rfl) (Or.inr rfl)) (A9 (@B0 _ 10 (Str.ofString "unit") _ nb.nd rfl (Or.inl rfl) (Or.inr rfl)) E8 rfl) rfl) rfl rfl) rfl rfl rfl)) (ADS (@AM4 _ (N5 K E) 3 (Str.ofString "lines") _ _ _ _ _ _ rfl (Or.inl rfl) (by decide +kernel) (by decide +kernel) (B5 X5 P6 (j6 B.tuple rfl (aj1 (vL nb 9 rfl rfl rfl) rfl) rfl) (O2 (aj1 (vL nb 10 rfl rfl rfl) rfl))) rfl rfl rfl rfl rfl rfl))) (fun _ => rfl)))) (fun _ => rfl))
 exact A8 (C1 (vL nb 3 rfl rfl rfl))
theorem AMB : FnScope ABD ["line", "x", "y", "below"] (A6 AAF) := ⟨rfl, rfl, rfl, by decide +kernel, rfl, by decide +kernel, by decide +kernel⟩
include B  in
theorem APH (hr : Room 0 (cx P w K mg base ABD "is_near" AAF f cdv A outer s H E).A) : JSs (cx P w K mg base ABD "is_near" AAF f cdv A outer s H E) (N5 K E) (B8 AAF) AAD := by
 have nb : NB ABD := ⟨by decide +kernel, by decide +kernel⟩
 unfold AAD
 refine A4 ?_ ?_
 ·exact (y9 (vL nb 0 rfl rfl rfl) (K3 rfl (A9 (@B0 _ 4 (Str.ofString "from_x") _ nb.nd rfl (Or.inl rfl) (Or.inr rfl)) (A9 (@B0 _ 5 (Str.ofString "from_y") _ nb.nd rfl (Or.inl rfl) (Or.inr rfl)) (A9 (@B0 _ 6 (Str.ofString "to_x") _ nb.nd rfl (Or.inl rfl) (Or.inr rfl)) (A9 (@B0 _ 7 (Str.ofString "to_y") _ nb.nd rfl (Or.inl rfl) (Or.inr rfl)) (A9 (@B0 _ 8 (Str.ofString "reach") _ nb.nd rfl (Or.inl rfl) (Or.inr rfl)) (A9 (@B0 _ 9 (Str.ofString "unit") _ nb.nd rfl (Or.inl rfl) (Or.inr rfl)) E8 rfl) rfl) rfl) rfl) rfl) rfl) rfl rfl) rfl rfl rfl)
 refine A4 ?_ ?_
 ·exact (@AE3 _ _ 10 11 (Str.ofString "wide") (Str.ofString "high") _ _ _ _ _ _ _ _ _ _ rfl nb.nd rfl rfl (by decide) rfl rfl (aj2 (B5 B9 B6 (B5 v1 S7 (vL nb 6 rfl rfl rfl) (vL nb 4 rfl rfl rfl)) (vL nb 3 rfl rfl rfl)) (B5 B9 B6 (B5 v1 S7 (vL nb 7 rfl rfl rfl) (vL nb 5 rfl rfl rfl)) (vL nb 3 rfl rfl rfl)) rfl rfl) rfl rfl)
 refine A4 ?_ ?_
 ·exact (@AE3 _ _ 12 13 (Str.ofString "aside") (Str.ofString "above") _ _ _ _ _ _ _ _ _ _ rfl nb.nd rfl rfl (by decide) rfl rfl (aj2 (B5 v1 S7 (B5 B9 B6 (vL nb 1 rfl rfl rfl) (vL nb 9 rfl rfl rfl)) (B5 B9 B6 (vL nb 4 rfl rfl rfl) (vL nb 3 rfl rfl rfl))) (B5 v1 S7 (B5 B9 B6 (vL nb 2 rfl rfl rfl) (vL nb 9 rfl rfl rfl)) (B5 B9 B6 (vL nb 5 rfl rfl rfl) (vL nb 3 rfl rfl rfl))) rfl rfl) rfl rfl)
 refine A4 ?_ ?_
 ·exact (@G1 _ _ 14 (Str.ofString "most") _ _ _ _ nb.nd rfl (Or.inl rfl) (B5 ACR AAW (B5 B9 B6 (vL nb 8 rfl rfl rfl) (vL nb 3 rfl rfl rfl)) A7) (by kernel_rfl) (Or.inr rfl))
 refine A4 ?_ ?_
 ·exact (@G1 _ _ 15 (Str.ofString "length") _ _ _ _ nb.nd rfl (Or.inl rfl) (B5 op_addT E3 (B5 ACR AAW (vL nb 10 rfl rfl rfl) A7) (B5 ACR AAW (vL nb 11 rfl rfl rfl) A7)) (by kernel_rfl) (Or.inr rfl))
 refine A4 ?_ ?_
 ·exact (@G1 _ _ 16 (Str.ofString "along") _ _ _ _ nb.nd rfl (Or.inl rfl) (B5 op_addT E3 (B5 B9 B6 (vL nb 12 rfl rfl rfl) (vL nb 10 rfl rfl rfl)) (B5 B9 B6 (vL nb 13 rfl rfl rfl) (vL nb 11 rfl rfl rfl))) (by kernel_rfl) (Or.inr rfl))
 refine A4 ?_ ?_
 ·exact (N7 (J4 (ANF) AGC K0 (vL nb 16 rfl rfl rfl) A7 (D7 _)) (A8 (C1 (x2 (ANF) AGC (B5 op_addT E3 (B5 ACR AAW (vL nb 12 rfl rfl rfl) A7) (B5 ACR AAW (vL nb 13 rfl rfl rfl) A7)) (vL nb 14 rfl rfl rfl) (D7 _)))) D8)
 refine A4 ?_ ?_
 ·exact (N7 (J4 (AUO) AOD K0 (vL nb 16 rfl rfl rfl) (vL nb 15 rfl rfl rfl) (D7 _)) (A8 (C1 (x2 (ANF) AGC (B5 op_addT E3 (B5 ACR AAW (B5 v1 S7 (vL nb 12 rfl rfl rfl) (vL nb 10 rfl rfl rfl)) A7) (B5 ACR AAW (B5 v1 S7 (vL nb 13 rfl rfl rfl) (vL nb 11 rfl rfl rfl)) A7)) (vL nb 14 rfl rfl rfl) (D7 _)))) D8)
 exact A8 (C1 (x2 (ANF) AGC (B5 ACR AAW (B5 v1 S7 (B5 B9 B6 (vL nb 12 rfl rfl rfl) (vL nb 11 rfl rfl rfl)) (B5 B9 B6 (vL nb 13 rfl rfl rfl) (vL nb 10 rfl rfl rfl))) A7) (B5 B9 B6 (vL nb 14 rfl rfl rfl) (vL nb 15 rfl rfl rfl)) (D7 _)))
theorem AFW : FnScope U8 ["lines", "x", "y", "below"] (A6 Q1) := ⟨rfl, rfl, rfl, by decide +kernel, rfl, by decide +kernel, by decide +kernel⟩
include B D_is_near in
theorem AHA (hr : Room 1 (cx P w K mg base U8 "is_near_one" Q1 f cdv A outer s H E).A) : JSs (cx P w K mg base U8 "is_near_one" Q1 f cdv A outer s H E) (N5 K E) (B8 Q1) Q6 := by
 have nb : NB U8 := ⟨by decide +kernel, by decide +kernel⟩
 unfold Q6
 refine A4 ?_ ?_
 ·exact (AJJ .leaving rfl (AF9 (vL nb 0 rfl rfl rfl)) (@B0 _ 4 (Str.ofString "line") _ nb.nd rfl (Or.inl rfl) (Or.inr rfl)) (A8 (N7 (D5 (B3 D_is_near hr (by decide) B4 rfl (C3 (vL nb 4 rfl rfl rfl) (C3 (vL nb 1 rfl rfl rfl) (C3 (vL nb 2 rfl rfl rfl) (C3 (vL nb 3 rfl rfl rfl) w5 rfl) rfl) rfl) rfl) rfl rfl) (fun _ => rfl)) (A8 (C1 L3)) D8)) (fun _ => rfl))
 exact A8 (C1 L3)
theorem AER : FnScope R7 ["path", "width", "x", "y"] (A6 N4) := ⟨rfl, rfl, rfl, by decide +kernel, rfl, by decide +kernel, by decide +kernel⟩
include B D_in_units D_is_near_one D_is_width D_lines_drawn D_need_number D_need_path x_NoNumber in
theorem AFT (hr : Room 6 (cx P w K mg base R7 "is_on_stroke" N4 f cdv A outer s H E).A) : JSs (cx P w K mg base R7 "is_on_stroke" N4 f cdv A outer s H E) (N5 K E) (B8 N4) N3 := by
 have nb : NB R7 := ⟨by decide +kernel, by decide +kernel⟩
 unfold N3
 refine A4 ?_ ?_
 ·exact (AA2 (B3 D_need_path hr (by decide) B4 rfl (aj1 (vL nb 0 rfl rfl rfl) rfl) rfl rfl) rfl)
 refine A4 ?_ ?_
 ·exact (N7 (W8 (D5 (B3 D_is_width hr (by decide) B4 rfl (aj1 (vL nb 1 rfl rfl rfl) rfl) rfl rfl) (fun _ => rfl))) (A8 (AAC x_NoNumber rfl (aj1 (AAA (by decide +kernel)) rfl) rfl rfl)) D8)
 refine A4 ?_ ?_
 ·exact (AA2 (B3 D_need_number hr (by decide) B4 rfl (aj1 (vL nb 2 rfl rfl rfl) rfl) rfl rfl) rfl)
 refine A4 ?_ ?_
 ·exact (AA2 (B3 D_need_number hr (by decide) B4 rfl (aj1 (vL nb 3 rfl rfl rfl) rfl) rfl rfl) rfl)
 refine A4 ?_ ?_
 ·exact (y9 (B3 D_in_units hr (by decide) B4 rfl (aj1 (O2 (aj2 (vL nb 2 rfl rfl rfl) (vL nb 3 rfl rfl rfl) rfl rfl)) rfl) rfl rfl) (K3 rfl (A9 (AWU rfl (A9 (@B0 _ 4 (Str.ofString "across") _ nb.nd rfl (Or.inl rfl) (Or.inr rfl)) (A9 (@B0 _ 5 (Str.ofString "up") _ nb.nd rfl (Or.inl rfl) (Or.inr rfl)) E8 rfl) rfl) rfl rfl) (A9 (@B0 _ 6 (Str.ofString "below") _ nb.nd rfl (Or.inl rfl) (Or.inr rfl)) E8 rfl) rfl) rfl rfl) rfl rfl rfl)
 exact A8 (C1 (B3 D_is_near_one hr (by decide) B4 rfl (C3 (B3 D_lines_drawn hr (by decide) B4 rfl (aj2 (vL nb 0 rfl rfl rfl) (vL nb 1 rfl rfl rfl) rfl rfl) rfl rfl) (C3 (vL nb 4 rfl rfl rfl) (C3 (vL nb 5 rfl rfl rfl) (C3 (vL nb 6 rfl rfl rfl) w5 rfl) rfl) rfl) rfl) rfl rfl))
theorem AGV : FnScope e9 ["_law_script", "_law_at"] (A6 T9) := ⟨rfl, rfl, rfl, by decide +kernel, rfl, by decide +kernel, by decide +kernel⟩
include B D__law_drawn D__law_made in
theorem AI4 (hr : Room 2 (cx P w K mg base e9 "_law_point" T9 f cdv A outer s H E).A) : JSs (cx P w K mg base e9 "_law_point" T9 f cdv A outer s H E) (N5 K E) (B8 T9) T1 := by
 have nb : NB e9 := ⟨by decide +kernel, by decide +kernel⟩
 unfold T1
 refine A4 ?_ ?_
 ·refine (@G1 _ _ 2 (Str.ofString "_law_below") _ _ _ _ nb.nd rfl (Or.inl rfl) (J7 ?_ (B3 D__law_drawn hr (by decide) B4 rfl (aj3 (vL nb 0 rfl rfl rfl) (vL nb 1 rfl rfl rfl) A7 rfl rfl rfl) rfl rfl) (fun _ _ => rfl)) (by kernel_rfl) (Or.inr rfl))
  all_goals (refine y6 60 _ _ ?_; kernel_rfl)
 refine A4 ?_ ?_
 ·exact (@AE3 _ _ 3 4 (Str.ofString "_law_x") (Str.ofString "_law_y") _ _ _ _ _ _ _ _ _ _ rfl nb.nd rfl rfl (by decide) rfl rfl (aj2 (B3 D__law_drawn hr (by decide) B4 rfl (aj3 (vL nb 0 rfl rfl rfl) (B5 op_addT E3 (vL nb 1 rfl rfl rfl) A7) (B5 B9 B6 A7 (vL nb 2 rfl rfl rfl)) rfl rfl rfl) rfl rfl) (B3 D__law_drawn hr (by decide) B4 rfl (aj3 (vL nb 0 rfl rfl rfl) (B5 op_addT E3 (vL nb 1 rfl rfl rfl) A7) (B5 B9 B6 A7 (vL nb 2 rfl rfl rfl)) rfl rfl rfl) rfl rfl) rfl rfl) rfl rfl)
 exact A8 (C1 (O2 (aj2 (B3 D__law_made hr (by decide) B4 rfl (aj2 (B5 v1 S7 (vL nb 3 rfl rfl rfl) (vL nb 2 rfl rfl rfl)) (vL nb 2 rfl rfl rfl) rfl rfl) rfl rfl) (B3 D__law_made hr (by decide) B4 rfl (aj2 (B5 v1 S7 (vL nb 4 rfl rfl rfl) (vL nb 2 rfl rfl rfl)) (vL nb 2 rfl rfl rfl) rfl rfl) rfl rfl) rfl rfl)))
theorem AIZ : FnScope Y2 ["_law_script", "_law_at"] (A6 S6) := ⟨rfl, rfl, rfl, by decide +kernel, rfl, by decide +kernel, by decide +kernel⟩
include B D__law_drawn D__law_point in
theorem AKK (hr : Room 3 (cx P w K mg base Y2 "_law_part" S6 f cdv A outer s H E).A) : JSs (cx P w K mg base Y2 "_law_part" S6 f cdv A outer s H E) (N5 K E) (B8 S6) Y0 := by
 have nb : NB Y2 := ⟨by decide +kernel, by decide +kernel⟩
 unfold Y0
 refine A4 ?_ ?_
 ·exact (@G1 _ _ 2 (Str.ofString "_law_many") _ _ _ _ nb.nd rfl (Or.inl rfl) (B5 op_addT E3 A7 (B3 D__law_drawn hr (by decide) B4 rfl (aj3 (AFB nb 0 rfl rfl (Or.inr (Or.inl rfl))) (AFB nb 1 rfl rfl (Or.inr (Or.inl rfl))) A7 rfl rfl rfl) rfl rfl)) (by kernel_rfl) (Or.inr rfl))
 refine A4 ?_ ?_
 ·exact (@G1 _ _ 3 (Str.ofString "_law_points") _ _ _ _ nb.nd rfl (Or.inl rfl) (j6 B.tuple rfl (aj1 (have nb1 : NB ["_law_k", "_law_script", "_law_at"] := ⟨by decide +kernel, by decide +kernel⟩; E5 (so := A6 S6) (N := Y2) (Nc := ["_law_k", "_law_script", "_law_at"]) (sel := [none, some 0, some 1]) rfl rfl rfl (by decide +kernel) (C2 rfl) (ADD rfl B.range (aj1 (vL nb 2 rfl rfl rfl) rfl) rfl) (fun cl C s H fp => (@B0 _ 0 (Str.ofString "_law_k") _ nb1.nd rfl (Or.inl rfl) (Or.inr rfl))) (fun cl C s H fp => O8) (fun cl C s H fp => (B3 D__law_point hr (by decide) ACX rfl (aj2 (AFB nb1 1 rfl rfl (Or.inr (Or.inl rfl))) (B5 op_addT E3 (B5 op_addT E3 (AFB nb1 2 rfl rfl (Or.inr (Or.inl rfl))) A7) (B5 B9 B6 A7 (vL nb1 0 rfl rfl rfl))) rfl rfl) rfl rfl)) (fun _ => rfl)) rfl) rfl) (by kernel_rfl) (Or.inr rfl))
 exact A8 (C1 (O2 (aj2 (vL nb 3 rfl rfl rfl) (x2 (AGE hr.units) ADT (B3 D__law_drawn hr (by decide) B4 rfl (aj3 (AFB nb 0 rfl rfl (Or.inr (Or.inl rfl))) (B5 op_addT E3 (AFB nb 1 rfl rfl (Or.inr (Or.inl rfl))) A7) A7 rfl rfl rfl) rfl rfl) A7 (D7 _)) rfl rfl)))
theorem AJ3 : FnScope Y1 ["_law_script", "_law_at"] (A6 S3) := ⟨rfl, rfl, rfl, by decide +kernel, rfl, by decide +kernel, by decide +kernel⟩
include B D__law_drawn D__law_part in
theorem AKX (hr : Room 4 (cx P w K mg base Y1 "_law_path" S3 f cdv A outer s H E).A) : JSs (cx P w K mg base Y1 "_law_path" S3 f cdv A outer s H E) (N5 K E) (B8 S3) X1 := by
 have nb : NB Y1 := ⟨by decide +kernel, by decide +kernel⟩
 unfold X1
 exact A8 (C1 (j6 B.tuple rfl (aj1 (have nb1 : NB ["_law_k", "_law_script", "_law_at"] := ⟨by decide +kernel, by decide +kernel⟩; E5 (so := A6 S3) (N := Y1) (Nc := ["_law_k", "_law_script", "_law_at"]) (sel := [none, some 0, some 1]) rfl rfl rfl (by decide +kernel) (C2 rfl) (ADD rfl B.range (aj1 (B3 D__law_drawn hr (by decide) B4 rfl (aj3 (AFB nb 0 rfl rfl (Or.inr (Or.inl rfl))) (AFB nb 1 rfl rfl (Or.inr (Or.inl rfl))) A7 rfl rfl rfl) rfl rfl) rfl) rfl) (fun cl C s H fp => (@B0 _ 0 (Str.ofString "_law_k") _ nb1.nd rfl (Or.inl rfl) (Or.inr rfl))) (fun cl C s H fp => O8) (fun cl C s H fp => (B3 D__law_part hr (by decide) ACX rfl (aj2 (AFB nb1 1 rfl rfl (Or.inr (Or.inl rfl))) (B5 op_addT E3 (B5 op_addT E3 (AFB nb1 2 rfl rfl (Or.inr (Or.inl rfl))) A7) (B5 B9 B6 A7 (vL nb1 0 rfl rfl rfl))) rfl rfl) rfl rfl)) (fun _ => rfl)) rfl) rfl))
theorem AIU : FnScope w4 ["_law_one", "_law_other"] (A6 X2) := ⟨rfl, rfl, rfl, by decide +kernel, rfl, by decide +kernel, by decide +kernel⟩
include B  in
theorem AKG (hr : Room 0 (cx P w K mg base w4 "_law_less" X2 f cdv A outer s H E).A) : JSs (cx P w K mg base w4 "_law_less" X2 f cdv A outer s H E) (N5 K E) (B8 X2) AC6 := by
 have nb : NB w4 := ⟨by decide +kernel, by decide +kernel⟩
 unfold AC6
 exact A8 (C1 (x2 (AGY) ADB (B5 B9 B6 (J7 (vL nb 0 rfl rfl rfl) A7 (fun _ _ => rfl)) (J7 (vL nb 1 rfl rfl rfl) A7 (fun _ _ => rfl))) (B5 B9 B6 (J7 (vL nb 1 rfl rfl rfl) A7 (fun _ _ => rfl)) (J7 (vL nb 0 rfl rfl rfl) A7 (fun _ _ => rfl))) (D7 _)))
theorem AFM : FnScope R3 ["_law_path_here"] (A6 M8) := ⟨rfl, rfl, rfl, by decide +kernel, rfl, by decide +kernel, by decide +kernel⟩
include B  in
theorem AHE (hr : Room 0 (cx P w K mg base R3 "_law_behind" M8 f cdv A outer s H E).A) : JSs (cx P w K mg base R3 "_law_behind" M8 f cdv A outer s H E) (N5 K E) (B8 M8) P8 := by
 have nb : NB R3 := ⟨by decide +kernel, by decide +kernel⟩
 unfold P8
 exact A8 (C1 (j6 B.tuple rfl (aj1 (have nb1 : NB ["_law_points", "_law_is_closed"] := ⟨by decide +kernel, by decide +kernel⟩; E5 (so := A6 M8) (N := R3) (Nc := ["_law_points", "_law_is_closed"]) (sel := [none, none]) rfl rfl rfl (by decide +kernel) (W7 (fun g hg => by rcases List.mem_cons.mp hg with rfl | hg; exact (C2 rfl); rcases List.mem_cons.mp hg with rfl | hg; exact (C2 rfl); cases hg)) (AA6 (vL nb 0 rfl rfl rfl)) (fun cl C s H fp => (K3 rfl (A9 (@B0 _ 0 (Str.ofString "_law_points") _ nb1.nd rfl (Or.inl rfl) (Or.inr rfl)) (A9 (@B0 _ 1 (Str.ofString "_law_is_closed") _ nb1.nd rfl (Or.inl rfl) (Or.inr rfl)) E8 rfl) rfl) rfl rfl)) (fun cl C s H fp => O8) (fun cl C s H fp => (O2 (aj2 (AX6 (fun _ _ => rfl) (vL nb1 0 rfl rfl rfl) (ABH (AHN AD4 AB3 A7))) (vL nb1 1 rfl rfl rfl) rfl rfl))) (fun _ => rfl)) rfl) rfl))
theorem AHF : FnScope T7 ["_law_path_here"] (A6 O9) := ⟨rfl, rfl, rfl, by decide +kernel, rfl, by decide +kernel, by decide +kernel⟩
include B zz_enumerate D__law_plus D__law_times in
theorem AJH (hr : Room 3 (cx P w K mg base T7 "_law_finer" O9 f cdv A outer s H E).A) : JSs (cx P w K mg base T7 "_law_finer" O9 f cdv A outer s H E) (N5 K E) (B8 O9) T5 := by
 have nb : NB T7 := ⟨by decide +kernel, by decide +kernel⟩
 unfold T5
 refine @ACV _ _ 1 (Str.ofString "_law_found") _ _ _ _ _ _ _ nb.nd rfl (Or.inl rfl) (by kernel_rfl) (Or.inr rfl) ?_ ?_
 ·refine (AYO (Ek := N5 K E) .leaving rfl (AEX (vL nb 0 rfl rfl rfl)) (K3 rfl (A9 (@B0 _ 2 (Str.ofString "_law_points") _ nb.nd rfl (Or.inl rfl) (Or.inr rfl)) (A9 (@B0 _ 3 (Str.ofString "_law_is_closed") _ nb.nd rfl (Or.inl rfl) (Or.inr rfl)) E8 rfl) rfl) rfl rfl) (m8 (AAY (Ek := N5 K E) (@G1 _ _ 4 (Str.ofString "_law_row") _ _ _ _ nb.nd rfl (Or.inl rfl) (AG6 w5) (by kernel_rfl) (Or.inr rfl))) (m8 (AAY (Ek := N5 K E) (AJJ .leaving rfl (ASM true rfl zz_enumerate (aj1 (vL nb 2 rfl rfl rfl) rfl) rfl rfl) (K3 rfl (A9 (@B0 _ 5 (Str.ofString "_law_at") _ nb.nd rfl (Or.inl rfl) (Or.inr rfl)) (A9 (@B0 _ 6 (Str.ofString "_law_one") _ nb.nd rfl (Or.inr rfl) (Or.inl rfl)) E8 rfl) rfl) rfl rfl) (A4 (@G1 _ _ 7 (Str.ofString "_law_other") _ _ _ _ nb.nd rfl (Or.inr rfl) (J7 (vL nb 2 rfl rfl rfl) (B5 X9 Y9 (B5 op_addT E3 (vL nb 5 rfl rfl rfl) A7) (ACZ B.len rfl (aj1 (vL nb 2 rfl rfl rfl) rfl) rfl)) (fun _ _ => rfl)) (by kernel_rfl) (Or.inl rfl))
  (A4 (@G1 _ _ 8 (Str.ofString "_law_half") _ _ _ _ nb.nd rfl (Or.inl rfl) (j6 B.tuple rfl (aj1 (have nb1 : NB ["_law_k", "_law_one", "_law_other"] := ⟨by decide +kernel, by decide +kernel⟩; E5 (so := A6 O9) (N := T7) (Nc := ["_law_k", "_law_one", "_law_other"]) (sel := [none, some 6, some 7]) rfl rfl rfl (by decide +kernel) (C2 rfl) (ADD rfl B.range (aj1 A7 rfl) rfl) (fun cl C s H fp => (@B0 _ 0 (Str.ofString "_law_k") _ nb1.nd rfl (Or.inl rfl) (Or.inr rfl))) (fun cl C s H fp => O8) (fun cl C s H fp => (B3 D__law_times hr (by decide) ACX rfl (aj2 (B3 D__law_plus hr (by decide) ACX rfl (aj2 (J7 (AFB nb1 1 rfl rfl (Or.inr (Or.inl rfl))) (vL nb1 0 rfl rfl rfl) (fun _ _ => rfl)) (J7 (AFB nb1 2 rfl rfl (Or.inr (Or.inl rfl))) (vL nb1 0 rfl rfl rfl) (fun _ _ => rfl)) rfl rfl) rfl rfl) ?_ rfl rfl) rfl rfl)) (fun _ => rfl)) rfl) rfl) (by kernel_rfl) (Or.inr rfl))
  (A8 (@G1 _ _ 4 (Str.ofString "_law_row") _ _ _ _ nb.nd rfl (Or.inl rfl) (B5 op_addT E3 (vL nb 4 rfl rfl rfl) (AG6 (aj2 (AFB nb 6 rfl rfl (Or.inr (Or.inl rfl))) (vL nb 8 rfl rfl rfl) rfl rfl))) (by kernel_rfl) (Or.inr rfl))))) (fun _ => rfl))) (ADS (@AM4 _ (N5 K E) 1 (Str.ofString "_law_found") _ _ _ _ _ _ rfl (Or.inl rfl) (by decide +kernel) (by decide +kernel) (O2 (aj2 (j6 B.tuple rfl (aj1 (vL nb 4 rfl rfl rfl) rfl) rfl) (vL nb 3 rfl rfl rfl) rfl rfl)) rfl rfl rfl rfl rfl rfl)))) (fun _ => rfl))
  all_goals (refine y6 60 _ _ ?_; kernel_rfl)
 exact A8 (C1 (j6 B.tuple rfl (aj1 (vL nb 1 rfl rfl rfl) rfl) rfl))
theorem AFU : FnScope W4 ["_law_box", "_law_x", "_law_y"] (A6 Q0) := ⟨rfl, rfl, rfl, by decide +kernel, rfl, by decide +kernel, by decide +kernel⟩
include B D__law_less in
theorem AH5 (hr : Room 1 (cx P w K mg base W4 "_law_is_out" Q0 f cdv A outer s H E).A) : JSs (cx P w K mg base W4 "_law_is_out" Q0 f cdv A outer s H E) (N5 K E) (B8 Q0) J8 := by
 have nb : NB W4 := ⟨by decide +kernel, by decide +kernel⟩
 unfold J8
 refine A4 ?_ ?_
 ·exact (N7 (AJF (ADP (J4 (AJG) AEQ ACT (vL nb 0 rfl rfl rfl) i9 (D7 _)) (ADP (D5 (B3 D__law_less hr (by decide) B4 rfl (aj2 (vL nb 1 rfl rfl rfl) (J7 (vL nb 0 rfl rfl rfl) A7 (fun _ _ => rfl)) rfl rfl) rfl rfl) (fun _ => rfl)) (ABO (D5 (B3 D__law_less hr (by decide) B4 rfl (aj2 (J7 (vL nb 0 rfl rfl rfl) A7 (fun _ _ => rfl)) (vL nb 1 rfl rfl rfl) rfl rfl) rfl rfl) (fun _ => rfl)))))) (A8 (C1 L3)) D8)
 exact A8 (C1 (AZI (B3 D__law_less hr (by decide) B4 rfl (aj2 (vL nb 2 rfl rfl rfl) (J7 (vL nb 0 rfl rfl rfl) A7 (fun _ _ => rfl)) rfl rfl) rfl rfl) (AES (B3 D__law_less hr (by decide) B4 rfl (aj2 (J7 (vL nb 0 rfl rfl rfl) A7 (fun _ _ => rfl)) (vL nb 2 rfl rfl rfl) rfl rfl) rfl rfl))))
theorem AYI : FnScope AKA ["_law_script"] (A6 AEZ) := ⟨rfl, rfl, rfl, by decide +kernel, rfl, by decide +kernel, by decide +kernel⟩
include B D__law_behind D__law_finer D__law_is_out D__law_number D__law_path D__law_plus D__law_point D_box_of D_is_inside D_is_on_stroke D_moved_path D_quarter D_winding in
theorem AaE (hr : Room 8 (cx P w K mg base AKA "law" AEZ f cdv A outer s H E).A) : JSs (cx P w K mg base AKA "law" AEZ f cdv A outer s H E) (N5 K E) (B8 AEZ) ANE := by
 have nb : NB AKA := ⟨by decide +kernel, by decide +kernel⟩
 unfold ANE
 refine A4 ?_ ?_
 ·exact (@AE3 _ _ 1 2 (Str.ofString "_law_path_here") (Str.ofString "_law_more") _ _ _ _ _ _ _ _ _ _ rfl nb.nd rfl rfl (by decide) rfl rfl (aj2 (B3 D__law_path hr (by decide) B4 rfl (aj2 (vL nb 0 rfl rfl rfl) A7 rfl rfl) rfl rfl) (B3 D__law_path hr (by decide) B4 rfl (aj2 (vL nb 0 rfl rfl rfl) A7 rfl rfl) rfl rfl) rfl rfl) rfl rfl)
 refine A4 ?_ ?_
 ·refine (@G1 _ _ 3 (Str.ofString "_law_matrix") _ _ _ _ nb.nd rfl (Or.inl rfl) (O2 (C3 ?_ (C3 ?_ (C3 ?_ (C3 ?_ (C3 (B3 D__law_number hr (by decide) B4 rfl (aj2 (vL nb 0 rfl rfl rfl) A7 rfl rfl) rfl rfl) (C3 (B3 D__law_number hr (by decide) B4 rfl (aj2 (vL nb 0 rfl rfl rfl) A7 rfl rfl) rfl rfl) w5 rfl) rfl) rfl) rfl) rfl) rfl)) (by kernel_rfl) (Or.inr rfl))
  all_goals (refine y6 60 _ _ ?_; kernel_rfl)
 refine A4 ?_ ?_
 ·exact (@G1 _ _ 4 (Str.ofString "_law_other_start") _ _ _ _ nb.nd rfl (Or.inl rfl) (j6 B.tuple rfl (aj1 (have nb1 : NB ["_law_points", "_law_is_closed"] := ⟨by decide +kernel, by decide +kernel⟩; E5 (so := A6 AEZ) (N := AKA) (Nc := ["_law_points", "_law_is_closed"]) (sel := [none, none]) rfl rfl rfl (by decide +kernel) (W7 (fun g hg => by rcases List.mem_cons.mp hg with rfl | hg; exact (C2 rfl); rcases List.mem_cons.mp hg with rfl | hg; exact (C2 rfl); cases hg)) (AA6 (vL nb 1 rfl rfl rfl)) (fun cl C s H fp => (K3 rfl (A9 (@B0 _ 0 (Str.ofString "_law_points") _ nb1.nd rfl (Or.inl rfl) (Or.inr rfl)) (A9 (@B0 _ 1 (Str.ofString "_law_is_closed") _ nb1.nd rfl (Or.inl rfl) (Or.inr rfl)) E8 rfl) rfl) rfl rfl)) (fun cl C s H fp => O8) (fun cl C s H fp => (O2 (aj2 (B5 X5 P6 (AF5 (vL nb1 0 rfl rfl rfl) (ABH A7) AC8) (AF5 (vL nb1 0 rfl rfl rfl) AC8 (ABH A7))) (vL nb1 1 rfl rfl rfl) rfl rfl))) (fun _ => rfl)) rfl) rfl) (by kernel_rfl) (Or.inr rfl))
 refine A4 ?_ ?_
 ·refine (AJJ .leaving rfl (ADD rfl B.range (aj1 A7 rfl) rfl) (@B0 _ 5 (Str.ofString "_law_k") _ nb.nd rfl (Or.inl rfl) (Or.inr rfl)) (A4 (y9 (B3 D__law_point hr (by decide) B4 rfl (aj2 (vL nb 0 rfl rfl rfl) (B5 op_addT E3 A7 (B5 B9 B6 A7 (vL nb 5 rfl rfl rfl))) rfl rfl) rfl rfl) (K3 rfl (A9 (@B0 _ 6 (Str.ofString "_law_x") _ nb.nd rfl (Or.inl rfl) (Or.inr rfl)) (A9 (@B0 _ 7 (Str.ofString "_law_y") _ nb.nd rfl (Or.inl rfl) (Or.inr rfl)) E8 rfl) rfl) rfl rfl) rfl rfl rfl)
  (A4 (@G1 _ _ 8 (Str.ofString "_law_many") _ _ _ _ nb.nd rfl (Or.inl rfl) (B3 D_winding hr (by decide) B4 rfl (aj3 (vL nb 1 rfl rfl rfl) (vL nb 6 rfl rfl rfl) (vL nb 7 rfl rfl rfl) rfl rfl rfl) rfl rfl) (by kernel_rfl) (Or.inr rfl))
  (A4 (N7 (J4 (j7 hr.units) R5 M9 (B3 D_winding hr (by decide) B4 rfl (aj3 (B5 X5 P6 (vL nb 1 rfl rfl rfl) (vL nb 2 rfl rfl rfl)) (vL nb 6 rfl rfl rfl) (vL nb 7 rfl rfl rfl) rfl rfl rfl) rfl rfl) (B5 op_addT E3 (vL nb 8 rfl rfl rfl) (B3 D_winding hr (by decide) B4 rfl (aj3 (vL nb 2 rfl rfl rfl) (vL nb 6 rfl rfl rfl) (vL nb 7 rfl rfl rfl) rfl rfl rfl) rfl rfl)) (D7 _)) (A8 (C1 L3)) D8)
  (A4 (N7 (J4 (j7 hr.units) R5 M9 (B3 D_winding hr (by decide) B4 rfl (aj3 (B5 X5 P6 (vL nb 2 rfl rfl rfl) (vL nb 1 rfl rfl rfl)) (vL nb 6 rfl rfl rfl) (vL nb 7 rfl rfl rfl) rfl rfl rfl) rfl rfl) (B3 D_winding hr (by decide) B4 rfl (aj3 (B5 X5 P6 (vL nb 1 rfl rfl rfl) (vL nb 2 rfl rfl rfl)) (vL nb 6 rfl rfl rfl) (vL nb 7 rfl rfl rfl) rfl rfl rfl) rfl rfl) (D7 _)) (A8 (C1 L3)) D8)
  (A4 (@G1 _ _ 9 (Str.ofString "_law_on_line") _ _ _ _ nb.nd rfl (Or.inl rfl) (B3 D_is_on_stroke hr (by decide) B4 rfl (C3 (j6 B.tuple rfl (aj1 (have nb1 : NB ["_law_points", "_law_is_closed"] := ⟨by decide +kernel, by decide +kernel⟩; E5 (so := A6 AEZ) (N := AKA) (Nc := ["_law_points", "_law_is_closed"]) (sel := [none, none]) rfl rfl rfl (by decide +kernel) (W7 (fun g hg => by rcases List.mem_cons.mp hg with rfl | hg; exact (C2 rfl); rcases List.mem_cons.mp hg with rfl | hg; exact (C2 rfl); cases hg)) (AA6 (vL nb 1 rfl rfl rfl)) (fun cl C s H fp => (K3 rfl (A9 (@B0 _ 0 (Str.ofString "_law_points") _ nb1.nd rfl (Or.inl rfl) (Or.inr rfl)) (A9 (@B0 _ 1 (Str.ofString "_law_is_closed") _ nb1.nd rfl (Or.inl rfl) (Or.inr rfl)) E8 rfl) rfl) rfl rfl)) (fun cl C s H fp => O8) (fun cl C s H fp => (O2 (aj2 (vL nb1 0 rfl rfl rfl) L3 rfl rfl))) (fun _ => rfl)) rfl) rfl) (C3 ?_ (C3 (vL nb 6 rfl rfl rfl) (C3 (vL nb 7 rfl rfl rfl) w5 rfl) rfl) rfl) rfl) rfl rfl) (by kernel_rfl) (Or.inr rfl))
  (A4 (N7 (AJF (AGM (W8 (D5 (vL nb 9 rfl rfl rfl) (fun _ => rfl))) (ADG (J4 (j7 hr.units) R5 M9 (B3 D_winding hr (by decide) B4 rfl (aj3 (B3 D__law_behind hr (by decide) B4 rfl (aj1 (vL nb 1 rfl rfl rfl) rfl) rfl rfl) (vL nb 6 rfl rfl rfl) (vL nb 7 rfl rfl rfl) rfl rfl rfl) rfl rfl) (AHN AD4 AB3 (vL nb 8 rfl rfl rfl)) (D7 _))))) (A8 (C1 L3)) D8)
  (A4 (N7 (AJF (ADP (J4 (j7 hr.units) R5 M9 (B3 D_winding hr (by decide) B4 rfl (aj3 (B3 D__law_finer hr (by decide) B4 rfl (aj1 (vL nb 1 rfl rfl rfl) rfl) rfl rfl) (vL nb 6 rfl rfl rfl) (vL nb 7 rfl rfl rfl) rfl rfl rfl) rfl rfl) (vL nb 8 rfl rfl rfl) (D7 _)) (ABO (J4 (j7 hr.units) R5 M9 (B3 D_winding hr (by decide) B4 rfl (aj3 (vL nb 4 rfl rfl rfl) (vL nb 6 rfl rfl rfl) (vL nb 7 rfl rfl rfl) rfl rfl rfl) rfl rfl) (vL nb 8 rfl rfl rfl) (D7 _))))) (A8 (C1 L3)) D8)
  (A4 (@G1 _ _ 10 (Str.ofString "_law_shifted") _ _ _ _ nb.nd rfl (Or.inl rfl) (B3 D_moved_path hr (by decide) B4 rfl (aj2 (vL nb 1 rfl rfl rfl) (vL nb 3 rfl rfl rfl) rfl rfl) rfl rfl) (by kernel_rfl) (Or.inr rfl))
  (A4 (N7 (J4 (j7 hr.units) R5 M9 (B3 D_winding hr (by decide) B4 rfl (aj3 (vL nb 10 rfl rfl rfl) (B3 D__law_plus hr (by decide) B4 rfl (aj2 (vL nb 6 rfl rfl rfl) (J7 (vL nb 3 rfl rfl rfl) A7 (fun _ _ => rfl)) rfl rfl) rfl rfl) (B3 D__law_plus hr (by decide) B4 rfl (aj2 (vL nb 7 rfl rfl rfl) (J7 (vL nb 3 rfl rfl rfl) A7 (fun _ _ => rfl)) rfl rfl) rfl rfl) rfl rfl rfl) rfl rfl) (vL nb 8 rfl rfl rfl) (D7 _)) (A8 (C1 L3)) D8)
  (A4 (@G1 _ _ 11 (Str.ofString "_law_turned") _ _ _ _ nb.nd rfl (Or.inl rfl) (B3 D_moved_path hr (by decide) B4 rfl (aj2 (vL nb 1 rfl rfl rfl) (B3 D_quarter hr (by decide) B4 rfl (aj1 A7 rfl) rfl rfl) rfl rfl) rfl rfl) (by kernel_rfl) (Or.inr rfl))
  (A4 (N7 (AJF (AGM (W8 (D5 (vL nb 9 rfl rfl rfl) (fun _ => rfl))) (ADG (J4 (j7 hr.units) R5 M9 (B3 D_winding hr (by decide) B4 rfl (aj3 (vL nb 11 rfl rfl rfl) (O2 (aj2 (AHN AD4 AB3 (J7 (vL nb 6 rfl rfl rfl) A7 (fun _ _ => rfl))) (J7 (vL nb 6 rfl rfl rfl) A7 (fun _ _ => rfl)) rfl rfl)) (O2 (aj2 (AHN AD4 AB3 (J7 (vL nb 7 rfl rfl rfl) A7 (fun _ _ => rfl))) (J7 (vL nb 7 rfl rfl rfl) A7 (fun _ _ => rfl)) rfl rfl)) rfl rfl rfl) rfl rfl) (vL nb 8 rfl rfl rfl) (D7 _))))) (A8 (C1 L3)) D8)
  (A4 (N7 (D5 (B3 D_is_inside hr (by decide) B4 rfl (C3 (B5 X5 P6 (vL nb 1 rfl rfl rfl) (vL nb 1 rfl rfl rfl)) (C3 (AAA (by decide +kernel)) (C3 (vL nb 6 rfl rfl rfl) (C3 (vL nb 7 rfl rfl rfl) w5 rfl) rfl) rfl) rfl) rfl rfl) (fun _ => rfl)) (A8 (C1 L3)) D8)
  (A4 (N7 (J4 (j7 hr.units) R5 M9 (B3 D_is_inside hr (by decide) B4 rfl (C3 (B5 X5 P6 (vL nb 1 rfl rfl rfl) (vL nb 1 rfl rfl rfl)) (C3 (AAA (by decide +kernel)) (C3 (vL nb 6 rfl rfl rfl) (C3 (vL nb 7 rfl rfl rfl) w5 rfl) rfl) rfl) rfl) rfl rfl) (B3 D_is_inside hr (by decide) B4 rfl (C3 (vL nb 1 rfl rfl rfl) (C3 (AAA (by decide +kernel)) (C3 (vL nb 6 rfl rfl rfl) (C3 (vL nb 7 rfl rfl rfl) w5 rfl) rfl) rfl) rfl) rfl rfl) (D7 _)) (A8 (C1 L3)) D8)
  (A4 (N7 (AJF (AGM (D5 (B3 D_is_inside hr (by decide) B4 rfl (C3 (vL nb 1 rfl rfl rfl) (C3 (AAA (by decide +kernel)) (C3 (vL nb 6 rfl rfl rfl) (C3 (vL nb 7 rfl rfl rfl) w5 rfl) rfl) rfl) rfl) rfl rfl) (fun _ => rfl)) (ADG (W8 (D5 (B3 D_is_inside hr (by decide) B4 rfl (C3 (vL nb 1 rfl rfl rfl) (C3 (AAA (by decide +kernel)) (C3 (vL nb 6 rfl rfl rfl) (C3 (vL nb 7 rfl rfl rfl) w5 rfl) rfl) rfl) rfl) rfl rfl) (fun _ => rfl)))))) (A8 (C1 L3)) D8)
  (A8 (N7 (AJF (AGM (J4 (j7 hr.units) R5 M9 (vL nb 8 rfl rfl rfl) A7 (D7 _)) (ADG (D5 (B3 D__law_is_out hr (by decide) B4 rfl (aj3 (B3 D_box_of hr (by decide) B4 rfl (aj1 (vL nb 1 rfl rfl rfl) rfl) rfl rfl) (vL nb 6 rfl rfl rfl) (vL nb 7 rfl rfl rfl) rfl rfl rfl) rfl rfl) (fun _ => rfl))))) (A8 (C1 L3)) D8)))))))))))))))) (fun _ => rfl))
  all_goals (refine y6 60 _ _ ?_; kernel_rfl)
 refine A8 (C1 (x2 (AGE hr.units) ADT (B3 D_winding hr (by decide) B4 rfl (aj3 (O2 w5) ?_ ?_ rfl rfl rfl) rfl rfl) A7 (D7 _)))
 all_goals (refine y6 60 _ _ ?_; kernel_rfl)
end
end Kw
end
section
namespace Kw
open PySem hiding start
open PyProof.Rows hiding St
open L2 PySem.Spec Tr PySem.NumText
theorem AJ7 : ∀ (ts : List T) (c : Str) (fs : List (Str × T)), N2 ts = .ex c fs → fs = [] := by
 intro ts c fs h
 unfold N2 at h
 split at h <;> first | cases h | (split at h <;> cases h)
theorem AB8 : ∀ (ts : List T) (c : Str) (fs : List (Str × T)), C5 ts = .ex c fs → fs = [] := by
 intro ts c fs h
 unfold C5 at h
 split at h <;> first | cases h | (split at h <;> cases h)
theorem AIK : ∀ (ts : List T) (c : Str) (fs : List (Str × T)), L9 ts = .ex c fs → fs = [] := by
 intro ts c fs h
 unfold L9 at h
 split at h <;> first | cases h | (split at h <;> cases h)
theorem AH7 : ∀ (ts : List T) (c : Str) (fs : List (Str × T)), E4 ts = .ex c fs → fs = [] := fun ts _ _ e => AUL (AH0 ts) e
theorem AN4 : ∀ (ts : List T) (c : Str) (fs : List (Str × T)), R9 ts = .ex c fs → fs = [] := by
 intro ts c fs h
 unfold R9 at h
 split at h <;> first | cases h | (split at h <;> cases h)
theorem AFG : ∀ (ts : List T) (c : Str) (fs : List (Str × T)), K8 ts = .ex c fs → fs = [] := AB8
theorem all_mk {l : PySem.W.OpenLaw} {w : World} {K : PySem.W.Frag} {h : Heap} {mg : Str → Option Value} {fa : Addr} (X : K.In h) (G : h.Ns mainGlobals mg) (hfa : mg "law" = some (.ref fa))
   {C_NoMatrix : Addr} {C_NoNumber : Addr} {C_NoPath : Addr} {C_NoRule : Addr}
  (q0 : FnX K "is_whole" t7)
  (q1 : FnX K "common_part" P3)
  (q2 : FnX K "is_short" t6)
  (q3 : FnX K "is_number" X4)
  (q4 : FnX K "lowest" ABQ)
  (q5 : FnX K "need_number" P0)
  (q6 : FnX K "_law_drawn" U0)
  (q7 : FnX K "_law_common" P9)
  (q8 : FnX K "_law_made" X7)
  (q9 : FnX K "plus" AGS)
  (q10 : FnX K "times" ADJ)
  (q11 : FnX K "is_matrix" S5)
  (q12 : FnX K "need_matrix" Q3)
  (q13 : FnX K "all_told" Z5)
  (q14 : FnX K "moved" ADM)
  (q15 : FnX K "quarter" u9)
  (q16 : FnX K "_law_number" Q7)
  (q17 : FnX K "_law_plus" Y8)
  (q18 : FnX K "_law_times" T4)
  (q19 : FnX K "is_less" AAQ)
  (q20 : FnX K "in_units" X3)
  (q21 : FnX K "is_point" u6)
  (q22 : FnX K "is_part" w6)
  (q23 : FnX K "is_path" x0)
  (q24 : FnX K "need_path" Z0)
  (q25 : FnX K "moved_part" O1)
  (q26 : FnX K "moved_path" O7)
  (q27 : FnX K "ends_of" AAG)
  (q28 : FnX K "box_of" j9)
  (q29 : FnX K "is_rule" u7)
  (q30 : FnX K "is_width" t5)
  (q31 : FnX K "lines_round" P7)
  (q32 : FnX K "crossings" Z6)
  (q33 : FnX K "turns" ACD)
  (q34 : FnX K "is_in" ADY)
  (q35 : FnX K "winding" AA9)
  (q36 : FnX K "is_inside" Z4)
  (q37 : FnX K "lines_drawn" P1)
  (q38 : FnX K "is_near" AAF)
  (q39 : FnX K "is_near_one" Q1)
  (q40 : FnX K "is_on_stroke" N4)
  (q41 : FnX K "_law_point" T9)
  (q42 : FnX K "_law_part" S6)
  (q43 : FnX K "_law_path" S3)
  (q44 : FnX K "_law_less" X2)
  (q45 : FnX K "_law_behind" M8)
  (q46 : FnX K "_law_finer" O9)
  (q47 : FnX K "_law_is_out" Q0)
  (q48 : FnX K "law" AEZ)
  (z_len : PySem.W.nsIn K mainGlobals "len" = some none)
  (z_abs : PySem.W.nsIn K mainGlobals "abs" = some none)
  (z_str : PySem.W.nsIn K mainGlobals "str" = some none)
  (z_int : PySem.W.nsIn K mainGlobals "int" = some none)
  (z_bool : PySem.W.nsIn K mainGlobals "bool" = some none)
  (z_tuple : PySem.W.nsIn K mainGlobals "tuple" = some none)
  (z_list : PySem.W.nsIn K mainGlobals "list" = some none)
  (z_range : PySem.W.nsIn K mainGlobals "range" = some none)
  (z_isinstance : PySem.W.nsIn K mainGlobals "isinstance" = some none)
  (z_all : PySem.W.nsIn K mainGlobals "all" = some none)
  (z_max : PySem.W.nsIn K mainGlobals "max" = some none)
  (z_sum : PySem.W.nsIn K mainGlobals "sum" = some none)
  (z_zip : PySem.W.nsIn K mainGlobals "zip" = some none)
  (z_enumerate : PySem.W.nsIn K mainGlobals "enumerate" = some none)
  {tk_TOO_GREAT : Tok} (q_TOO_GREAT : PySem.W.nsIn K mainGlobals "TOO_GREAT" = some (some (.int 10000000000000000000000000000000000000000 tk_TOO_GREAT)))
  {ta_QUARTERS0 : Addr} {td_QUARTERS0 : Option Addr} {tn_QUARTERS0 : Nat} {ts_QUARTERS0 : Array (Option Value)} {ta_QUARTERS1 : Addr} {td_QUARTERS1 : Option Addr} {tn_QUARTERS1 : Nat} {ts_QUARTERS1 : Array (Option Value)} {tt_QUARTERS1_0 : Tok} {tt_QUARTERS1_1 : Tok} {tt_QUARTERS1_2 : Tok} {tt_QUARTERS1_3 : Tok} {tt_QUARTERS1_4 : Tok} {tt_QUARTERS1_5 : Tok} {ta_QUARTERS2 : Addr} {td_QUARTERS2 : Option Addr} {tn_QUARTERS2 : Nat} {ts_QUARTERS2 : Array (Option Value)} {tt_QUARTERS2_0 : Tok} {tt_QUARTERS2_1 : Tok} {tt_QUARTERS2_2 : Tok} {tt_QUARTERS2_3 : Tok} {tt_QUARTERS2_4 : Tok} {tt_QUARTERS2_5 : Tok} {ta_QUARTERS3 : Addr} {td_QUARTERS3 : Option Addr} {tn_QUARTERS3 : Nat} {ts_QUARTERS3 : Array (Option Value)} {tt_QUARTERS3_0 : Tok} {tt_QUARTERS3_1 : Tok} {tt_QUARTERS3_2 : Tok} {tt_QUARTERS3_3 : Tok} {tt_QUARTERS3_4 : Tok} {tt_QUARTERS3_5 : Tok} {ta_QUARTERS4 : Addr} {td_QUARTERS4 : Option Addr} {tn_QUARTERS4 : Nat} {ts_QUARTERS4 : Array (Option Value)} {tt_QUARTERS4_0 : Tok} {tt_QUARTERS4_1 : Tok} {tt_QUARTERS4_2 : Tok} {tt_QUARTERS4_3 : Tok} {tt_QUARTERS4_4 : Tok} {tt_QUARTERS4_5 : Tok} (q_QUARTERS : PySem.W.nsIn K mainGlobals "QUARTERS" = some (some (.ref ta_QUARTERS0)))
  (tl_QUARTERS0 : K.lookup ta_QUARTERS0 = some ⟨.type "tuple", td_QUARTERS0, .seq #[.ref ta_QUARTERS1, .ref ta_QUARTERS2, .ref ta_QUARTERS3, .ref ta_QUARTERS4] tn_QUARTERS0, ts_QUARTERS0⟩)
  (tl_QUARTERS1 : K.lookup ta_QUARTERS1 = some ⟨.type "tuple", td_QUARTERS1, .seq #[.int 1 tt_QUARTERS1_0, .int 0 tt_QUARTERS1_1, .int 0 tt_QUARTERS1_2, .int 1 tt_QUARTERS1_3, .int 0 tt_QUARTERS1_4, .int 0 tt_QUARTERS1_5] tn_QUARTERS1, ts_QUARTERS1⟩)
  (tl_QUARTERS2 : K.lookup ta_QUARTERS2 = some ⟨.type "tuple", td_QUARTERS2, .seq #[.int 0 tt_QUARTERS2_0, .int 1 tt_QUARTERS2_1, .int (-1) tt_QUARTERS2_2, .int 0 tt_QUARTERS2_3, .int 0 tt_QUARTERS2_4, .int 0 tt_QUARTERS2_5] tn_QUARTERS2, ts_QUARTERS2⟩)
  (tl_QUARTERS3 : K.lookup ta_QUARTERS3 = some ⟨.type "tuple", td_QUARTERS3, .seq #[.int (-1) tt_QUARTERS3_0, .int 0 tt_QUARTERS3_1, .int 0 tt_QUARTERS3_2, .int (-1) tt_QUARTERS3_3, .int 0 tt_QUARTERS3_4, .int 0 tt_QUARTERS3_5] tn_QUARTERS3, ts_QUARTERS3⟩)
  (tl_QUARTERS4 : K.lookup ta_QUARTERS4 = some ⟨.type "tuple", td_QUARTERS4, .seq #[.int 0 tt_QUARTERS4_0, .int (-1) tt_QUARTERS4_1, .int 1 tt_QUARTERS4_2, .int 0 tt_QUARTERS4_3, .int 0 tt_QUARTERS4_4, .int 0 tt_QUARTERS4_5] tn_QUARTERS4, ts_QUARTERS4⟩)
  {ta_RULES0 : Addr} {td_RULES0 : Option Addr} {tn_RULES0 : Nat} {ts_RULES0 : Array (Option Value)} {tt_RULES0_0 : Tok} {tt_RULES0_1 : Tok} (q_RULES : PySem.W.nsIn K mainGlobals "RULES" = some (some (.ref ta_RULES0)))
  (tl_RULES0 : K.lookup ta_RULES0 = some ⟨.type "tuple", td_RULES0, .seq #[.str "whole" tt_RULES0_0, .str "odd" tt_RULES0_1] tn_RULES0, ts_RULES0⟩)
  (n_NoMatrix : PySem.W.nsIn K mainGlobals "NoMatrix" = some (some (.ref C_NoMatrix)))
  (n_NoNumber : PySem.W.nsIn K mainGlobals "NoNumber" = some (some (.ref C_NoNumber)))
  (n_NoPath : PySem.W.nsIn K mainGlobals "NoPath" = some (some (.ref C_NoPath)))
  (n_NoRule : PySem.W.nsIn K mainGlobals "NoRule" = some (some (.ref C_NoRule)))
  (xi_NoMatrix : AW5 K C_NoMatrix = true)
  (xi_NoNumber : AW5 K C_NoNumber = true)
  (xi_NoPath : AW5 K C_NoPath = true)
  (xi_NoRule : AW5 K C_NoRule = true) :
  ∃ fd : FuncData, (∀ (s : Shared) (v : Value), BindsTo s fd ⟨[v], []⟩ [("_law_script", v)]) ∧ ∀ base : Heap, K.In base → base.Ns mainGlobals mg → FnOk l.prog w K mg base CX0 9 fa fd ["_law_script"] (fun vs H Q _ => spM K 1 API vs H Q fun _ _ _ => False) := by
 obtain ⟨f0, od0, an0, sl0, oc0, kV0, dc0, pm0, cd0, ct0, a0, l0, c0, k0⟩ := q0
 obtain ⟨f1, od1, an1, sl1, oc1, kV1, dc1, pm1, cd1, ct1, a1, l1, c1, k1⟩ := q1
 obtain ⟨f2, od2, an2, sl2, oc2, kV2, dc2, pm2, cd2, ct2, a2, l2, c2, k2⟩ := q2
 obtain ⟨f3, od3, an3, sl3, oc3, kV3, dc3, pm3, cd3, ct3, a3, l3, c3, k3⟩ := q3
 obtain ⟨f4, od4, an4, sl4, oc4, kV4, dc4, pm4, cd4, ct4, a4, l4, c4, k4⟩ := q4
 obtain ⟨f5, od5, an5, sl5, oc5, kV5, dc5, pm5, cd5, ct5, a5, l5, c5, k5⟩ := q5
 obtain ⟨f6, od6, an6, sl6, oc6, kV6, dc6, pm6, cd6, ct6, a6, l6, c6, k6⟩ := q6
 obtain ⟨f7, od7, an7, sl7, oc7, kV7, dc7, pm7, cd7, ct7, a7, l7, c7, k7⟩ := q7
 obtain ⟨f8, od8, an8, sl8, oc8, kV8, dc8, pm8, cd8, ct8, a8, l8, c8, k8⟩ := q8
 obtain ⟨f9, od9, an9, sl9, oc9, kV9, dc9, pm9, cd9, ct9, a9, l9, c9, k9⟩ := q9
 obtain ⟨f10, od10, an10, sl10, oc10, kV10, dc10, pm10, cd10, ct10, a10, l10, c10, k10⟩ := q10
 obtain ⟨f11, od11, an11, sl11, oc11, kV11, dc11, pm11, cd11, ct11, a11, l11, c11, k11⟩ := q11
 obtain ⟨f12, od12, an12, sl12, oc12, kV12, dc12, pm12, cd12, ct12, a12, l12, c12, k12⟩ := q12
 obtain ⟨f13, od13, an13, sl13, oc13, kV13, dc13, pm13, cd13, ct13, a13, l13, c13, k13⟩ := q13
 obtain ⟨f14, od14, an14, sl14, oc14, kV14, dc14, pm14, cd14, ct14, a14, l14, c14, k14⟩ := q14
 obtain ⟨f15, od15, an15, sl15, oc15, kV15, dc15, pm15, cd15, ct15, a15, l15, c15, k15⟩ := q15
 obtain ⟨f16, od16, an16, sl16, oc16, kV16, dc16, pm16, cd16, ct16, a16, l16, c16, k16⟩ := q16
 obtain ⟨f17, od17, an17, sl17, oc17, kV17, dc17, pm17, cd17, ct17, a17, l17, c17, k17⟩ := q17
 obtain ⟨f18, od18, an18, sl18, oc18, kV18, dc18, pm18, cd18, ct18, a18, l18, c18, k18⟩ := q18
 obtain ⟨f19, od19, an19, sl19, oc19, kV19, dc19, pm19, cd19, ct19, a19, l19, c19, k19⟩ := q19
 obtain ⟨f20, od20, an20, sl20, oc20, kV20, dc20, pm20, cd20, ct20, a20, l20, c20, k20⟩ := q20
 obtain ⟨f21, od21, an21, sl21, oc21, kV21, dc21, pm21, cd21, ct21, a21, l21, c21, k21⟩ := q21
 obtain ⟨f22, od22, an22, sl22, oc22, kV22, dc22, pm22, cd22, ct22, a22, l22, c22, k22⟩ := q22
 obtain ⟨f23, od23, an23, sl23, oc23, kV23, dc23, pm23, cd23, ct23, a23, l23, c23, k23⟩ := q23
 obtain ⟨f24, od24, an24, sl24, oc24, kV24, dc24, pm24, cd24, ct24, a24, l24, c24, k24⟩ := q24
 obtain ⟨f25, od25, an25, sl25, oc25, kV25, dc25, pm25, cd25, ct25, a25, l25, c25, k25⟩ := q25
 obtain ⟨f26, od26, an26, sl26, oc26, kV26, dc26, pm26, cd26, ct26, a26, l26, c26, k26⟩ := q26
 obtain ⟨f27, od27, an27, sl27, oc27, kV27, dc27, pm27, cd27, ct27, a27, l27, c27, k27⟩ := q27
 obtain ⟨f28, od28, an28, sl28, oc28, kV28, dc28, pm28, cd28, ct28, a28, l28, c28, k28⟩ := q28
 obtain ⟨f29, od29, an29, sl29, oc29, kV29, dc29, pm29, cd29, ct29, a29, l29, c29, k29⟩ := q29
 obtain ⟨f30, od30, an30, sl30, oc30, kV30, dc30, pm30, cd30, ct30, a30, l30, c30, k30⟩ := q30
 obtain ⟨f31, od31, an31, sl31, oc31, kV31, dc31, pm31, cd31, ct31, a31, l31, c31, k31⟩ := q31
 obtain ⟨f32, od32, an32, sl32, oc32, kV32, dc32, pm32, cd32, ct32, a32, l32, c32, k32⟩ := q32
 obtain ⟨f33, od33, an33, sl33, oc33, kV33, dc33, pm33, cd33, ct33, a33, l33, c33, k33⟩ := q33
 obtain ⟨f34, od34, an34, sl34, oc34, kV34, dc34, pm34, cd34, ct34, a34, l34, c34, k34⟩ := q34
 obtain ⟨f35, od35, an35, sl35, oc35, kV35, dc35, pm35, cd35, ct35, a35, l35, c35, k35⟩ := q35
 obtain ⟨f36, od36, an36, sl36, oc36, kV36, dc36, pm36, cd36, ct36, a36, l36, c36, k36⟩ := q36
 obtain ⟨f37, od37, an37, sl37, oc37, kV37, dc37, pm37, cd37, ct37, a37, l37, c37, k37⟩ := q37
 obtain ⟨f38, od38, an38, sl38, oc38, kV38, dc38, pm38, cd38, ct38, a38, l38, c38, k38⟩ := q38
 obtain ⟨f39, od39, an39, sl39, oc39, kV39, dc39, pm39, cd39, ct39, a39, l39, c39, k39⟩ := q39
 obtain ⟨f40, od40, an40, sl40, oc40, kV40, dc40, pm40, cd40, ct40, a40, l40, c40, k40⟩ := q40
 obtain ⟨f41, od41, an41, sl41, oc41, kV41, dc41, pm41, cd41, ct41, a41, l41, c41, k41⟩ := q41
 obtain ⟨f42, od42, an42, sl42, oc42, kV42, dc42, pm42, cd42, ct42, a42, l42, c42, k42⟩ := q42
 obtain ⟨f43, od43, an43, sl43, oc43, kV43, dc43, pm43, cd43, ct43, a43, l43, c43, k43⟩ := q43
 obtain ⟨f44, od44, an44, sl44, oc44, kV44, dc44, pm44, cd44, ct44, a44, l44, c44, k44⟩ := q44
 obtain ⟨f45, od45, an45, sl45, oc45, kV45, dc45, pm45, cd45, ct45, a45, l45, c45, k45⟩ := q45
 obtain ⟨f46, od46, an46, sl46, oc46, kV46, dc46, pm46, cd46, ct46, a46, l46, c46, k46⟩ := q46
 obtain ⟨f47, od47, an47, sl47, oc47, kV47, dc47, pm47, cd47, ct47, a47, l47, c47, k47⟩ := q47
 obtain ⟨f48, od48, an48, sl48, oc48, kV48, dc48, pm48, cd48, ct48, a48, l48, c48, k48⟩ := q48
 have e := hfa.symm.trans (PySem.W.mg_of X G a48)
 cases e
 have B : Blt mg := ⟨PySem.W.mg_none_of X G z_len, PySem.W.mg_none_of X G z_abs, PySem.W.mg_none_of X G z_str, PySem.W.mg_none_of X G z_int, PySem.W.mg_none_of X G z_bool, PySem.W.mg_none_of X G z_tuple, PySem.W.mg_none_of X G z_list, PySem.W.mg_none_of X G z_range, PySem.W.mg_none_of X G z_isinstance, PySem.W.mg_none_of X G z_all, PySem.W.mg_none_of X G z_max, PySem.W.mg_none_of X G z_sum, PySem.W.mg_none_of X G z_zip⟩
 have zz_enumerate := PySem.W.mg_none_of X G z_enumerate
 have g_TOO_GREAT : GlobC K mg "TOO_GREAT" Z3 := ⟨⟨_, .int 10000000000000000000000000000000000000000, PySem.W.mg_of X G q_TOO_GREAT, ⟨_, rfl⟩, fun H => (by unfold Z3; rw [J5]; exact D3)⟩, by decide +kernel⟩
 have g_QUARTERS : GlobC K mg "QUARTERS" X6 := ⟨⟨_, .ref ta_QUARTERS0, PySem.W.mg_of X G q_QUARTERS, rfl, fun H => (ABV (vs := [.ref ta_QUARTERS1, .ref ta_QUARTERS2, .ref ta_QUARTERS3, .ref ta_QUARTERS4]) tl_QUARTERS0 (show 4 ≤ sizeLine by decide) (.cons rfl (.cons rfl (.cons rfl (.cons rfl .nil)))) (B7 (ABV (vs := [.int 1, .int 0, .int 0, .int 1, .int 0, .int 0]) tl_QUARTERS1 (show 6 ≤ sizeLine by decide) (.cons ⟨_, rfl⟩ (.cons ⟨_, rfl⟩ (.cons ⟨_, rfl⟩ (.cons ⟨_, rfl⟩ (.cons ⟨_, rfl⟩ (.cons ⟨_, rfl⟩ .nil)))))) (B7 D3 (B7 D3 (B7 D3 (B7 D3 (B7 D3 (B7 D3 G6))))))) (B7 (ABV (vs := [.int 0, .int 1, .int (-1), .int 0, .int 0, .int 0]) tl_QUARTERS2 (show 6 ≤ sizeLine by decide) (.cons ⟨_, rfl⟩ (.cons ⟨_, rfl⟩ (.cons ⟨_, rfl⟩ (.cons ⟨_, rfl⟩ (.cons ⟨_, rfl⟩ (.cons ⟨_, rfl⟩ .nil)))))) (B7 D3 (B7 D3 (B7 D3 (B7 D3 (B7 D3 (B7 D3 G6))))))) (B7 (ABV (vs := [.int (-1), .int 0, .int 0, .int (-1), .int 0, .int 0]) tl_QUARTERS3 (show 6 ≤ sizeLine by decide) (.cons ⟨_, rfl⟩ (.cons ⟨_, rfl⟩ (.cons ⟨_, rfl⟩ (.cons ⟨_, rfl⟩ (.cons ⟨_, rfl⟩ (.cons ⟨_, rfl⟩ .nil)))))) (B7 D3 (B7 D3 (B7 D3 (B7 D3 (B7 D3 (B7 D3 G6))))))) (B7 (ABV (vs := [.int 0, .int (-1), .int 1, .int 0, .int 0, .int 0]) tl_QUARTERS4 (show 6 ≤ sizeLine by decide) (.cons ⟨_, rfl⟩ (.cons ⟨_, rfl⟩ (.cons ⟨_, rfl⟩ (.cons ⟨_, rfl⟩ (.cons ⟨_, rfl⟩ (.cons ⟨_, rfl⟩ .nil)))))) (B7 D3 (B7 D3 (B7 D3 (B7 D3 (B7 D3 (B7 D3 G6))))))) G6)))))⟩, by decide +kernel⟩
 have g_RULES : GlobC K mg "RULES" AKJ := ⟨⟨_, .ref ta_RULES0, PySem.W.mg_of X G q_RULES, rfl, fun H => (ABV (vs := [.str "whole", .str "odd"]) tl_RULES0 (show 2 ≤ sizeLine by decide) (.cons ⟨_, rfl⟩ (.cons ⟨_, rfl⟩ .nil)) (B7 (ADE (by decide +kernel)) (B7 (ADE (by decide +kernel)) G6)))⟩, by decide +kernel⟩
 have x_NoMatrix : ErrK K mg "NoMatrix" := AHS X G n_NoMatrix xi_NoMatrix (by decide +kernel)
 have x_NoNumber : ErrK K mg "NoNumber" := AHS X G n_NoNumber xi_NoNumber (by decide +kernel)
 have x_NoPath : ErrK K mg "NoPath" := AHS X G n_NoPath xi_NoPath (by decide +kernel)
 have x_NoRule : ErrK K mg "NoRule" := AHS X G n_NoRule xi_NoRule (by decide +kernel)
 have F0 := D6 (st := t7) l0 c0 k0
 have b0 := F0.binds (ps := ["thing"]) fun _ _ _ _ _ _ => AGT fun _ => rfl
 have F1 := D6 (st := P3) l1 c1 k1
 have b1 := F1.binds (ps := ["one", "other"]) fun _ _ _ _ _ _ => AFR fun _ _ => rfl
 have F2 := D6 (st := t6) l2 c2 k2
 have b2 := F2.binds (ps := ["top", "below"]) fun _ _ _ _ _ _ => AFR fun _ _ => rfl
 have F3 := D6 (st := X4) l3 c3 k3
 have b3 := F3.binds (ps := ["thing"]) fun _ _ _ _ _ _ => AGT fun _ => rfl
 have F4 := D6 (st := ABQ) l4 c4 k4
 have b4 := F4.binds (ps := ["top", "below"]) fun _ _ _ _ _ _ => AFR fun _ _ => rfl
 have F5 := D6 (st := P0) l5 c5 k5
 have b5 := F5.binds (ps := ["thing"]) fun _ _ _ _ _ _ => AGT fun _ => rfl
 have F6 := D6 (st := U0) l6 c6 k6
 have b6 := F6.binds (ps := ["_law_script", "_law_k", "_law_many"]) fun _ _ _ _ _ _ => AZ6 fun _ _ _ => rfl
 have F7 := D6 (st := P9) l7 c7 k7
 have b7 := F7.binds (ps := ["_law_one", "_law_other"]) fun _ _ _ _ _ _ => AFR fun _ _ => rfl
 have F8 := D6 (st := X7) l8 c8 k8
 have b8 := F8.binds (ps := ["_law_above", "_law_below"]) fun _ _ _ _ _ _ => AFR fun _ _ => rfl
 have F9 := D6 (st := AGS) l9 c9 k9
 have b9 := F9.binds (ps := ["one", "other"]) fun _ _ _ _ _ _ => AFR fun _ _ => rfl
 have F10 := D6 (st := ADJ) l10 c10 k10
 have b10 := F10.binds (ps := ["one", "other"]) fun _ _ _ _ _ _ => AFR fun _ _ => rfl
 have F11 := D6 (st := S5) l11 c11 k11
 have b11 := F11.binds (ps := ["thing"]) fun _ _ _ _ _ _ => AGT fun _ => rfl
 have F12 := D6 (st := Q3) l12 c12 k12
 have b12 := F12.binds (ps := ["thing"]) fun _ _ _ _ _ _ => AGT fun _ => rfl
 have F13 := D6 (st := Z5) l13 c13 k13
 have b13 := F13.binds (ps := ["parts"]) fun _ _ _ _ _ _ => AGT fun _ => rfl
 have F14 := D6 (st := ADM) l14 c14 k14
 have b14 := F14.binds (ps := ["matrix", "x", "y"]) fun _ _ _ _ _ _ => AZ6 fun _ _ _ => rfl
 have F15 := D6 (st := u9) l15 c15 k15
 have b15 := F15.binds (ps := ["many"]) fun _ _ _ _ _ _ => AGT fun _ => rfl
 have F16 := D6 (st := Q7) l16 c16 k16
 have b16 := F16.binds (ps := ["_law_script", "_law_at"]) fun _ _ _ _ _ _ => AFR fun _ _ => rfl
 have F17 := D6 (st := Y8) l17 c17 k17
 have b17 := F17.binds (ps := ["_law_one", "_law_other"]) fun _ _ _ _ _ _ => AFR fun _ _ => rfl
 have F18 := D6 (st := T4) l18 c18 k18
 have b18 := F18.binds (ps := ["_law_one", "_law_other"]) fun _ _ _ _ _ _ => AFR fun _ _ => rfl
 have F19 := D6 (st := AAQ) l19 c19 k19
 have b19 := F19.binds (ps := ["one", "other"]) fun _ _ _ _ _ _ => AFR fun _ _ => rfl
 have F20 := D6 (st := X3) l20 c20 k20
 have b20 := F20.binds (ps := ["terms"]) fun _ _ _ _ _ _ => AGT fun _ => rfl
 have F21 := D6 (st := u6) l21 c21 k21
 have b21 := F21.binds (ps := ["thing"]) fun _ _ _ _ _ _ => AGT fun _ => rfl
 have F22 := D6 (st := w6) l22 c22 k22
 have b22 := F22.binds (ps := ["thing"]) fun _ _ _ _ _ _ => AGT fun _ => rfl
 have F23 := D6 (st := x0) l23 c23 k23
 have b23 := F23.binds (ps := ["thing"]) fun _ _ _ _ _ _ => AGT fun _ => rfl
 have F24 := D6 (st := Z0) l24 c24 k24
 have b24 := F24.binds (ps := ["thing"]) fun _ _ _ _ _ _ => AGT fun _ => rfl
 have F25 := D6 (st := O1) l25 c25 k25
 have b25 := F25.binds (ps := ["part", "matrix"]) fun _ _ _ _ _ _ => AFR fun _ _ => rfl
 have F26 := D6 (st := O7) l26 c26 k26
 have b26 := F26.binds (ps := ["path", "matrix"]) fun _ _ _ _ _ _ => AFR fun _ _ => rfl
 have F27 := D6 (st := AAG) l27 c27 k27
 have b27 := F27.binds (ps := ["numbers"]) fun _ _ _ _ _ _ => AGT fun _ => rfl
 have F28 := D6 (st := j9) l28 c28 k28
 have b28 := F28.binds (ps := ["path"]) fun _ _ _ _ _ _ => AGT fun _ => rfl
 have F29 := D6 (st := u7) l29 c29 k29
 have b29 := F29.binds (ps := ["thing"]) fun _ _ _ _ _ _ => AGT fun _ => rfl
 have F30 := D6 (st := t5) l30 c30 k30
 have b30 := F30.binds (ps := ["thing"]) fun _ _ _ _ _ _ => AGT fun _ => rfl
 have F31 := D6 (st := P7) l31 c31 k31
 have b31 := F31.binds (ps := ["path"]) fun _ _ _ _ _ _ => AGT fun _ => rfl
 have F32 := D6 (st := Z6) l32 c32 k32
 have b32 := F32.binds (ps := ["lines", "height"]) fun _ _ _ _ _ _ => AFR fun _ _ => rfl
 have F33 := D6 (st := ACD) l33 c33 k33
 have b33 := F33.binds (ps := ["found", "x"]) fun _ _ _ _ _ _ => AFR fun _ _ => rfl
 have F34 := D6 (st := ADY) l34 c34 k34
 have b34 := F34.binds (ps := ["rule", "many"]) fun _ _ _ _ _ _ => AFR fun _ _ => rfl
 have F35 := D6 (st := AA9) l35 c35 k35
 have b35 := F35.binds (ps := ["path", "x", "y"]) fun _ _ _ _ _ _ => AZ6 fun _ _ _ => rfl
 have F36 := D6 (st := Z4) l36 c36 k36
 have b36 := F36.binds (ps := ["path", "rule", "x", "y"]) fun _ _ _ _ _ _ => AZ8 fun _ _ _ _ => rfl
 have F37 := D6 (st := P1) l37 c37 k37
 have b37 := F37.binds (ps := ["path", "width"]) fun _ _ _ _ _ _ => AFR fun _ _ => rfl
 have F38 := D6 (st := AAF) l38 c38 k38
 have b38 := F38.binds (ps := ["line", "x", "y", "below"]) fun _ _ _ _ _ _ => AZ8 fun _ _ _ _ => rfl
 have F39 := D6 (st := Q1) l39 c39 k39
 have b39 := F39.binds (ps := ["lines", "x", "y", "below"]) fun _ _ _ _ _ _ => AZ8 fun _ _ _ _ => rfl
 have F40 := D6 (st := N4) l40 c40 k40
 have b40 := F40.binds (ps := ["path", "width", "x", "y"]) fun _ _ _ _ _ _ => AZ8 fun _ _ _ _ => rfl
 have F41 := D6 (st := T9) l41 c41 k41
 have b41 := F41.binds (ps := ["_law_script", "_law_at"]) fun _ _ _ _ _ _ => AFR fun _ _ => rfl
 have F42 := D6 (st := S6) l42 c42 k42
 have b42 := F42.binds (ps := ["_law_script", "_law_at"]) fun _ _ _ _ _ _ => AFR fun _ _ => rfl
 have F43 := D6 (st := S3) l43 c43 k43
 have b43 := F43.binds (ps := ["_law_script", "_law_at"]) fun _ _ _ _ _ _ => AFR fun _ _ => rfl
 have F44 := D6 (st := X2) l44 c44 k44
 have b44 := F44.binds (ps := ["_law_one", "_law_other"]) fun _ _ _ _ _ _ => AFR fun _ _ => rfl
 have F45 := D6 (st := M8) l45 c45 k45
 have b45 := F45.binds (ps := ["_law_path_here"]) fun _ _ _ _ _ _ => AGT fun _ => rfl
 have F46 := D6 (st := O9) l46 c46 k46
 have b46 := F46.binds (ps := ["_law_path_here"]) fun _ _ _ _ _ _ => AGT fun _ => rfl
 have F47 := D6 (st := Q0) l47 c47 k47
 have b47 := F47.binds (ps := ["_law_box", "_law_x", "_law_y"]) fun _ _ _ _ _ _ => AZ6 fun _ _ _ => rfl
 have F48 := D6 (st := AEZ) l48 c48 k48
 have b48 := F48.binds (ps := ["_law_script"]) fun _ _ _ _ _ _ => AGT fun _ => rfl
 refine ⟨PySem.W.fnOf "law" "law" (AC7 AEZ) (B8 AEZ) (A6 AEZ) .none kV48 dc48 pm48 an48 cd48 ct48, fun s v => .of_eq rfl, fun base _ _ => ?_⟩
 have D_is_whole : Df l.prog w K mg base "is_whole" 1 1 N2 := Dfn.of (N := AAO) (ps := ["thing"]) F0 AK6 (PySem.W.mg_of X G a0) b0 AJ7 (by decide +kernel) (fun cdv A outer s H E hr => AMX B hr) AKL
 have D_common_part : Df l.prog w K mg base "common_part" 1 2 C5 := Dfn.of (N := W1) (ps := ["one", "other"]) F1 AFO (PySem.W.mg_of X G a1) b1 AB8 (by decide +kernel) (fun cdv A outer s H E hr => AHO B hr) AG3
 have D_is_short : Df l.prog w K mg base "is_short" 1 2 L9 := Dfn.of (N := AA7) (ps := ["top", "below"]) F2 AKF (PySem.W.mg_of X G a2) b2 AIK (by decide +kernel) (fun cdv A outer s H E hr => AN1 B g_TOO_GREAT hr) AKY
 have D_is_number : Df l.prog w K mg base "is_number" 2 1 E4 := Dfn.of (N := x8) (ps := ["thing"]) F3 AJ6 (PySem.W.mg_of X G a3) b3 AH7 (by decide +kernel) (fun cdv A outer s H E hr => AK8 B D_common_part D_is_short D_is_whole hr) AIW
 have D_lowest : Df l.prog w K mg base "lowest" 2 2 R9 := Dfn.of (N := ACY) (ps := ["top", "below"]) F4 AOM (PySem.W.mg_of X G a4) b4 AN4 (by decide +kernel) (fun cdv A outer s H E hr => AS0 B D_common_part D_is_short hr) AOE
 have D_need_number : Df l.prog w K mg base "need_number" 3 1 L0 := Dfn.of (N := V7) (ps := ["thing"]) F5 AFY (PySem.W.mg_of X G a5) b5 (fun _ _ _ h => E9 h) (by decide +kernel) (fun cdv A outer s H E hr => AHJ B D_is_number x_NoNumber hr) (fun ts _ h => C8 h)
 have D__law_drawn : Df l.prog w K mg base "_law_drawn" 1 3 G4 := Dfn.of (N := e7) (ps := ["_law_script", "_law_k", "_law_many"]) F6 AHP (PySem.W.mg_of X G a6) b6 (fun _ _ _ h => E9 h) (by decide +kernel) (fun cdv A outer s H E hr => AJD B hr) (fun ts _ h => C8 h)
 have D__law_common : Df l.prog w K mg base "_law_common" 1 2 K8 := Dfn.of (N := V8) (ps := ["_law_one", "_law_other"]) F7 AFN (PySem.W.mg_of X G a7) b7 AFG (by decide +kernel) (fun cdv A outer s H E hr => AH1 B hr) AFK
 have D__law_made : Df l.prog w K mg base "_law_made" 2 2 G8 := Dfn.of (N := x3) (ps := ["_law_above", "_law_below"]) F8 AHX (PySem.W.mg_of X G a8) b8 (fun _ _ _ h => E9 h) (by decide +kernel) (fun cdv A outer s H E hr => AKB B D__law_common hr) (fun ts _ h => C8 h)
 have D_plus : Df l.prog w K mg base "plus" 3 2 ACO := Dfn.of (N := AIM) (ps := ["one", "other"]) F9 AV3 (PySem.W.mg_of X G a9) b9 (fun _ _ _ h => E9 h) (by decide +kernel) (fun cdv A outer s H E hr => AYJ B D_lowest hr) (fun ts _ h => C8 h)
 have D_times : Df l.prog w K mg base "times" 3 2 AAV := Dfn.of (N := AF6) (ps := ["one", "other"]) F10 ARF (PySem.W.mg_of X G a10) b10 (fun _ _ _ h => E9 h) (by decide +kernel) (fun cdv A outer s H E hr => AUB B D_lowest hr) (fun ts _ h => C8 h)
 have D_is_matrix : Df l.prog w K mg base "is_matrix" 3 1 v0 := Dfn.of (N := Y6) (ps := ["thing"]) F11 AJV (PySem.W.mg_of X G a11) b11 (fun _ _ _ h => E9 h) (by decide +kernel) (fun cdv A outer s H E hr => AKD B D_is_number hr) (fun ts _ h => C8 h)
 have D_need_matrix : Df l.prog w K mg base "need_matrix" 4 1 V0 := Dfn.of (N := V4) (ps := ["thing"]) F12 AG2 (PySem.W.mg_of X G a12) b12 (fun _ _ _ h => E9 h) (by decide +kernel) (fun cdv A outer s H E hr => AHM B D_is_matrix x_NoMatrix hr) (fun ts _ h => C8 h)
 have D_all_told : Df l.prog w K mg base "all_told" 1 1 K7 := Dfn.of (N := r6) (ps := ["parts"]) F13 AKS (PySem.W.mg_of X G a13) b13 (fun _ _ _ h => E9 h) (by decide +kernel) (fun cdv A outer s H E hr => AMZ B hr) (fun ts _ h => C8 h)
 have D_moved : Df l.prog w K mg base "moved" 4 3 ADW := Dfn.of (N := AEV) (ps := ["matrix", "x", "y"]) F14 AQV (PySem.W.mg_of X G a14) b14 (fun _ _ _ h => E9 h) (by decide +kernel) (fun cdv A outer s H E hr => AUV B D_all_told D_plus D_times hr) (fun ts _ h => C8 h)
 have D_quarter : Df l.prog w K mg base "quarter" 2 1 ABE := Dfn.of (N := AAN) (ps := ["many"]) F15 AMY (PySem.W.mg_of X G a15) b15 (fun _ _ _ h => E9 h) (by decide +kernel) (fun cdv A outer s H E hr => APW B g_QUARTERS D_is_whole x_NoNumber hr) (fun ts _ h => C8 h)
 have D__law_number : Df l.prog w K mg base "_law_number" 3 2 U9 := Dfn.of (N := V5) (ps := ["_law_script", "_law_at"]) F16 AG1 (PySem.W.mg_of X G a16) b16 (fun _ _ _ h => E9 h) (by decide +kernel) (fun cdv A outer s H E hr => AHI B D__law_drawn D__law_made hr) (fun ts _ h => C8 h)
 have D__law_plus : Df l.prog w K mg base "_law_plus" 3 2 J6 := Dfn.of (N := x4) (ps := ["_law_one", "_law_other"]) F17 AJK (PySem.W.mg_of X G a17) b17 (fun _ _ _ h => E9 h) (by decide +kernel) (fun cdv A outer s H E hr => AKW B D__law_made hr) (fun ts _ h => C8 h)
 have D__law_times : Df l.prog w K mg base "_law_times" 3 2 M6 := Dfn.of (N := d9) (ps := ["_law_one", "_law_other"]) F18 AH2 (PySem.W.mg_of X G a18) b18 (fun _ _ _ h => E9 h) (by decide +kernel) (fun cdv A outer s H E hr => AJB B D__law_made hr) (fun ts _ h => C8 h)
 have D_is_less : Df l.prog w K mg base "is_less" 1 2 W5 := Dfn.of (N := ABG) (ps := ["one", "other"]) F19 AME (PySem.W.mg_of X G a19) b19 (fun _ _ _ h => E9 h) (by decide +kernel) (fun cdv A outer s H E hr => AP0 B hr) (fun ts _ h => C8 h)
 have D_in_units : Df l.prog w K mg base "in_units" 2 1 L8 := Dfn.of (N := t4) (ps := ["terms"]) F20 AKP (PySem.W.mg_of X G a20) b20 (fun _ _ _ h => E9 h) (by decide +kernel) (fun cdv A outer s H E hr => AMN B D_common_part hr) (fun ts _ h => C8 h)
 have D_is_point : Df l.prog w K mg base "is_point" 3 1 ABP := Dfn.of (N := AAJ) (ps := ["thing"]) F21 AL7 (PySem.W.mg_of X G a21) b21 (fun _ _ _ h => E9 h) (by decide +kernel) (fun cdv A outer s H E hr => AMC B D_is_number hr) (fun ts _ h => C8 h)
 have D_is_part : Df l.prog w K mg base "is_part" 4 1 AD8 := Dfn.of (N := AAH) (ps := ["thing"]) F22 AN8 (PySem.W.mg_of X G a22) b22 (fun _ _ _ h => E9 h) (by decide +kernel) (fun cdv A outer s H E hr => AOZ B D_is_point hr) (fun ts _ h => C8 h)
 have D_is_path : Df l.prog w K mg base "is_path" 5 1 AB6 := Dfn.of (N := AA4) (ps := ["thing"]) F23 AML (PySem.W.mg_of X G a23) b23 (fun _ _ _ h => E9 h) (by decide +kernel) (fun cdv A outer s H E hr => AO4 B D_is_part hr) (fun ts _ h => C8 h)
 have D_need_path : Df l.prog w K mg base "need_path" 6 1 O0 := Dfn.of (N := x5) (ps := ["thing"]) F24 AJ4 (PySem.W.mg_of X G a24) b24 (fun _ _ _ h => E9 h) (by decide +kernel) (fun cdv A outer s H E hr => AKC B D_is_path x_NoPath hr) (fun ts _ h => C8 h)
 have D_moved_part : Df l.prog w K mg base "moved_part" 5 2 d7 := Dfn.of (N := T3) (ps := ["part", "matrix"]) F25 AHK (PySem.W.mg_of X G a25) b25 (fun _ _ _ h => E9 h) (by decide +kernel) (fun cdv A outer s H E hr => AJW B D_all_told D_moved hr) (fun ts _ h => C8 h)
 have D_moved_path : Df l.prog w K mg base "moved_path" 7 2 O3 := Dfn.of (N := U1) (ps := ["path", "matrix"]) F26 AHU (PySem.W.mg_of X G a26) b26 (fun _ _ _ h => E9 h) (by decide +kernel) (fun cdv A outer s H E hr => AJC B D_all_told D_moved_part D_need_matrix D_need_path hr) (fun ts _ h => C8 h)
 have D_ends_of : Df l.prog w K mg base "ends_of" 2 1 ABL := Dfn.of (N := AB7) (ps := ["numbers"]) F27 AN0 (PySem.W.mg_of X G a27) b27 (fun _ _ _ h => E9 h) (by decide +kernel) (fun cdv A outer s H E hr => ANX B D_is_less hr) (fun ts _ h => C8 h)
 have D_box_of : Df l.prog w K mg base "box_of" 7 1 AAZ := Dfn.of (N := y7) (ps := ["path"]) F28 AQ8 (PySem.W.mg_of X G a28) b28 (fun _ _ _ h => E9 h) (by decide +kernel) (fun cdv A outer s H E hr => ASE B D_ends_of D_need_path hr) (fun ts _ h => C8 h)
 have D_is_rule : Df l.prog w K mg base "is_rule" 1 1 AAP := Dfn.of (N := AA8) (ps := ["thing"]) F29 AMO (PySem.W.mg_of X G a29) b29 (fun _ _ _ h => E9 h) (by decide +kernel) (fun cdv A outer s H E hr => AQ5 B g_RULES hr) (fun ts _ h => C8 h)
 have D_is_width : Df l.prog w K mg base "is_width" 3 1 ABW := Dfn.of (N := AAB) (ps := ["thing"]) F30 AK5 (PySem.W.mg_of X G a30) b30 (fun _ _ _ h => E9 h) (by decide +kernel) (fun cdv A outer s H E hr => AM8 B D_is_number hr) (fun ts _ h => C8 h)
 have D_lines_round : Df l.prog w K mg base "lines_round" 3 1 m6 := Dfn.of (N := U6) (ps := ["path"]) F31 AFL (PySem.W.mg_of X G a31) b31 (fun _ _ _ h => E9 h) (by decide +kernel) (fun cdv A outer s H E hr => AHC B D_in_units hr) (fun ts _ h => C8 h)
 have D_crossings : Df l.prog w K mg base "crossings" 1 2 AB2 := Dfn.of (N := v9) (ps := ["lines", "height"]) F32 AJS (PySem.W.mg_of X G a32) b32 (fun _ _ _ h => E9 h) (by decide +kernel) (fun cdv A outer s H E hr => AL2 B hr) (fun ts _ h => C8 h)
 have D_turns : Df l.prog w K mg base "turns" 1 2 AHG := Dfn.of (N := ADN) (ps := ["found", "x"]) F33 AQY (PySem.W.mg_of X G a33) b33 (fun _ _ _ h => E9 h) (by decide +kernel) (fun cdv A outer s H E hr => AUI B hr) (fun ts _ h => C8 h)
 have D_is_in : Df l.prog w K mg base "is_in" 1 2 ADL := Dfn.of (N := AEU) (ps := ["rule", "many"]) F34 AR3 (PySem.W.mg_of X G a34) b34 (fun _ _ _ h => E9 h) (by decide +kernel) (fun cdv A outer s H E hr => ATT B hr) (fun ts _ h => C8 h)
 have D_winding : Df l.prog w K mg base "winding" 7 3 D4 := Dfn.of (N := ABM) (ps := ["path", "x", "y"]) F35 AMR (PySem.W.mg_of X G a35) b35 (fun _ _ _ h => E9 h) (by decide +kernel) (fun cdv A outer s H E hr => APS B D_crossings D_lines_round D_need_number D_need_path D_turns hr) (fun ts _ h => C8 h)
 have D_is_inside : Df l.prog w K mg base "is_inside" 8 4 J1 := Dfn.of (N := x6) (ps := ["path", "rule", "x", "y"]) F36 AJ2 (PySem.W.mg_of X G a36) b36 (fun _ _ _ h => E9 h) (by decide +kernel) (fun cdv A outer s H E hr => AK1 B D_is_in D_is_rule D_need_path D_winding x_NoRule hr) (fun ts _ h => C8 h)
 have D_lines_drawn : Df l.prog w K mg base "lines_drawn" 3 2 r0 := Dfn.of (N := V2) (ps := ["path", "width"]) F37 AFQ (PySem.W.mg_of X G a37) b37 (fun _ _ _ h => E9 h) (by decide +kernel) (fun cdv A outer s H E hr => AGW B D_in_units hr) (fun ts _ h => C8 h)
 have D_is_near : Df l.prog w K mg base "is_near" 1 4 V6 := Dfn.of (N := ABD) (ps := ["line", "x", "y", "below"]) F38 AMB (PySem.W.mg_of X G a38) b38 (fun _ _ _ h => E9 h) (by decide +kernel) (fun cdv A outer s H E hr => APH B hr) (fun ts _ h => C8 h)
 have D_is_near_one : Df l.prog w K mg base "is_near_one" 2 4 m5 := Dfn.of (N := U8) (ps := ["lines", "x", "y", "below"]) F39 AFW (PySem.W.mg_of X G a39) b39 (fun _ _ _ h => E9 h) (by decide +kernel) (fun cdv A outer s H E hr => AHA B D_is_near hr) (fun ts _ h => C8 h)
 have D_is_on_stroke : Df l.prog w K mg base "is_on_stroke" 7 4 R8 := Dfn.of (N := R7) (ps := ["path", "width", "x", "y"]) F40 AER (PySem.W.mg_of X G a40) b40 (fun _ _ _ h => E9 h) (by decide +kernel) (fun cdv A outer s H E hr => AFT B D_in_units D_is_near_one D_is_width D_lines_drawn D_need_number D_need_path x_NoNumber hr) (fun ts _ h => C8 h)
 have D__law_point : Df l.prog w K mg base "_law_point" 3 2 K9 := Dfn.of (N := e9) (ps := ["_law_script", "_law_at"]) F41 AGV (PySem.W.mg_of X G a41) b41 (fun _ _ _ h => E9 h) (by decide +kernel) (fun cdv A outer s H E hr => AI4 B D__law_drawn D__law_made hr) (fun ts _ h => C8 h)
 have D__law_part : Df l.prog w K mg base "_law_part" 4 2 w9 := Dfn.of (N := Y2) (ps := ["_law_script", "_law_at"]) F42 AIZ (PySem.W.mg_of X G a42) b42 (fun _ _ _ h => E9 h) (by decide +kernel) (fun cdv A outer s H E hr => AKK B D__law_drawn D__law_point hr) (fun ts _ h => C8 h)
 have D__law_path : Df l.prog w K mg base "_law_path" 5 2 w8 := Dfn.of (N := Y1) (ps := ["_law_script", "_law_at"]) F43 AJ3 (PySem.W.mg_of X G a43) b43 (fun _ _ _ h => E9 h) (by decide +kernel) (fun cdv A outer s H E hr => AKX B D__law_drawn D__law_part hr) (fun ts _ h => C8 h)
 have D__law_less : Df l.prog w K mg base "_law_less" 1 2 L1 := Dfn.of (N := w4) (ps := ["_law_one", "_law_other"]) F44 AIU (PySem.W.mg_of X G a44) b44 (fun _ _ _ h => E9 h) (by decide +kernel) (fun cdv A outer s H E hr => AKG B hr) (fun ts _ h => C8 h)
 have D__law_behind : Df l.prog w K mg base "_law_behind" 1 1 W3 := Dfn.of (N := R3) (ps := ["_law_path_here"]) F45 AFM (PySem.W.mg_of X G a45) b45 (fun _ _ _ h => E9 h) (by decide +kernel) (fun cdv A outer s H E hr => AHE B hr) (fun ts _ h => C8 h)
 have D__law_finer : Df l.prog w K mg base "_law_finer" 4 1 d5 := Dfn.of (N := T7) (ps := ["_law_path_here"]) F46 AHF (PySem.W.mg_of X G a46) b46 (fun _ _ _ h => E9 h) (by decide +kernel) (fun cdv A outer s H E hr => AJH B zz_enumerate D__law_plus D__law_times hr) (fun ts _ h => C8 h)
 have D__law_is_out : Df l.prog w K mg base "_law_is_out" 2 3 U7 := Dfn.of (N := W4) (ps := ["_law_box", "_law_x", "_law_y"]) F47 AFU (PySem.W.mg_of X G a47) b47 (fun _ _ _ h => E9 h) (by decide +kernel) (fun cdv A outer s H E hr => AH5 B D__law_less hr) (fun ts _ h => C8 h)
 have D_law : FnOk l.prog w K mg base (CXE l.prog w base) 9 _ _ ["_law_script"] (spM K 1 API) := Dfn.fnOk (N := AKA) (ps := ["_law_script"]) F48 AYI (fun cdv A outer s H E hr => AaE B D__law_behind D__law_finer D__law_is_out D__law_number D__law_path D__law_plus D__law_point D_box_of D_is_inside D_is_on_stroke D_moved_path D_quarter D_winding hr) (fun ts _ h => C8 h)
 exact AOX D_law
theorem walk {l : PySem.W.OpenLaw} {q : Program} {loose : List Str} {XP : (Str → Option Value) → Heap → Prop} {YP : World → Heap → Prop} {d : DefRec} {K : Params → PySem.W.Frag} (hn : l.most = some 63) (hdf : d.params.defaults = [])
  (hY : ∀ (w : World) (h : Heap), YP w h → (K w.params).In h)
  (F : ∀ (w : World) (mg : Str → Option Value) (fa : Addr) (h : Heap), (K w.params).In h → h.Ns mainGlobals mg → mg d.name = some (.ref fa) →
   ∃ fd : FuncData, (∀ (s : Shared) (u : Value), BindsTo s fd ⟨[u], []⟩ [("_law_script", u)]) ∧ ∀ base : Heap, (K w.params).In base → base.Ns mainGlobals mg → FnOk l.prog w (K w.params) mg base CX0 9 fa fd ["_law_script"] (fun vs H Q _ => spM (K w.params) 1 API vs H Q fun _ _ _ => False)) :
  PySem.W.WalkO q loose XP YP l.row.toRowW d [] (fun f vs => PySem.call f vs) :=
 L2.walk_of (n := 63) (k := 9) (x := "_law_script") (CX := fun _ => CX0) (sp := fun w => (fun vs H Q _ => spM (K w.params) 1 API vs H Q fun _ _ _ => False)) hn (by decide) hdf ⟨rfl, by decide, by decide⟩ hY F (fun w H a ns hl _ hS => AWJ AS6 hl hS) fun _ _ _ _ _ z => z
end Kw
def PySem.W.Fast.tw16903510475937714379 : Nat := 0
def PySem.W.Fast.tw3090360026546400796 : Nat := 0
def PySem.W.Fast.tw14278153250938982180 : Nat := 0
def PySem.W.Fast.tw8864150724189171025 : Nat := 0
def PySem.W.Fast.tw11558834581514378289 : Nat := 0
def PySem.W.Fast.tw4914452175317051444 : Nat := 0
def PySem.W.Fast.tw12064519438378028657 : Nat := 0
def PySem.W.Fast.tw5664826690134918962 : Nat := 0
def PySem.W.Fast.tw5939513779475812426 : Nat := 0
def PySem.W.Fast.tw8908873804876163376 : Nat := 0
def PySem.W.Fast.tw3005137032997740080 : Nat := 0
def PySem.W.Fast.tw5186195428319167455 : Nat := 0
def PySem.W.Fast.tw6636353247068822517 : Nat := 0
def PySem.W.Fast.tw9861295703389080627 : Nat := 0
def PySem.W.Fast.tw16636114336148527073 : Nat := 0
def PySem.W.Fast.tw6402098502780314188 : Nat := 0
def PySem.W.Fast.tw1202251018305658925 : Nat := 0
def PySem.W.Fast.tw8297293311029055776 : Nat := 0
open PySem PySem.W PyProof.Rows
set_option maxRecDepth 100000 in
set_option maxHeartbeats 0 in
theorem PySem.Challenge.cw_pageloom_k17_whole_winding_holds : PySem.Challenge.rw_pageloom_k17_whole_winding.Holds := by
 w_on; o_law; k_head; (case hw => w_witness2)
 k_fill
 refine Kw.walk (l := PySem.Challenge.rw_pageloom_k17_whole_winding) rfl rfl (fun w h Y => PySem.W.kIn_of Y) ?F
 case F =>
  intro w mg fa h KX G hmg
  refine' Kw.all_mk KX G hmg ?q0 ?q1 ?q2 ?q3 ?q4 ?q5 ?q6 ?q7 ?q8 ?q9 ?q10 ?q11 ?q12 ?q13 ?q14 ?q15 ?q16 ?q17 ?q18 ?q19 ?q20 ?q21 ?q22 ?q23 ?q24 ?q25 ?q26 ?q27 ?q28 ?q29 ?q30 ?q31 ?q32 ?q33 ?q34 ?q35 ?q36 ?q37 ?q38 ?q39 ?q40 ?q41 ?q42 ?q43 ?q44 ?q45 ?q46 ?q47 ?q48 ?z_len ?z_abs ?z_str ?z_int ?z_bool ?z_tuple ?z_list ?z_range ?z_isinstance ?z_all ?z_max ?z_sum ?z_zip ?z_enumerate ?q_TOO_GREAT ?q_QUARTERS ?tl_QUARTERS0 ?tl_QUARTERS1 ?tl_QUARTERS2 ?tl_QUARTERS3 ?tl_QUARTERS4 ?q_RULES ?tl_RULES0 ?n_NoMatrix ?n_NoNumber ?n_NoPath ?n_NoRule ?xi_NoMatrix ?xi_NoNumber ?xi_NoPath ?xi_NoRule
  (case z_len => k_is)
  (case z_abs => k_is)
  (case z_str => k_is)
  (case z_int => k_is)
  (case z_bool => k_is)
  (case z_tuple => k_is)
  (case z_list => k_is)
  (case z_range => k_is)
  (case z_isinstance => k_is)
  (case z_all => k_is)
  (case z_max => k_is)
  (case z_sum => k_is)
  (case z_zip => k_is)
  (case z_enumerate => k_is)
  (case q_TOO_GREAT => k_is)
  (case q_QUARTERS => k_is)
  (case tl_QUARTERS0 => k_is)
  (case tl_QUARTERS1 => k_is)
  (case tl_QUARTERS2 => k_is)
  (case tl_QUARTERS3 => k_is)
  (case tl_QUARTERS4 => k_is)
  (case q_RULES => k_is)
  (case tl_RULES0 => k_is)
  (case n_NoMatrix => k_is)
  (case n_NoNumber => k_is)
  (case n_NoPath => k_is)
  (case n_NoRule => k_is)
  (case xi_NoMatrix => kernel_rfl)
  (case xi_NoNumber => kernel_rfl)
  (case xi_NoPath => kernel_rfl)
  (case xi_NoRule => kernel_rfl)
  iterate 49 (refine' Tr.fnX_mk ?a ?l ?c ?k; (case a => k_is); (case l => k_is); (case c => k_is); (case k => k_is))
end
