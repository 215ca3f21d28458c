import PyProof.Rows.All
import Wide.All
import OpenK.AllK
import Wide.FinOn
import PySem.Challenge.RW_pageloom_k24_whole_hidden
import Lean
import PyProof.EqAt
import PyProof.EqKinds
import PyProof.TupleCall
import PyProof.P3Statements
import PyProof.DictKinds
import PyProof.FactsAll.NoneType_1
import KE.KIntText
import PyProof.ExcBaseAll.ValueError
import KE.KTryMore
import PyProof.ExcAttrAll.ValueError
import KE.LcSums
import PyProof.Rows.InDataRows
import PyProof.ZipIter
import PyProof.Rows.SumAny
import PyProof.Rows.FactsT2
import PyProof.SeqI3
import PyProof.CompUse
import PyProof.Rows.SeqMore2
import PyProof.Cells
import KE.KUnpackStar
import PyProof.StrCalls2
import PyProof.MeetsStr2
import PyProof.ListMulRoad
import PyProof.FactsAll.tuple
import PyProof.EnumFor
import PyProof.EnumMake
import PyProof.WalksEnum
import PyProof.Rows.EnumRows
import PyProof.Draws
import KE.KRevIter
import PyProof.ListRange
import PyProof.FactsAll.range_2
import PyProof.Rows.ListMul
import PyProof.DictCompW
import PyProof.DictStraight
import PyProof.Rows.SetFrom
import PyProof.CollectWalk
import PyProof.Rows.SortShell
import KE.KSortedM
import KE.RegKTryMore
import KE.RegKIsAll
set_option genSizeOfSpec false
set_option maxHeartbeats 4000000
set_option Elab.async false
set_option linter.all false
set_option maxRecDepth 100000
section
namespace L2
open PySem PySem.Spec PyProof.Rows
abbrev Key:=Sum Int Str
def Aa0:Key→Value→Bool
 | .inl k,v=>Value.isInt k v
 | .inr x,v=>Value.isStrOf x v
def AfS (w:World):Key→Int
 | .inl k=>hashInt k
 | .inr x=>hashStr w x
theorem E7:∀{k:Key} {v:Value},Aa0 k v=true→(∃i t,k=Sum.inl i∧v=Value.int i t)∨(∃x t,k=Sum.inr x∧v=Value.str x t)
 | .inl i,v,h=>by
  obtain ⟨t,e⟩:=Value.isInt_shape (k:=i) (v:=v) h
  exact .inl ⟨i,t,rfl,e⟩
 | .inr x,v,h=>by
  obtain ⟨t,e⟩:=Value.isStrOf_shape (x:=x) (v:=v) h
  exact .inr ⟨x,t,rfl,e⟩
theorem AaU (a b:Int):decide ((Sum.inl a:Key)=Sum.inl b)=(a == b):=by
 by_cases e:a=b
 ·subst e;simp
 ·have h:¬(Sum.inl a:Key)=Sum.inl b:=fun q=>e (Sum.inl.inj q)
  rw[decide_eq_false h]
  exact (beq_eq_false_iff_ne.mpr e).symm
theorem AZP (a b:Str):decide ((Sum.inr a:Key)=Sum.inr b)=decide (a=b):=by
 by_cases e:a=b
 ·subst e;simp
 ·have h:¬(Sum.inr a:Key)=Sum.inr b:=fun q=>e (Sum.inr.inj q)
  rw[decide_eq_false h,decide_eq_false e]
theorem AbJ (a:Int) (b:Str):decide ((Sum.inl a:Key)=Sum.inr b)=false:=decide_eq_false (fun q=>nomatch q)
theorem AYO (a:Str) (b:Int):decide ((Sum.inr a:Key)=Sum.inl b)=false:=decide_eq_false (fun q=>nomatch q)
def AI3 (prog:Program) (w:World):PySem.KeyKind prog w Key where
 is:=Aa0
 hash:=AfS w
 inj:=fun v a b ha hb=>by
  rcases E7 ha with ⟨i,t,rfl,rfl⟩ | ⟨x,t,rfl,rfl⟩
  ·rcases E7 hb with ⟨j,u,rfl,e⟩ | ⟨y,u,rfl,e⟩
   ·injection e with e1 _;rw[e1]
   ·exact nomatch e
  ·rcases E7 hb with ⟨j,u,rfl,e⟩ | ⟨y,u,rfl,e⟩
   ·exact nomatch e
   ·injection e with e1 _;rw[e1]
 byValue:=fun k v h=>by
  rcases E7 h with ⟨i,t,rfl,rfl⟩ | ⟨x,t,rfl,rfl⟩<;>rfl
 pyHash:=fun hv h=>by
  rcases E7 hv with ⟨i,t,rfl,rfl⟩ | ⟨x,t,rfl,rfl⟩
  ·exact wpAny_pyHash_int h
  ·exact wpAny_pyHash_str h
 eqBool:=fun hu hv h=>by
  rcases E7 hu with ⟨i,t,rfl,rfl⟩ | ⟨x,t,rfl,rfl⟩
  ·rcases E7 hv with ⟨j,u,rfl,rfl⟩ | ⟨y,u,rfl,rfl⟩
   ·rw[AaU]at h;exact wpAny_eqBool_int h
   ·rw[AbJ]at h;exact SeqAt.EqAt.int_str i t y u _ _ _ _ h
  ·rcases E7 hv with ⟨j,u,rfl,rfl⟩ | ⟨y,u,rfl,rfl⟩
   ·rw[AYO]at h;exact SeqAt.EqAt.str_int x t j u _ _ _ _ h
   ·rw[AZP]at h;exact wpAny_eqBool_str h
 «strs»:=fun k x t v h=>by
  rcases E7 h with ⟨i,u,rfl,e⟩ | ⟨y,u,rfl,e⟩
  ·exact nomatch e
  ·injection e with e1 _
   subst e1
   cases v<;>rfl
inductive V where
 | non | bl (b:Bool) | int (i:Int) | str (x:Str) | byt (b:Array UInt8) | flt (b:UInt64) | ref (a:Addr) | ty (n:String)
 deriving DecidableEq
def RelV:V→Value→Prop
 | .non,u=>u=Value.none
 | .bl b,u=>u=Value.bool b
 | .int i,u=>∃t,u=Value.int i t
 | .str x,u=>∃t,u=Value.str x t
 | .byt b,u=>∃t,u=Value.bytes b t
 | .flt b,u=>∃t,u=Value.float b t
 | .ref a,u=>u=Value.ref a
 | .ty n,u=>u=Value.type n
abbrev Vals:List V→List Value→Prop:=Paired RelV
theorem Vals.length {xs:List V} {us:List Value} (r:Vals xs us):xs.length=us.length:=Paired.length r
theorem Vals.get:∀{xs:List V} {us:List Value} {i:Nat} {x:V},Vals xs us→xs[i]?=some x→∃u,us[i]?=some u∧RelV x u
 | _,_,_,_,.nil,e=>by simp at e
 | _,_,0,_,.cons r _,e=>by simp at e;subst e;exact ⟨_,rfl,r⟩
 | _,_,i+1,x,.cons _ t,e=>by
  obtain ⟨u,h1,h2⟩:=Vals.get (i:=i) (x:=x) t (by simpa using e)
  exact ⟨u,by simpa using h1,h2⟩
theorem Vals.set {x:V} {u:Value} (r:RelV x u):∀{xs:List V} {us:List Value} (i:Nat),Vals xs us→Vals (xs.set i x) (us.set i u)
 | _,_,_,.nil=>.nil
 | _,_,0,.cons _ t=>.cons r t
 | _,_,i+1,.cons q t=>.cons q (Vals.set r i t)
theorem Vals.append:∀{xs ys:List V} {us ws:List Value},Vals xs us→Vals ys ws→Vals (xs++ys) (us++ws)
 | _,_,_,_,.nil,s=>s
 | _,_,_,_,.cons r t,s=>.cons r (Vals.append t s)
theorem Vals.take:∀{xs:List V} {us:List Value} (n:Nat),Vals xs us→Vals (xs.take n) (us.take n)
 | _,_,0,_=>.nil
 | _,_,_+1,.nil=>.nil
 | _,_,n+1,.cons r t=>.cons r (Vals.take n t)
theorem Vals.drop:∀{xs:List V} {us:List Value} (n:Nat),Vals xs us→Vals (xs.drop n) (us.drop n)
 | _,_,0,r=>r
 | _,_,_+1,.nil=>.nil
 | _,_,n+1,.cons _ t=>Vals.drop n t
def Af4:Option V→Option Value→Prop
 | some v,some u=>RelV v u
 | none,none=>True
 | _,_=>False
def KV {κ:Type}:List (κ × V)→List (κ × Value)→Prop:=Paired fun (p:κ × V) (q:κ × Value)=>p.1=q.1∧RelV p.2 q.2
def kV:Key→V
 | .inl i=>.int i
 | .inr x=>.str x
inductive HO where
  | lst (xs:List V)
  | tup (xs:List V)
  | dK (kvs:List (Key × V)) | dT (kvs:List (List Key × V))
  | set (S:Int→Bool) (n:Nat)
  | ins (C dx:Addr) (fs:List (Str × V))
  | own (x:Addr)
  | xd (fs:List (Str × V))
  | met (f x:Addr)
  | rng (lo hi:Int)
  | frz (o:Obj) (u:HO)
  | tbl (ps:Array Value)
  | ext (φ:Heap→Prop)
abbrev Hp:=Addr→Option HO
def upd (H:Hp) (a:Addr) (o:HO):Hp:=fun b=>if b=a then some o else H b
theorem A8 {H:Hp} {a:Addr} {o:HO}:upd H a o a=some o:=by unfold upd;rw[if_pos rfl]
theorem A6 {H:Hp} {a b:Addr} {o:HO} (h:b≠a):upd H a o b=H b:=by unfold upd;rw[if_neg h]
theorem AN6 {H:Hp} {a:Addr} {o u:HO}:upd (upd H a o) a u=upd H a u:=by
 funext b;unfold upd;split<;>rfl
theorem C2 {H:Hp} {a b:Addr} {o:HO} (h:H a=some o) (h':H b=none):a≠b:=by
 intro e;subst e;rw[h]at h';cases h'
section
variable (P:Program) (w:World)
def ObjOk (H:Hp) (h:Heap) (a:Addr):HO→Prop
 | .lst xs=>xs.length≤sizeLine∧∃(its:List Value) (n:Nat),Vals xs its∧h.get? a=some {cls:=.type "list",data:=.seq its.toArray n}
 | .tup xs=>xs.length≤sizeLine∧∃its:List Value,Vals xs its∧IsTup h a its.toArray
 | .dK kvs=>kvs.length≤sizeLine∧(a == sysModules)=false∧∃vs,KV kvs vs∧h.DictOf (AI3 P w) a vs
 | .dT kvs=>kvs.length≤sizeLine∧(a == sysModules)=false∧∃xs:List (List Key × Addr × Value),
   Paired (fun (p:List Key × V) (q:List Key × Addr × Value)=>p.1=q.1∧H q.2.1=some (.tup (p.1.map kV))∧RelV p.2 q.2.2) kvs xs ∧
   ∃o es ep,h.get? a=some o∧o.ExactDict∧o.data=.dict es ep∧es.toList=xs.map (entryOfKey (tupleKind (AI3 P w)))∧(xs.map (·.1)).Nodup
 | .set S n=>h.SetOf (intKind P w) a S n
 | .ins C dx fs=>H dx=some (.own a)∧fs.length≤1000∧dx≠a∧h.get? a=some (PySem.W.instObj C dx) ∧
   ∃mA,h.Ns1 dx mA∧(∀f,Af4 (fs.lookup f) (mA f))∧PySem.Within mA (fs.map (·.1))
 | .own _=>∃o,h.get? a=some o
 | .xd fs=>∃mA,h.Ns1 a mA∧∀f,Af4 (fs.lookup f) (mA f)
 | .rng lo hi=>∃t u v,h.get? a=some {cls:=.type "range",data:=.fields #[.int lo t,.int hi u,.int 1 v] }
 | .frz o u=>h.get? a=some o∧ObjOk H h a u
 | .tbl ps=>h.get? a=some {cls:=.none,data:=.fields ps}
 | .met f x=>h.get? a=some (PySem.W.methodObj (.ref f) (.ref x))
 | .ext φ=>φ h∧(∃o,h.get? a=some o)∧∀h1 h2:Heap,φ h1→(∀o,h1.get? a=some o→h2.get? a=some o)→φ h2
def HOk (H:Hp) (h:Heap):Prop:=∀a o,H a=some o→ObjOk P w H h a o
end
section
variable {P:Program} {w:World} {H H':Hp} {h h':Heap} {a:Addr} {o:HO}
theorem ObjOk.lt (x:ObjOk P w H h a o):a<h.objs.size:=by
 cases o with
 | lst xs=>obtain ⟨_,_,_,_,e⟩:=x;exact Heap.lt_size e
 | tup xs=>obtain ⟨_,_,_,p⟩:=x;exact p.lt
 | dK kvs=>obtain ⟨_,_,_,_,o,_,_,e,_⟩:=x;exact Heap.lt_size e
 | dT kvs=>obtain ⟨_,_,_,_,o,_,_,e,_⟩:=x;exact Heap.lt_size e
 | set S n=>obtain ⟨o,_,_,_,e,_⟩:=x;exact Heap.lt_size e
 | ins C dx fs=>obtain ⟨_,_,_,e,_⟩:=x;exact Heap.lt_size e
 | own y=>obtain ⟨_,e⟩:=x;exact Heap.lt_size e
 | xd fs=>obtain ⟨_,⟨_,_,_,e,_⟩,_⟩:=x;exact Heap.lt_size e
 | rng lo hi=>obtain ⟨_,_,_,e⟩:=x;exact Heap.lt_size e
 | frz ob u=>obtain ⟨e,_⟩:=x;exact Heap.lt_size e
 | tbl ps=>exact Heap.lt_size (show h.get? a=some _ from x)
 | met f y=>exact Heap.lt_size (show h.get? a=some _ from x)
 | ext φ=>obtain ⟨_,⟨_,e⟩,_⟩:=x;exact Heap.lt_size e
theorem Paired.mapP {α β:Type} {F G:α→β→Prop}:∀{l₁:List α} {l₂:List β},Paired F l₁ l₂→(∀a b,F a b→G a b)→Paired G l₁ l₂
 | _,_,.nil,_=>.nil
 | _,_,.cons r t,f=>.cons (f _ _ r) (Paired.mapP t f)
theorem ObjOk.stay (x:ObjOk P w H h a o) (k:∀b u,(b=a∨H b=some (.own a))→h.get? b=some u→h'.get? b=some u)
  (ho:∀b,H b=some (.own a)→H' b=some (.own a)) (ht:∀b xs,H b=some (.tup xs)→H' b=some (.tup xs)):ObjOk P w H' h' a o:=by
 induction o with
 | lst xs=>obtain ⟨z,its,n,r,e⟩:=x;exact ⟨z,its,n,r,k _ _ (.inl rfl) e⟩
 | tup xs=>obtain ⟨z,its,r,ob,e,c⟩:=x;exact ⟨z,its,r,ob,k _ _ (.inl rfl) e,c⟩
 | dK kvs=>obtain ⟨z,y,vs,r,ob,es,ep,e,c⟩:=x;exact ⟨z,y,vs,r,ob,es,ep,k _ _ (.inl rfl) e,c⟩
 | dT kvs =>
  obtain ⟨z,y,xs,r,ob,es,ep,e,c⟩:=x
  exact ⟨z,y,xs,Paired.mapP r fun p q z=>⟨z.1,ht _ _ z.2.1,z.2.2⟩,ob,es,ep,k _ _ (.inl rfl) e,c⟩
 | set S n=>obtain ⟨ob,es,ep,t,e,c⟩:=x;exact ⟨ob,es,ep,t,k _ _ (.inl rfl) e,c⟩
 | ins C dx fs =>
  obtain ⟨d,z,ne,e,mA,⟨od,es,ep,e2,c⟩,r⟩:=x
  exact ⟨ho _ d,z,ne,k _ _ (.inl rfl) e,mA,⟨od,es,ep,k _ _ (.inr d) e2,c⟩,r⟩
 | own y=>obtain ⟨ob,e⟩:=x;exact ⟨ob,k _ _ (.inl rfl) e⟩
 | xd fs=>obtain ⟨mA,⟨od,es,ep,e,c⟩,r⟩:=x;exact ⟨mA,⟨od,es,ep,k _ _ (.inl rfl) e,c⟩,r⟩
 | rng lo hi=>obtain ⟨t,u,v,e⟩:=x;exact ⟨t,u,v,k _ _ (.inl rfl) e⟩
 | frz ob u ih=>obtain ⟨e,q⟩:=x;exact ⟨k _ _ (.inl rfl) e,ih q⟩
 | tbl ps =>
  have e:h.get? a=some {cls:=.none,data:=.fields ps}:=x
  show h'.get? a=some {cls:=.none,data:=.fields ps}
  exact k a _ (.inl rfl) e
 | met f y =>
  have e:h.get? a=some (PySem.W.methodObj (.ref f) (.ref y)):=x
  show h'.get? a=some (PySem.W.methodObj (.ref f) (.ref y))
  exact k a _ (.inl rfl) e
 | ext φ=>obtain ⟨p,⟨o,e⟩,st⟩:=x;exact ⟨st _ _ p fun o q=>k _ _ (.inl rfl) q,⟨o,k _ _ (.inl rfl) e⟩,st⟩
theorem HOk.lt (x:HOk P w H h) (e:H a=some o):a<h.objs.size:=(x a o e).lt
theorem HOk.fresh (x:HOk P w H h) (e:h.objs.size≤a):H a=none:=by
 cases q:H a with
 | none=>rfl
 | some u=>exact absurd (Nat.lt_of_lt_of_le (x.lt q) e) (Nat.lt_irrefl _)
theorem HOk.kept (x:HOk P w H h) (k:∀b u,h.get? b=some u→h'.get? b=some u):HOk P w H h':=fun a o e =>
 (x a o e).stay (fun b u _ q=>k b u q) (fun _ q=>q) fun _ _ q=>q
theorem HOk.laid (x:HOk P w H h) (k:∀b u,h.get? b=some u→h'.get? b=some u) (hp:h.objs.size≤a) (new:ObjOk P w (upd H a o) h' a o):HOk P w (upd H a o) h':=fun b u e=>by
 have hn:=x.fresh hp
 by_cases hb:b=a
 ·subst hb;rw[A8]at e;cases e;exact new
 ·rw[A6 hb]at e
  exact (x b u e).stay (fun c v _ q=>k c v q) (fun c q=>by rw[A6 (C2 q hn)];exact q) fun c xs q=>by rw[A6 (C2 q hn)];exact q
end
def Rd (H:Hp) (a:Addr) (u:HO):Prop:=H a=some u∨∃o,H a=some (.frz o u)
theorem Rd.ok {P:Program} {w:World} {H:Hp} {h:Heap} {a:Addr} {u:HO} (r:Rd H a u) (x:HOk P w H h):ObjOk P w H h a u:=by
 rcases r with r | ⟨o,r⟩
 ·exact x a u r
 ·obtain ⟨_,q⟩:=x a _ r
  exact q
def Mut:Option HO→Prop
 | some (.lst _)=>True
 | some (.dK _)=>True
 | some (.dT _)=>True
 | some (.set _ _)=>True
 | some (.ins _ _ _)=>True
 | some (.ext _)=>True
 | _=>False
section
variable {P:Program} {w:World} {H:Hp} {h h':Heap} {x e:Addr} {o':HO}
theorem HOk.write (ok:HOk P w H h) (mu:Mut (H x)) (he:e=x∨H e=some (.own x)) (k:∀b u,b≠e→h.get? b=some u→h'.get? b=some u) (heo:∃u,h'.get? e=some u)
  (new:ObjOk P w (upd H x o') h' x o'):HOk P w (upd H x o') h':=fun b u q=>by
 have nown:∀c y,H c=some (.own y)→c≠x:=fun c y r z=>by subst z;rw[r]at mu;exact mu
 have ntup:∀c xs,H c=some (.tup xs)→c≠x:=fun c xs r z=>by subst z;rw[r]at mu;exact mu
 by_cases hb:b=x
 ·subst hb;rw[A8]at q;cases q;exact new
 ·rw[A6 hb]at q
  by_cases hbe:b=e
  ·have q':H b=some (.own x):=by
    rcases he with z | z
    ·exact absurd (hbe.trans z) hb
    ·rw[hbe];exact z
   rw[q]at q';cases q'
   obtain ⟨v,hv⟩:=heo
   exact ⟨v,by rw[hbe];exact hv⟩
  ·refine (ok b u q).stay (fun c v hc r=>k c v ?_ r) (fun c r=>by rw[A6 (nown c b r)];exact r) fun c xs r=>by rw[A6 (ntup c xs r)];exact r
   rcases hc with rfl | hc
   ·exact hbe
   ·rintro rfl
    rcases he with z | z
    ·exact nown c b hc z
    ·rw[hc]at z;cases z;exact hb rfl
end
structure Un (fs ex:List Addr) (H H':Hp) (h h':Heap):Prop where
 keep:∀b o,h.get? b=some o→H b=none→b ∉ fs→b ∉ ex→h'.get? b=some o
 slot:∀b o,h.get? b=some o→H b=none→b∈fs→b ∉ ex→∃sl,h'.get? b=some {o with slots:=sl}
 free:∀b o,h.get? b=some o→H b=none→b ∉ ex→H' b=none
 there:∀b o,h.get? b=some o→b ∉ ex→∃o',h'.get? b=some o'
 tups:∀b xs,H b=some (.tup xs)→H' b=some (.tup xs)
 frzs:∀b o u,H b=some (.frz o u)→H' b=some (.frz o u)
 tbls:∀b ps,H b=some (.tbl ps)→∃more,H' b=some (.tbl (ps++more))
section
variable {fs fs' ex ex':List Addr} {H H1 H2:Hp} {h h1 h2 h':Heap} {a x e:Addr} {o:HO}
theorem Un.any (u:Un fs ex H H1 h h1) {b:Addr} {ob:Obj} (q:h.get? b=some ob) (n:H b=none) (hx:b ∉ ex):∃sl,h1.get? b=some {ob with slots:=sl}:=by
 by_cases hb:b∈fs
 ·exact u.slot b ob q n hb hx
 ·exact ⟨ob.slots,u.keep b ob q n hb hx⟩
theorem Un.kept (k:∀b u,h.get? b=some u→h'.get? b=some u):Un fs ex H H h h' :=
 ⟨fun b ob q _ _ _=>k b ob q,fun b ob q _ _ _=>⟨ob.slots,k b ob q⟩,fun _ _ _ n _=>n,fun b ob q _=>⟨ob,k b ob q⟩,fun _ _ q=>q,fun _ _ _ q=>q,fun _ ps q=>⟨#[],by rw[q];simp⟩⟩
theorem Un.refl:Un fs ex H H h h:=Un.kept fun _ _ q=>q
theorem Un.laid (k:∀b u,h.get? b=some u→h'.get? b=some u) (hp:h.objs.size≤a) (hn:H a=none):Un fs ex H (upd H a o) h h' where
 keep:=fun b u q _ _ _=>k b u q
 slot:=fun b u q _ _ _=>⟨u.slots,k b u q⟩
 free:=fun b u q n _=>by rw[A6 (Nat.ne_of_lt (Nat.lt_of_lt_of_le (Heap.lt_size q) hp))];exact n
 there:=fun b u q _=>⟨u,k b u q⟩
 tups:=fun b xs q=>by rw[A6 (C2 q hn)];exact q
 frzs:=fun b u xs q=>by rw[A6 (C2 q hn)];exact q
 tbls:=fun b ps q=>⟨#[],by rw[A6 (C2 q hn),q];simp⟩
theorem Un.write (mu:Mut (H x)) (he:e=x∨H e=some (.own x)) (k:∀b u,b≠e→h.get? b=some u→h'.get? b=some u) (heo:∃u,h'.get? e=some u):Un fs ex H (upd H x o) h h':=by
 have hx:∀b,H b=none→b≠x:=fun b n z=>by subst z;rw[n]at mu;exact mu
 have hb:∀b,H b=none→b≠e:=fun b n z=>by
  subst z
  rcases he with r | r
  ·exact hx b n r
  ·rw[n]at r;cases r
 have hm:∀b u,H b=some u→¬Mut (some u)→b≠x:=fun b u q nm z=>by subst z;rw[q]at mu;exact nm mu
 refine ⟨fun b u q n _ _=>k b u (hb b n) q,fun b u q n _ _=>⟨u.slots,k b u (hb b n) q⟩,fun b u q n _=>by rw[A6 (hx b n)];exact n,fun b u q _=>?_,
  fun b xs q=>by rw[A6 (hm b _ q fun z=>z)];exact q,fun b u xs q=>by rw[A6 (hm b _ q fun z=>z)];exact q,fun b ps q=>⟨#[],by rw[A6 (hm b _ q fun z=>z),q];simp⟩⟩
 by_cases hbe:b=e
 ·subst hbe;exact heo
 ·exact ⟨u,k b u hbe q⟩
end
def trk (h:Heap) (H:Hp):List Addr:=(List.range h.objs.size).filter fun a=>(H a).isSome
def APL (h:Heap) (H:Hp):Heap:=PySem.W.hideAll h (trk h H)
theorem ANC (h:Heap) (H:Hp):(APL h H).objs.size=h.objs.size:=PySem.W.hideAll_size _ _
theorem AQH {h:Heap} {H:Hp} {b:Addr} {o:Obj} (e:h.get? b=some o) (n:H b=none):(APL h H).get? b=some o :=
 PySem.W.hideAll_get _ e fun hm=>by
  have q:(H b).isSome=true:=(List.mem_filter.mp hm).2
  rw[n]at q;simp at q
theorem AX1 {h:Heap} {H:Hp} {b:Addr} {o:Obj} (e:(APL h H).get? b=some o):h.get? b=some o∧H b=none:=by
 have e':h.get? b=some o:=PySem.W.of_hideAll (trk h H) e
 refine ⟨e',?_⟩
 cases q:H b with
 | none=>rfl
 | some x =>
  have hm:b∈trk h H:=List.mem_filter.mpr ⟨List.mem_range.mpr (Heap.lt_size e'),by simp[q]⟩
  have z:(APL h H).get? b=none:=PySem.W.hideAll_none (trk h H) hm
  rw[z]at e;cases e
def AVB (g h:Heap) (L:Addr):List (Addr × Obj):=(List.range h.objs.size).filterMap fun a=>if a=L∨(g.get? a).isSome=true then none else (h.get? a).map fun o=>(a,o)
def rest (g h:Heap) (L d:Addr):List (Addr × Obj):=(AVB g h L).filter fun p=>decide (p.1≠d)
structure Mod (K:PySem.W.Frag) (mg:Str→Option Value) (base:Heap):Prop where
 kin:K.In base
 glob:base.Ns mainGlobals mg
 blt:∃mb,base.Ns builtinsNs mb∧∀x:Str,x≠"__name__"→mb x=bootBuiltins x
 nolimit:base.NoLimit
structure Cx where
 prog:Program
 w:World
 K:PySem.W.Frag
 mg:Str→Option Value
 base:Heap
 A:Around
 N:List Str
 s₀:Shared
 H₀:Hp
 env:Env
 outer:List Env
 stack:List Env
 ex:List Addr
 fn:Str→Bool
 calm:Bool
 pn:List (Addr × Obj)
 xe:Value→Shared→Prop
def frs (l:List Env):List Addr:=l.filterMap (·.frame)
abbrev Cx.fs (X:Cx):List Addr:=frs X.outer
def Vis (sc:Scope) (x:Str):Prop:=sc.names.lookup x=some .local∨sc.names.lookup x=some .cell∨sc.names.lookup x=some .free
def Loc (sc:Scope) (x:Str):Prop:=sc.names.lookup x=some .local∨sc.names.lookup x=some .cell
def AfL (env:Env) (h:Heap) (m:Str→Option Value) (x:Str) (u:Value):Prop :=
 (env.kindOf x=some .local∧m x=some u)∨((env.kindOf x=some .cell∨env.kindOf x=some .free)∧∃c,env.cells.lookup x=some c∧h.IsCell c (some u))
structure Cx.Ok (X:Cx):Prop where
 mod:Mod X.K X.mg X.base
 kind:X.env.scope.kind=.function
 glob:X.env.globals=mainGlobals
 blt:X.env.builtins=builtinsNs
 above:X.s₀.heap.objs.size≤X.env.locals
 inj:∀x y c,X.env.cells.lookup x=some c→X.env.cells.lookup y=some c→x=y
 has:∀x,(X.env.kindOf x=some .cell∨X.env.kindOf x=some .free)→∃c,X.env.cells.lookup x=some c
 cab:∀x c,X.fn x=true→X.env.cells.lookup x=some c→X.s₀.heap.objs.size≤c
 hd:X.calm=true→X.A.handled=none
 frames:X.A.frames=some X.stack
 stk:X.stack=X.outer∨(X.stack=X.env::X.outer∧X.env.frame=some X.env.locals)
 exf:∀b∈X.ex,b≠X.env.locals∧∀x c,X.env.cells.lookup x=some c→c≠b
 bs:∀b o,X.base.get? b=some o→X.s₀.heap.get? b=some o∧X.H₀ b=none
 bsz:X.base.objs.size≤X.s₀.heap.objs.size
 noex:∀b o,X.base.get? b=some o→b ∉ X.ex
 exfs:∀b∈X.ex,b ∉ X.fs
 funs:X.s₀.heap.FunFrames X.base X.outer
 frf:∀b∈X.fs,X.H₀ b=none
structure Inv (X:Cx) (pins:List (Addr × Obj)) (σ:List (Option V)) (H:Hp) (s:Shared):Prop where
 ok:X.Ok
 os:s.os=X.s₀.os
 bare:AllBare s.gens
 base:Un X.fs X.ex X.H₀ H X.s₀.heap s.heap
 loc:∃m,s.heap.Ns X.env.locals m∧∀(i:Nat) (x:Str) (v:V),X.N[i]?=some x→σ[i]?=some (some v)→Vis X.env.scope x→∃u,RelV v u∧AfL X.env s.heap m x u
 cell:∀x c,X.env.cells.lookup x=some c→∃v,s.heap.IsCell c v
 free:H X.env.locals=none
 freeC:∀x c,X.env.cells.lookup x=some c→H c=none
 pin:∀p∈X.pn++pins,s.heap.get? p.1=some p.2∧H p.1=none∧p.1≠X.env.locals∧p.1 ∉ X.fs∧∀v,p.2.data≠.cell v
 hok:HOk X.prog X.w H s.heap
 len:σ.length=X.N.length
section
variable {X:Cx} {pins:List (Addr × Obj)} {σ:List (Option V)} {H H':Hp} {s:Shared} {h':Heap}
theorem Cx.Ok.nofr (ok:X.Ok) {b:Addr} {o:Obj} (e:X.base.get? b=some o):b ∉ X.fs:=fun hb=>by
 have:=(ok.funs.mem hb).1
 rw[e]at this;cases this
theorem Inv.bs (I:Inv X pins σ H s):∀b o,X.base.get? b=some o→s.heap.get? b=some o∧H b=none:=fun b o e =>
 ⟨I.base.keep b o (I.ok.bs b o e).1 (I.ok.bs b o e).2 (I.ok.nofr e) (I.ok.noex b o e),I.base.free b o (I.ok.bs b o e).1 (I.ok.bs b o e).2 (I.ok.noex b o e)⟩
theorem Inv.bk (I:Inv X pins σ H s):∀b o,X.base.get? b=some o→s.heap.get? b=some o:=fun b o e=>(I.bs b o e).1
theorem Inv.mod (I:Inv X pins σ H s):Mod X.K X.mg X.base:=I.ok.mod
theorem Inv.kIn (I:Inv X pins σ H s):X.K.In s.heap:=I.ok.mod.kin.keeps I.bk
theorem Inv.lt (I:Inv X pins σ H s):X.env.locals<s.heap.objs.size:=let ⟨_,hn,_⟩:=I.loc;hn.lt
theorem Inv.sz (I:Inv X pins σ H s):X.s₀.heap.objs.size≤s.heap.objs.size:=Nat.le_trans I.ok.above (Nat.le_of_lt I.lt)
theorem Inv.nofs (I:Inv X pins σ H s) {a:Addr} (h:s.heap.objs.size≤a):a ∉ X.fs:=fun hb=>by
 obtain ⟨_,o,ho,_⟩:=I.ok.funs.mem hb
 exact absurd (Nat.lt_of_lt_of_le (Heap.lt_size ho) (Nat.le_trans I.sz h)) (Nat.lt_irrefl _)
theorem Inv.cne (I:Inv X pins σ H s):∀x c,X.env.cells.lookup x=some c→c≠X.env.locals:=fun x c e z=>by
 obtain ⟨v,o,ho,hd⟩:=I.cell x c e
 obtain ⟨m,⟨o',es,ep,ho',hd',_⟩,_⟩:=I.loc
 rw[z,ho']at ho;cases ho;rw[hd']at hd;cases hd
theorem Inv.funs (I:Inv X pins σ H s):s.heap.FunFrames X.base X.outer:=by
 have all:∀(l:List Env),(∀b∈frs l,b∈X.fs)→X.s₀.heap.FunFrames X.base l→s.heap.FunFrames X.base l:=by
  intro l
  induction l with
  | nil=>intro _ _;trivial
  | cons env r ih =>
   intro hs hl
   obtain ⟨hk,⟨L,o,hf,hn,ho,hd⟩,hr⟩:=hl
   have hL:L∈X.fs:=hs L (by unfold frs;rw[List.filterMap_cons,hf];exact List.mem_cons_self)
   obtain ⟨sl,e⟩:=I.base.slot L o ho (I.ok.frf L hL) hL fun z=>I.ok.exfs L z hL
   exact ⟨hk,⟨L,_,hf,hn,e,hd⟩,ih (fun b hb=>hs b (by unfold frs;rw[List.filterMap_cons,hf];exact List.mem_cons_of_mem _ hb)) hr⟩
 exact all X.outer (fun _ hb=>hb) I.ok.funs
theorem Inv.stack (I:Inv X pins σ H s):s.heap.FunFrames X.base X.stack:=by
 rcases I.ok.stk with e | ⟨e,hf⟩
 ·rw[e];exact I.funs
 ·rw[e]
  obtain ⟨m,hn,_⟩:=I.loc
  refine .cons (by rw[I.ok.kind];decide) hf hn ?_ I.funs
  exact Heap.get?_none_of_le (Nat.le_trans I.ok.bsz I.ok.above)
theorem Inv.stkSub (I:Inv X pins σ H s):∀b∈frs X.stack,b∈X.env.locals::X.fs:=fun b hb=>by
 rcases I.ok.stk with e | ⟨e,hf⟩
 ·rw[e]at hb;exact List.mem_cons_of_mem _ hb
 ·rw[e]at hb
  unfold frs at hb
  rw[List.filterMap_cons,hf]at hb
  exact hb
theorem Inv.stkFree (I:Inv X pins σ H s):∀b∈frs X.stack,H b=none:=fun b hb=>by
 rcases List.mem_cons.mp (I.stkSub b hb) with e | hb
 ·rw[e];exact I.free
 ·obtain ⟨_,o,ho,_⟩:=I.ok.funs.mem hb
  exact I.base.free b o ho (I.ok.frf b hb) fun z=>I.ok.exfs b z hb
theorem Inv.step {g':Array GenState} {t':Nat} {d':Drawn} {ch:List Addr} (I:Inv X pins σ H s)
  (hch:∀b∈ch,(b∈X.ex∨X.s₀.heap.objs.size≤b)∧b≠X.env.locals∧(∀x c,X.env.cells.lookup x=some c→c≠b)∧∀p∈X.pn++pins,p.1≠b)
  (keep:∀b o,b≠X.env.locals→b ∉ X.fs→b ∉ ch→s.heap.get? b=some o→H b=none→h'.get? b=some o)
  (slot:∀b o,b≠X.env.locals→b∈X.fs→b ∉ ch→s.heap.get? b=some o→H b=none→∃sl,h'.get? b=some {o with slots:=sl}) (free:∀b o,b ∉ ch→s.heap.get? b=some o→H b=none→H' b=none)
  (there:∀b o,b ∉ ch→s.heap.get? b=some o→∃o',h'.get? b=some o')
  (tups:∀b xs,H b=some (.tup xs)→H' b=some (.tup xs)) (frzs:∀b o u,H b=some (.frz o u)→H' b=some (.frz o u)) (tbls:∀b ps,H b=some (.tbl ps)→∃more,H' b=some (.tbl (ps++more)))
  (ns:∀m,s.heap.Ns X.env.locals m→h'.Ns X.env.locals m) (hok:HOk X.prog X.w H' h') (hg:AllBare g') :
  Inv X pins σ H' {s with heap:=h',gens:=g',drawn:=d',toks:=t'}:=by
 have neL:∀b o,X.s₀.heap.get? b=some o→b≠X.env.locals:=fun b o e=>Nat.ne_of_lt (Nat.lt_of_lt_of_le (Heap.lt_size e) I.ok.above)
 have neC:∀b o,X.s₀.heap.get? b=some o→b ∉ X.ex→b ∉ ch:=fun b o e hx hb=>by
  rcases (hch b hb).1 with z | z
  ·exact hx z
  ·exact absurd (Nat.lt_of_lt_of_le (Heap.lt_size e) z) (Nat.lt_irrefl _)
 have cellK:∀x c,X.env.cells.lookup x=some c→∀v,s.heap.IsCell c v→h'.IsCell c v:=fun x c e v ⟨o,ho,hd⟩=>by
  have nch:c ∉ ch:=fun z=>(hch c z).2.2.1 x c e rfl
  by_cases hc:c∈X.fs
  ·obtain ⟨sl,q⟩:=slot c o (I.cne x c e) hc nch ho (I.freeC x c e)
   exact ⟨_,q,hd⟩
  ·exact ⟨o,keep c o (I.cne x c e) hc nch ho (I.freeC x c e),hd⟩
 refine ⟨I.ok,I.os,hg,⟨fun b o e n hb hx=>?_,fun b o e n hb hx=>?_,fun b o e n hx=>?_,fun b o e hx=>?_,fun b xs e=>tups b xs (I.base.tups b xs e),fun b o xs e=>frzs b o xs (I.base.frzs b o xs e),fun b ps e=>?_⟩,?_,fun x c e=>?_,?_,fun x c e=>?_,fun p hp=>?_,hok,I.len⟩
 ·exact keep b o (neL b o e) hb (neC b o e hx) (I.base.keep b o e n hb hx) (I.base.free b o e n hx)
 ·obtain ⟨sl,e1⟩:=I.base.slot b o e n hb hx
  obtain ⟨sl',e2⟩:=slot b _ (neL b o e) hb (neC b o e hx) e1 (I.base.free b o e n hx)
  exact ⟨sl',e2⟩
 ·obtain ⟨o',e1⟩:=I.base.there b o e hx
  exact free b o' (neC b o e hx) e1 (I.base.free b o e n hx)
 ·obtain ⟨o',e1⟩:=I.base.there b o e hx
  exact there b o' (neC b o e hx) e1
 ·obtain ⟨m1,e1⟩:=I.base.tbls b ps e
  obtain ⟨m2,e2⟩:=tbls b _ e1
  exact ⟨m1++m2,by rw[e2,Array.append_assoc]⟩
 ·obtain ⟨m,hn,hl⟩:=I.loc
  refine ⟨m,ns m hn,fun i x v e1 e2 e3=>?_⟩
  obtain ⟨u,r,l⟩:=hl i x v e1 e2 e3
  refine ⟨u,r,?_⟩
  rcases l with l | ⟨k,c,e,z⟩
  ·exact .inl l
  ·exact .inr ⟨k,c,e,cellK x c e _ z⟩
 ·obtain ⟨v,z⟩:=I.cell x c e
  exact ⟨v,cellK x c e v z⟩
 ·obtain ⟨m,⟨o,_,_,ho,_⟩,_⟩:=I.loc
  exact free _ o (fun z=>(hch _ z).2.1 rfl) ho I.free
 ·obtain ⟨v,o,ho,hd⟩:=I.cell x c e
  exact free c o (fun z=>(hch c z).2.2.1 x c e rfl) ho (I.freeC x c e)
 ·obtain ⟨e,n,ne,nf,d⟩:=I.pin p hp
  have nch:p.1 ∉ ch:=fun z=>(hch p.1 z).2.2.2 p hp rfl
  exact ⟨keep p.1 p.2 ne nf nch e n,free p.1 p.2 nch e n,ne,nf,d⟩
theorem Inv.un {t':Nat} (I:Inv X pins σ H s) (u:Un X.fs [] H H' s.heap h') (hok:HOk X.prog X.w H' h'):Inv X pins σ H' {s with heap:=h',toks:=t'}:=by
 obtain ⟨m,⟨o,es,ep,ho,r⟩,_⟩:=id I.loc
 obtain ⟨sl,hL⟩:=u.any ho I.free (by simp)
 exact I.step (g':=s.gens) (d':=s.drawn) (ch:=[]) (fun _ z=>nomatch z) (fun b o _ hb _ e n=>u.keep b o e n hb (by simp)) (fun b o _ hb _ e n=>u.slot b o e n hb (by simp)) (fun b o _ e n=>u.free b o e n (by simp)) (fun b o _ e=>u.there b o e (by simp)) u.tups u.frzs u.tbls (fun m' hm=>by
  obtain ⟨o',es',ep',ho',r'⟩:=hm
  rw[ho]at ho';cases ho'
  exact ⟨_,es',ep',hL,r'⟩) hok I.bare
theorem Inv.call {g':Array GenState} {t':Nat} {d':Drawn} {ch:List Addr} (I:Inv X pins σ H s) (u:Un (frs X.stack) ch H H' s.heap h') (hok:HOk X.prog X.w H' h') (hg:AllBare g')
  (hch:∀b∈ch,(b∈X.ex∨X.s₀.heap.objs.size≤b)∧b≠X.env.locals∧(∀x c,X.env.cells.lookup x=some c→c≠b)∧∀p∈X.pn++pins,p.1≠b) :
  Inv X pins σ H' {s with heap:=h',gens:=g',drawn:=d',toks:=t'}:=by
 obtain ⟨m,⟨o,es,ep,ho,r⟩,_⟩:=id I.loc
 obtain ⟨sl,hL⟩:=u.any ho I.free fun z=>(hch _ z).2.1 rfl
 exact I.step (ch:=ch) hch (fun b o hL hb hc e n=>u.keep b o e n (fun z=>(List.mem_cons.mp (I.stkSub b z)).elim hL hb) hc) (fun b o _ _ hc e n=>u.any e n hc) (fun b o hc e n=>u.free b o e n hc) (fun b o hc e=>u.there b o e hc) u.tups u.frzs u.tbls (fun m' hm=>by
  obtain ⟨o',es',ep',ho',r'⟩:=hm
  rw[ho]at ho';cases ho'
  exact ⟨_,es',ep',hL,r'⟩) hok hg
theorem Inv.turned {t':Nat} {it:Addr} (I:Inv X pins σ H s) (k:∀b o,b≠it→s.heap.get? b=some o→h'.get? b=some o) (hn:H it=none) (hL:it≠X.env.locals)
  (h1:it∈X.ex∨X.s₀.heap.objs.size≤it) (h2:∀x c,X.env.cells.lookup x=some c→c≠it) (h3:∀p∈X.pn++pins,p.1≠it):Inv X pins σ H {s with heap:=h',toks:=t'}:=by
 have nit:∀b u,H b=some u→b≠it:=fun b u e z=>by rw[z,hn]at e;cases e
 refine I.step (g':=s.gens) (d':=s.drawn) (ch:=[it]) (fun b hb=>?_) (fun b o _ _ hc e _=>k b o (fun z=>hc (by simp[z])) e) (fun b o _ _ hc e _=>⟨o.slots,k b o (fun z=>hc (by simp[z])) e⟩) (fun _ _ _ _ n=>n)
  (fun b o hc e=>⟨o,k b o (fun z=>hc (by simp[z])) e⟩) (fun _ _ e=>e) (fun _ _ _ e=>e) (fun b ps e=>⟨#[],by rw[e];simp⟩) (fun m hm=>?_) (fun b u e=>?_) I.bare
 ·have e:b=it:=by simpa using hb
  subst e
  exact ⟨h1,hL,h2,h3⟩
 ·obtain ⟨o,es,ep,ho,r⟩:=hm
  exact ⟨o,es,ep,k _ o (Ne.symm hL) ho,r⟩
 ·refine (I.hok b u e).stay (fun c v hc q=>k c v ?_ q) (fun _ q=>q) fun _ _ q=>q
  rcases hc with z | z
  ·rw[z];exact nit b u e
  ·exact nit c _ z
theorem Inv.tok (I:Inv X pins σ H s) (t:Nat):Inv X pins σ H {s with toks:=t}:=I.un (h':=s.heap) (t':=t) Un.refl I.hok
theorem Inv.kept {t':Nat} (I:Inv X pins σ H s) (k:∀b u,s.heap.get? b=some u→h'.get? b=some u):Inv X pins σ H {s with heap:=h',toks:=t'}:=I.un (Un.kept k) (I.hok.kept k)
theorem Inv.laid {a:Addr} {o:HO} {t':Nat} (I:Inv X pins σ H s) (k:∀b u,s.heap.get? b=some u→h'.get? b=some u) (hp:s.heap.objs.size≤a) (new:ObjOk X.prog X.w (upd H a o) h' a o) :
  Inv X pins σ (upd H a o) {s with heap:=h',toks:=t'}:=I.un (Un.laid k hp (I.hok.fresh hp)) (I.hok.laid k hp new)
theorem Inv.write {x e:Addr} {o:HO} {t':Nat} (I:Inv X pins σ H s) (mu:Mut (H x)) (he:e=x∨H e=some (.own x)) (k:∀b u,b≠e→s.heap.get? b=some u→h'.get? b=some u) (heo:∃u,h'.get? e=some u)
  (new:ObjOk X.prog X.w (upd H x o) h' x o):Inv X pins σ (upd H x o) {s with heap:=h',toks:=t'}:=I.un (Un.write mu he k heo) (I.hok.write mu he k heo new)
theorem Inv.pins_of {pins':List (Addr × Obj)} (I:Inv X pins σ H s) (h:∀p∈pins',s.heap.get? p.1=some p.2∧H p.1=none∧p.1≠X.env.locals∧p.1 ∉ X.fs∧∀v,p.2.data≠.cell v):Inv X pins' σ H s :=
 ⟨I.ok,I.os,I.bare,I.base,I.loc,I.cell,I.free,I.freeC,fun p hp=>(List.mem_append.mp hp).elim (fun z=>I.pin p (List.mem_append_left _ z)) (h p),I.hok,I.len⟩
theorem AEE {N:List Str} (hN:N.Nodup) {i j:Nat} {x:Str} (a:N[i]?=some x) (b:N[j]?=some x):i=j:=by
 obtain ⟨h1,e1⟩:=List.getElem?_eq_some_iff.mp a
 obtain ⟨h2,e2⟩:=List.getElem?_eq_some_iff.mp b
 exact (List.getElem_inj hN).mp (e1.trans e2.symm)
theorem AO3 {M:Model} {A:Around} {E:Value→Shared→Prop} {i:Nat} {x:Str} {v:V} {u:Value} {Q:Unit→Shared→Prop} (I:Inv X pins σ H s) (hN:X.N.Nodup) (hi:X.N[i]?=some x) (hx:Loc X.env.scope x) (r:RelV v u)
  (h:∀s',Inv X pins (σ.set i (some v)) H s'→(∃a,Heap.SameBut a s.heap s'.heap∧(a=X.env.locals∨X.env.cells.lookup x=some a))→Q () s') (hf:X.fn x=true∨X.env.scope.names.lookup x=some .local:=by first | exact .inl rfl | exact .inr rfl | assumption):wpAny M A (storeName X.env x u) Q E s:=by
 obtain ⟨m,hn,hl⟩:=id I.loc
 have hcls:(X.env.scope.kind == .class||(X.env.scope.kind == .module&&X.env.locals != X.env.globals))=false:=by rw[I.ok.kind];rfl
 have hiσ:i<σ.length:=by rw[I.len];exact (List.getElem?_eq_some_iff.mp hi).1
 have cne:=I.cne
 have tracked:∀{a:Addr} {h':Heap},(∃o,s.heap.get? a=some o∧H a=none)→Heap.SameBut a s.heap h'→HOk X.prog X.w H h':=fun {a h'} ha hs b ob e=>by
  obtain ⟨_,_,hfree⟩:=ha
  refine (I.hok b ob e).stay (fun c w' hc q=>(hs.2 c ?_).trans q) (fun _ q=>q) fun _ _ q=>q
  rintro rfl
  rcases hc with rfl | hc
  ·rw[hfree]at e;cases e
  ·rw[hfree]at hc;cases hc
 rcases hx with hk | hk
 ·refine wpAny_storeName_local hk hn (fun h' hn' hs=>?_) hcls
  obtain ⟨oL,_,_,hoL,_⟩:=id hn
  refine h _ ⟨I.ok,I.os,I.bare,⟨fun b o e n hb hx=>?_,fun b o e n hb hx=>?_,I.base.free,fun b o e hx=>?_,I.base.tups,I.base.frzs,I.base.tbls⟩,⟨_,hn',fun j y v' e1 e2 e3=>?_⟩,fun y c e=>?_,I.free,I.freeC,fun p hp=>?_,tracked ⟨oL,hoL,I.free⟩ hs,by simpa using I.len⟩ ⟨_,hs,.inl rfl⟩
  ·exact (hs.2 b (Nat.ne_of_lt (Nat.lt_of_lt_of_le (Heap.lt_size e) I.ok.above))).trans (I.base.keep b o e n hb hx)
  ·obtain ⟨sl,e1⟩:=I.base.slot b o e n hb hx
   exact ⟨sl,(hs.2 b (Nat.ne_of_lt (Nat.lt_of_lt_of_le (Heap.lt_size e) I.ok.above))).trans e1⟩
  ·obtain ⟨o',e1⟩:=I.base.there b o e hx
   exact ⟨o',(hs.2 b (Nat.ne_of_lt (Nat.lt_of_lt_of_le (Heap.lt_size e) I.ok.above))).trans e1⟩
  ·by_cases hj:j=i
   ·subst hj
    rw[hi]at e1;cases e1
    rw[List.getElem?_set_self hiσ]at e2
    cases e2
    exact ⟨u,r,.inl ⟨hk,by simp⟩⟩
   ·rw[List.getElem?_set_ne (Ne.symm hj)]at e2
    obtain ⟨u',r',q⟩:=hl j y v' e1 e2 e3
    refine ⟨u',r',?_⟩
    rcases q with ⟨k,e⟩ | ⟨k,c,e,z⟩
    ·refine .inl ⟨k,?_⟩
     have:y≠x:=fun e=>hj (AEE hN e1 (e▸hi))
     simp[this,e]
    ·exact .inr ⟨k,c,e,z.sameBut hs (cne y c e)⟩
  ·obtain ⟨w',z⟩:=I.cell y c e
   exact ⟨w',z.sameBut hs (cne y c e)⟩
  ·obtain ⟨e,n,ne,nf,d⟩:=I.pin p hp
   exact ⟨(hs.2 p.1 ne).trans e,n,ne,nf,d⟩
 ·have hfn:X.fn x=true:=by
   rcases hf with z | z
   ·exact z
   ·rw[z]at hk;cases hk
  obtain ⟨c,hc⟩:=I.ok.has x (.inl hk)
  obtain ⟨w',z⟩:=I.cell x c hc
  refine wpAny_storeName_cell I.ok.kind hk hc z (fun h' hc' hs=>?_)
  obtain ⟨oc,hoc,hocd⟩:=id z
  refine h {s with heap:=h'} ⟨I.ok,I.os,I.bare,⟨fun b o e n hb hx=>?_,fun b o e n hb hx=>?_,I.base.free,fun b o e hx=>?_,I.base.tups,I.base.frzs,I.base.tbls⟩,⟨m,hn.sameBut hs (Ne.symm (cne x c hc)),fun j y v' e1 e2 e3=>?_⟩,fun y c' e=>?_,I.free,I.freeC,fun p hp=>?_,tracked ⟨oc,hoc,I.freeC x c hc⟩ hs,by simpa using I.len⟩ ⟨c,hs,.inr hc⟩
  ·exact (hs.2 b (Nat.ne_of_lt (Nat.lt_of_lt_of_le (Heap.lt_size e) (I.ok.cab x c hfn hc)))).trans (I.base.keep b o e n hb hx)
  ·obtain ⟨sl,e1⟩:=I.base.slot b o e n hb hx
   exact ⟨sl,(hs.2 b (Nat.ne_of_lt (Nat.lt_of_lt_of_le (Heap.lt_size e) (I.ok.cab x c hfn hc)))).trans e1⟩
  ·obtain ⟨o',e1⟩:=I.base.there b o e hx
   exact ⟨o',(hs.2 b (Nat.ne_of_lt (Nat.lt_of_lt_of_le (Heap.lt_size e) (I.ok.cab x c hfn hc)))).trans e1⟩
  ·by_cases hj:j=i
   ·subst hj
    rw[hi]at e1;cases e1
    rw[List.getElem?_set_self hiσ]at e2
    cases e2
    exact ⟨u,r,.inr ⟨.inl hk,c,hc,hc'⟩⟩
   ·rw[List.getElem?_set_ne (Ne.symm hj)]at e2
    obtain ⟨u',r',q⟩:=hl j y v' e1 e2 e3
    refine ⟨u',r',?_⟩
    rcases q with q | ⟨k,c',e,z'⟩
    ·exact .inl q
    ·refine .inr ⟨k,c',e,z'.sameBut hs ?_⟩
     rintro rfl
     exact hj (AEE hN e1 (I.ok.inj _ _ _ e hc▸hi))
  ·by_cases hcc:c'=c
   ·subst hcc;exact ⟨_,hc'⟩
   ·obtain ⟨w2,z2⟩:=I.cell y c' e
    exact ⟨w2,z2.sameBut hs hcc⟩
  ·obtain ⟨e,n,ne,nf,d⟩:=I.pin p hp
   refine ⟨(hs.2 p.1 ?_).trans e,n,ne,nf,d⟩
   intro q
   rw[q,hoc]at e
   have q':oc=p.2:=Option.some.inj e
   exact d w' (by rw[←q'];exact hocd)
theorem AB9 {M:Model} {A:Around} {E:Value→Shared→Prop} {i:Nat} {x:Str} {v:V} {u:Value} {Q:Unit→Shared→Prop} (I:Inv X pins σ H s) (hN:X.N.Nodup) (hi:X.N[i]?=some x) (hx:Loc X.env.scope x) (r:RelV v u)
  (h:∀s',Inv X pins (σ.set i (some v)) H s'→Q () s') (hf:X.fn x=true∨X.env.scope.names.lookup x=some .local:=by first | exact .inl rfl | exact .inr rfl | assumption):wpAny M A (storeName X.env x u) Q E s :=
 AO3 I hN hi hx r (fun s' I' _=>h s' I') hf
theorem Inv.call' {s':Shared} {ch:List Addr} (I:Inv X pins σ H s) (ho:s'.os=s.os) (u:Un (frs X.stack) ch H H' s.heap s'.heap) (hok:HOk X.prog X.w H' s'.heap) (hg:AllBare s'.gens)
  (hch:∀b∈ch,(b∈X.ex∨X.s₀.heap.objs.size≤b)∧b≠X.env.locals∧(∀x c,X.env.cells.lookup x=some c→c≠b)∧∀p∈X.pn++pins,p.1≠b):Inv X pins σ H' s':=by
 obtain ⟨h',g',d',t',o'⟩:=s'
 have e:o'=s.os:=ho
 subst e
 exact I.call (g':=g') (t':=t') (d':=d') u hok hg hch
end
abbrev XK:=Value→Option Addr→Hp→Prop
abbrev St:=List (Option V)
abbrev VK:=V→Hp→Prop
abbrev TE:=St→Hp→VK→Prop
abbrev TT:=St→Hp→(Bool→Hp→Prop)→Prop
abbrev TA:=St→Hp→(List V→Hp→Prop)→Prop
structure Ends where
 nx:St→Hp→Prop
 rt:VK
 bk:St→Hp→Prop:=fun _ _=>False
 ct:St→Hp→Prop:=fun _ _=>False
abbrev TS:=Ends→St→Hp→Prop
def EP (X:Cx) (pins:List (Addr × Obj)) (σ:St) (Q:VK) (u:Value) (s':Shared):Prop:=∃v H',Inv X pins σ H' s'∧RelV v u∧Q v H'
def TP (X:Cx) (pins:List (Addr × Obj)) (σ:St) (Q:Bool→Hp→Prop) (b:Bool) (s':Shared):Prop:=∃H',Inv X pins σ H' s'∧Q b H'
def AP (X:Cx) (pins:List (Addr × Obj)) (σ:St) (Q:List V→Hp→Prop) (us:List Value) (s':Shared):Prop:=∃vs H',Inv X pins σ H' s'∧Vals vs us∧Q vs H'
def SP (X:Cx) (pins:List (Addr × Obj)) (D:Ends) (f:Flow) (s':Shared):Prop :=
 match f with
 | .next=>∃σ' H',Inv X pins σ' H' s'∧D.nx σ' H'
 | .brk=>∃σ' H',Inv X pins σ' H' s'∧D.bk σ' H'
 | .cont=>∃σ' H',Inv X pins σ' H' s'∧D.ct σ' H'
 | .ret u=>∃v σ' H',Inv X pins σ' H' s'∧RelV v u∧D.rt v H'
def PE (X:Cx) (e:Expr) (t:TE):Prop :=
 ∀(pins:List (Addr × Obj)) (s:Shared) (σ:St) (H:Hp) (Q:VK),Inv X pins σ H s→t σ H Q→wpAny (model X.prog X.w) X.A (eval e X.env) (EP X pins σ Q) X.xe s
def PT (X:Cx) (e:Expr) (t:TT):Prop :=
 ∀(pins:List (Addr × Obj)) (s:Shared) (σ:St) (H:Hp) (Q:Bool→Hp→Prop),Inv X pins σ H s→t σ H Q→wpAny (model X.prog X.w) X.A (isTrue e X.env (eval e X.env)) (TP X pins σ Q) X.xe s
def PW (X:Cx) (e:Expr) (t:TT):Prop :=
 ∀(whole:Sem Value) (pins:List (Addr × Obj)) (s:Shared) (σ:St) (H:Hp) (Q:Bool→Hp→Prop),Inv X pins σ H s→t σ H Q→wpAny (model X.prog X.w) X.A (isTrue e X.env whole) (TP X pins σ Q) X.xe s
theorem PW.pt {X:Cx} {e:Expr} {t:TT} (h:PW X e t):PT X e t:=h _
def PA (X:Cx) (es:List Expr) (t:TA):Prop :=
 ∀(pos:Pos) (pins:List (Addr × Obj)) (s:Shared) (σ:St) (H:Hp) (Q:List V→Hp→Prop),Inv X pins σ H s→t σ H Q→wpAny (model X.prog X.w) X.A (spliced (backTo pos (starEach es X.env))) (AP X pins σ Q) X.xe s
def PS (X:Cx) (st:Stmt) (t:TS):Prop :=
 ∀(pins:List (Addr × Obj)) (s:Shared) (σ:St) (H:Hp) (D:Ends),Inv X pins σ H s→t D σ H→wpAny (model X.prog X.w) X.A (exec st X.env) (SP X pins D) X.xe s
def PSs (X:Cx) (st:List Stmt) (t:TS):Prop :=
 ∀(pins:List (Addr × Obj)) (s:Shared) (σ:St) (H:Hp) (D:Ends),Inv X pins σ H s→t D σ H→wpAny (model X.prog X.w) X.A (execs st X.env) (SP X pins D) X.xe s
theorem thn {α:Type} {t:Sem α} {Q Q':α→Shared→Prop} {M:Model} {A:Around} {E:Value→Shared→Prop} {s:Shared} (h:wpAny M A t Q E s) (hQ:∀a s,Q a s→Q' a s):wpAny M A t Q' E s:=wpAny_mono h hQ fun _ _ x=>x
section
variable {X:Cx}
theorem bin {a b:Expr} {ta tb:TE} (ha:PE X a ta) (hb:PE X b tb) {pins:List (Addr × Obj)} {s:Shared} {σ:St} {H:Hp} {R:V→V→Hp→Prop} (I:Inv X pins σ H s) (h:ta σ H fun x H1=>tb σ H1 fun y H2=>R x y H2)
  {α:Type} {Q:α→Shared→Prop} {f:Value→Value→Sem α}
  (hf:∀v u s2 x y H2,Inv X pins σ H2 s2→RelV x v→RelV y u→R x y H2→wpAny (model X.prog X.w) X.A (f v u) Q X.xe s2) :
  wpAny (model X.prog X.w) X.A (eval a X.env) (fun v s₁=>wpAny (model X.prog X.w) X.A (eval b X.env) (fun u s₂=>wpAny (model X.prog X.w) X.A (f v u) Q X.xe s₂) X.xe s₁) X.xe s:=by
 refine thn (ha pins s σ H _ I h) fun v s1 ⟨x,H1,I1,r1,q1⟩=>?_
 refine thn (hb pins s1 σ H1 _ I1 q1) fun u s2 ⟨y,H2,I2,r2,q2⟩=>?_
 exact hf v u s2 x y H2 I2 r1 r2 q2
def Ag1 (i:Nat):TE:=fun σ H Q=>∃v,σ[i]?=some (some v)∧Q v H
def tC (v:V):TE:=fun _ H Q=>Q v H
theorem AO4 {i:Nat} {x:Str} {pos:Pos} (hN:X.N[i]?=some x) (hv:Vis X.env.scope x) (hd:(x == ("__debug__" : Str))=false:=by decide) (hcd:(x == ("__classdict__" : Str))=false:=by decide):PE X (.Name x pos) (Ag1 i):=by
 intro pins s σ H Q I h
 obtain ⟨v,e,h⟩:=h
 obtain ⟨m,hn,hl⟩:=I.loc
 obtain ⟨u,r,l⟩:=hl i x v hN e hv
 have fin:EP X pins σ Q u s:=⟨v,H,I,r,h⟩
 rcases l with ⟨hk,hm⟩ | ⟨hk,c,hc,hcell⟩
 ·exact wpAny_Name (wpAny_loadName_local I.ok.kind hk hn hm fin) hd
 ·rcases hk with hk | hk
  ·exact wpAny_Name (wpAny_loadName_cell I.ok.kind hk hc hcell fin) hd
  ·exact wpAny_Name (wpAny_loadName_free I.ok.kind hk hc hcell fin hcd) hd
theorem AXM {i j pos}:PE X (.Constant (.int i) j pos) (tC (.int i)):=fun _ _ _ H _ I h=>wpAny_Constant_int ⟨.int i,H,I.tok _,⟨_,rfl⟩,h⟩
theorem AbY {b j pos}:PE X (.Constant (.bool b) j pos) (tC (.bl b)):=fun _ _ _ H _ I h=>Constant_bool ⟨.bl b,H,I,rfl,h⟩
theorem Ab2 {j pos}:PE X (.Constant .none j pos) (tC .non):=fun _ _ _ H _ I h=>Constant_none ⟨.non,H,I,rfl,h⟩
theorem AaO {x j pos}:PE X (.Constant (.str x) j pos) (tC (.str x)):=fun _ _ _ H _ I h=>Calls.Constant_str ⟨.str x,H,I.tok _,⟨_,rfl⟩,h⟩
def Gl (X:Cx) (x:Str):Prop:=X.env.kindOf x=some .globalImplicit
theorem AHN {E:Value→Shared→Prop} {pins:List (Addr × Obj)} {s:Shared} {σ:St} {H:Hp} {x:Str} {u:Value} {pos:Pos} {Q:Value→Shared→Prop} (I:Inv X pins σ H s) (hg:Gl X x) (hm:X.mg x=some u) (h:Q u s)
  (hd:(x == ("__debug__" : Str))=false:=by decide):wpAny (model X.prog X.w) X.A (eval (.Name x pos) X.env) Q E s :=
 Calls.Name_function_global I.ok.kind hg (Calls.loadGlobal_global (by rw[I.ok.glob];exact I.mod.glob.keeps I.bk) hm h) hd
theorem P9 {E:Value→Shared→Prop} {pins:List (Addr × Obj)} {s:Shared} {σ:St} {H:Hp} {x:Str} {u:Value} {pos:Pos} {Q:Value→Shared→Prop} (I:Inv X pins σ H s) (hg:Gl X x) (hm:X.mg x=none) (hv:bootBuiltins x=some u) (h:Q u s)
  (hn:x≠"__name__":=by decide) (hd:(x == ("__debug__" : Str))=false:=by decide):wpAny (model X.prog X.w) X.A (eval (.Name x pos) X.env) Q E s:=by
 obtain ⟨mb,h1,h2⟩:=I.mod.blt
 exact Calls.Name_function_global I.ok.kind hg (Calls.loadGlobal_builtin (by rw[I.ok.glob];exact I.mod.glob.keeps I.bk) hm (by rw[I.ok.blt];exact h1.keeps I.bk) ((h2 x hn).trans hv) h) hd
theorem AUB {x:Str} {v:V} {u:Value} {pos:Pos} (hg:Gl X x) (hm:X.mg x=some u) (r:RelV v u) (hd:(x == ("__debug__" : Str))=false:=by decide):PE X (.Name x pos) (tC v) :=
 fun _ _ _ H _ I h=>AHN I hg hm ⟨v,H,I,r,h⟩ hd
theorem AVX {x:Str} {v:V} {u:Value} {pos:Pos} (hg:Gl X x) (hm:X.mg x=none) (hv:bootBuiltins x=some u) (r:RelV v u) (hn:x≠"__name__":=by decide) (hd:(x == ("__debug__" : Str))=false:=by decide):PE X (.Name x pos) (tC v) :=
 fun _ _ _ H _ I h=>P9 I hg hm hv ⟨v,H,I,r,h⟩ hn hd
variable {a b:Expr} {ta tb:TE} {pos:Pos}
def PC (X:Cx) (op:CmpOp) (a b:Expr) (t:TE):Prop :=
 ∀(pins:List (Addr × Obj)) (s:Shared) (σ:St) (H:Hp) (Q:VK),Inv X pins σ H s→t σ H Q →
  wpAny (model X.prog X.w) X.A (eval a X.env) (fun v s₁=>wpAny (model X.prog X.w) X.A (eval b X.env) (fun u s₂=>wpAny (model X.prog X.w) X.A (compareOp op v u) (EP X pins σ Q) X.xe s₂) X.xe s₁) X.xe s
theorem AQ7 (b:Expr) {op:CmpOp} (h:op≠.In) (h2:op≠.NotIn):behindInMarks op b=false:=by
 have e1:(op == CmpOp.In)=false:=by cases op<;>first | rfl | exact absurd rfl h
 have e2:(op == CmpOp.NotIn)=false:=by cases op<;>first | rfl | exact absurd rfl h2
 cases b<;>simp[behindInMarks,e1,e2]
def tB (t:TE):TT:=fun σ H Q=>t σ H fun x H1=>∃c,x=.bl c∧Q c H1
theorem AZQ {op:CmpOp} {t:TE} (h:PC X op a b t) (h1:behindInMarks op b=false:=by first | exact AQ7 _ (by decide) (by decide) | rfl):PT X (.Compare a [op] [b] pos) (tB t):=by
 intro pins s σ H Q I hw
 refine wpAny_isTrue_Compare1 (thn (h pins s σ H _ I hw) fun v s1 h1=>thn h1 fun u s2 h2=>thn h2 fun c s3 ⟨x,H1,I1,r1,q1⟩=>?_) h1
 obtain ⟨d,rfl,q⟩:=q1
 cases r1
 exact wpAny_truthy_bool ⟨H1,I1,q⟩
variable {tA tB':TT} {rest:List Expr}
def AfH (t u:TT):TT:=fun σ H Q=>t σ H fun c H1=>if c=true then u σ H1 Q else Q false H1
def tOr (t u:TT):TT:=fun σ H Q=>t σ H fun c H1=>if c=true then Q true H1 else u σ H1 Q
def AgE (t:TT):TT:=fun σ H Q=>t σ H fun c H1=>Q (!c) H1
theorem AV0 (ha:PT X a tA):PW X (.BoolOp .And [a] pos) tA:=by
 intro wh pins s σ H Q I h
 refine isTrue_and (thn (ha pins s σ H Q I h) fun c s1 e=>?_)
 cases c with
 | true=>exact isTrue_and_nil e
 | false=>exact e
theorem AbH (ha:PT X a tA):PW X (.BoolOp .Or [a] pos) tA:=by
 intro wh pins s σ H Q I h
 refine isTrue_or (thn (ha pins s σ H Q I h) fun c s1 e=>?_)
 cases c with
 | false=>exact isTrue_or_nil e
 | true=>exact e
theorem AZ1 (ha:PT X a tA) (hb:PW X (.BoolOp .And (b::rest) pos) tB'):PW X (.BoolOp .And (a::b::rest) pos) (AfH tA tB'):=by
 intro wh pins s σ H Q I h
 refine isTrue_and (thn (ha pins s σ H _ I h) fun c s1 ⟨H1,I1,q1⟩=>?_)
 cases c with
 | true=>exact hb wh pins s1 σ H1 Q I1 q1
 | false=>exact ⟨H1,I1,q1⟩
theorem Ac4 (ha:PT X a tA) (hb:PW X (.BoolOp .Or (b::rest) pos) tB'):PW X (.BoolOp .Or (a::b::rest) pos) (tOr tA tB'):=by
 intro wh pins s σ H Q I h
 refine isTrue_or (thn (ha pins s σ H _ I h) fun c s1 ⟨H1,I1,q1⟩=>?_)
 cases c with
 | true=>exact ⟨H1,I1,q1⟩
 | false=>exact hb wh pins s1 σ H1 Q I1 q1
theorem AXI (ha:PT X a tA):PT X (.UnaryOp .Not a pos) (AgE tA):=by
 intro pins s σ H Q I h
 exact isTrue_not (ha pins s σ H (fun c H1=>Q (!c) H1) I h)
def AdL (ta tb:TE):TE:=fun σ H Q=>ta σ H fun x H1=>∃c,x=.bl c∧if c=true then tb σ H1 Q else Q (.bl false) H1
def AdE (ta:TE):TE:=fun σ H Q=>ta σ H fun x H1=>∃c,x=.bl c∧Q (.bl (!c)) H1
theorem Aa9 {op} {t:TE} (h:PE X a t):PE X (.BoolOp op [a] pos) t:=fun pins s σ H Q I hw=>BoolOp_one (h pins s σ H Q I hw)
theorem AYY (ha:PE X a ta) (hb:PE X (.BoolOp .And (b::rest) pos) tb):PE X (.BoolOp .And (a::b::rest) pos) (AdL ta tb):=by
 intro pins s σ H Q I h
 refine BoolOp_and (thn (ha pins s σ H _ I h) fun v s1 ⟨x,H1,I1,r1,q1⟩=>?_)
 obtain ⟨c,rfl,q1⟩:=q1
 cases r1
 refine wpAny_truthy_bool ?_
 cases c with
 | true=>exact hb pins s1 σ H1 Q I1 q1
 | false=>exact ⟨.bl false,H1,I1,rfl,q1⟩
theorem AYS (ha:PE X a ta):PE X (.UnaryOp .Not a pos) (AdE ta):=by
 intro pins s σ H Q I h
 refine UnaryOp_ (thn (ha pins s σ H _ I h) fun v s1 ⟨x,H1,I1,r1,q1⟩=>?_)
 obtain ⟨c,rfl,q1⟩:=q1
 cases r1
 exact not_of (wpAny_truthy_bool ⟨.bl (!c),H1,I1,rfl,q1⟩)
def tIf (t:TT) (ta tb:TE):TE:=fun σ H Q=>t σ H fun c H1=>if c=true then ta σ H1 Q else tb σ H1 Q
theorem ASH {c:Expr} (hc:PT X c tA) (ha:PE X a ta) (hb:PE X b tb):PE X (.IfExp c a b pos) (tIf tA ta tb):=by
 intro pins s σ H Q I h
 refine wpAny_IfExp (thn (hc pins s σ H _ I h) fun d s1 ⟨H1,I1,q1⟩=>?_)
 cases d with
 | true=>exact ha pins s1 σ H1 Q I1 q1
 | false=>exact hb pins s1 σ H1 Q I1 q1
end
def SqL (K:PySem.W.Frag) (H:Hp) (a:Addr) (xs:List V):Prop :=
 Rd H a (.lst xs) ∨
  ∃(o:Obj) (its:Array Value) (n:Nat),K.lookup a=some o∧o.cls=.type "list"∧o.dict=none∧o.data=.seq its n∧its.size≤sizeLine∧Vals xs its.toList
def SqT (K:PySem.W.Frag) (H:Hp) (a:Addr) (xs:List V):Prop :=
 Rd H a (.tup xs) ∨
  ∃(o:Obj) (its:Array Value) (n:Nat),K.lookup a=some o∧o.cls=.type "tuple"∧o.data=.seq its n∧its.size≤sizeLine∧Vals xs its.toList
def Ag2:Value→Option V
 | .none=>some .non
 | .bool b=>some (.bl b)
 | .int i _=>some (.int i)
 | .str x _=>some (.str x)
 | .bytes b _=>some (.byt b)
 | .float b _=>some (.flt b)
 | .ref a=>some (.ref a)
 | .type n=>some (.ty n)
 | _=>none
theorem RelV.abs {x:V} {u:Value} (r:RelV x u):Ag2 u=some x:=by
 cases x with
 | non=>cases r;rfl
 | bl _=>cases r;rfl
 | int _=>obtain ⟨t,rfl⟩:=r;rfl
 | str _=>obtain ⟨t,rfl⟩:=r;rfl
 | byt _=>obtain ⟨t,rfl⟩:=r;rfl
 | flt _=>obtain ⟨t,rfl⟩:=r;rfl
 | ref _=>cases r;rfl
 | ty _=>cases r;rfl
theorem RelV.inj {x y:V} {u:Value} (r:RelV x u) (q:RelV y u):x=y:=Option.some.inj (r.abs.symm.trans q.abs)
theorem Vals.inj:∀{xs ys:List V} {us:List Value},Vals xs us→Vals ys us→xs=ys
 | _,_,_,.nil,.nil=>rfl
 | _,_,_,.cons r t,.cons r' t'=>by rw[r.inj r',Vals.inj t t']
section
variable {X:Cx} {pins:List (Addr × Obj)} {σ:St} {H:Hp} {s:Shared} {a:Addr} {xs ys:List V}
theorem SqL.of {K:PySem.W.Frag} (h:H a=some (.lst xs)):SqL K H a xs:=.inl (.inl h)
theorem SqT.of {K:PySem.W.Frag} (h:H a=some (.tup xs)):SqT K H a xs:=.inl (.inl h)
theorem Inv.list (I:Inv X pins σ H s) (h:SqL X.K H a xs):∃its:List Value,Vals xs its∧PlainL s.heap a its.toArray∧xs.length≤sizeLine:=by
 rcases h with h | ⟨o,its,n,hk,hc,hd,hs,hz,r⟩
 ·obtain ⟨z,its,n,r,e⟩:=h.ok I.hok
  exact ⟨its,r,⟨_,n,e,rfl,rfl,rfl⟩,z⟩
 ·refine ⟨its.toList,r,⟨o,n,I.kIn a o hk,hc,hd,by simpa using hs⟩,?_⟩
  have e:=r.length
  simp only[Array.length_toList]at e
  omega
theorem Inv.tuple (I:Inv X pins σ H s) (h:SqT X.K H a xs):∃its:List Value,Vals xs its∧IsTup s.heap a its.toArray∧xs.length≤sizeLine:=by
 rcases h with h | ⟨o,its,n,hk,hc,hs,hz,r⟩
 ·obtain ⟨z,its,r,p⟩:=h.ok I.hok
  exact ⟨its,r,p,z⟩
 ·refine ⟨its.toList,r,⟨o,I.kIn a o hk,hc,n,by simpa using hs⟩,?_⟩
  have e:=r.length
  simp only[Array.length_toList]at e
  omega
theorem Inv.list_inj (I:Inv X pins σ H s) (h:SqL X.K H a xs) (h':SqL X.K H a ys):xs=ys:=by
 obtain ⟨its,r,⟨o,n,e,_,_,d⟩,_⟩:=I.list h
 obtain ⟨its',r',⟨o',n',e',_,_,d'⟩,_⟩:=I.list h'
 rw[e]at e';cases e'
 rw[d]at d'
 injection d' with d1 _
 have:its=its':=by simpa using congrArg Array.toList d1
 subst this
 exact r.inj r'
theorem Inv.tuple_inj (I:Inv X pins σ H s) (h:SqT X.K H a xs) (h':SqT X.K H a ys):xs=ys:=by
 obtain ⟨its,r,⟨o,e,_,n,d⟩,_⟩:=I.tuple h
 obtain ⟨its',r',⟨o',e',_,n',d'⟩,_⟩:=I.tuple h'
 rw[e]at e';cases e'
 rw[d]at d'
 injection d' with d1 _
 have:its=its':=by simpa using congrArg Array.toList d1
 subst this
 exact r.inj r'
end
section
variable {X:Cx} {st:Stmt} {rest:List Stmt} {t u:TS} {e:Expr} {te:TE} {pos:Pos}
def AdD:TS:=fun D σ H=>D.nx σ H
def AfO (t u:TS):TS:=fun D σ H=>t {D with nx:=u D} σ H
theorem ATJ:PSs X [] AdD:=fun _ _ σ H _ I h=>wpAny_execs_nil ⟨σ,H,I,h⟩
theorem V5 (h1:PS X st t) (h2:PSs X rest u):PSs X (st::rest) (AfO t u):=by
 intro pins s σ H D I h
 refine wpAny_execs_cons (thn (h1 pins s σ H {D with nx:=u D} I h) fun f s1 q=>?_)
 cases f with
 | next =>
  obtain ⟨σ',H',I',q⟩:=q
  exact h2 pins s1 σ' H' D I' q
 | ret v=>exact q
 | brk=>exact q
 | cont=>exact q
theorem AOH (h1:PS X st t):PSs X [st] t:=by
 intro pins s σ H D I h
 refine wpAny_execs_cons (thn (h1 pins s σ H D I h) fun f s1 q=>?_)
 cases f with
 | next=>exact wpAny_execs_nil q
 | ret v=>exact q
 | brk=>exact q
 | cont=>exact q
def AZU:TS:=fun D σ H=>D.bk σ H
def AcC:TS:=fun D σ H=>D.ct σ H
theorem ASA:PS X (.Break pos) AZU:=fun _ _ σ H _ I h=>wpAny_Break ⟨σ,H,I,h⟩
theorem AIG:PS X (.Continue pos) AcC:=fun _ _ σ H _ I h=>wpAny_Continue ⟨σ,H,I,h⟩
theorem Inv.quiet {pins:List (Addr × Obj)} {σ:St} {H:Hp} {s:Shared} (I:Inv X pins σ H s):interactive X.env=false:=by simp[interactive,I.ok.kind]
def AdS (te:TE):TS:=fun D σ H=>te σ H fun _ H1=>D.nx σ H1
theorem AM7 (he:PE X e te) (hs:swapsWith e none pos.line X.env=pure false:=by rfl):PS X (.Expr e pos) (AdS te):=by
 intro pins s σ H D I h
 exact wpAny_Expr_any (thn (he pins s σ H _ I h) fun v s1 ⟨x,H1,I1,r1,q1⟩=>⟨σ,H1,I1,q1⟩) I.quiet hs
def AfX (te:TE):TS:=fun D σ H=>te σ H D.rt
theorem AaQ (he:PE X e te):PS X (.Return (some e) pos) (AfX te):=by
 intro pins s σ H D I h
 exact wpAny_Return_some (thn (he pins s σ H _ I h) fun v s1 ⟨x,H1,I1,r1,q1⟩=>⟨x,σ,H1,I1,r1,q1⟩)
def AfF (c:TT) (t u:TS):TS:=fun D σ H=>c σ H fun b H1=>if b=true then t D σ H1 else u D σ H1
theorem Ad8 {c:Expr} {a b:List Stmt} {tc:TT} (hc:PT X c tc) (ha:PSs X a t) (hb:PSs X b u):PS X (.If c a b pos) (AfF tc t u):=by
 intro pins s σ H D I h
 refine wpAny_If (thn (hc pins s σ H _ I h) fun d s1 ⟨H1,I1,q1⟩=>?_)
 cases d with
 | true=>exact ha pins s1 σ H1 D I1 q1
 | false=>exact hb pins s1 σ H1 D I1 q1
end
abbrev TG:=V→St→Hp→(St→Hp→Prop)→Prop
abbrev TGs:=List V→St→Hp→(St→Hp→Prop)→Prop
def PG (X:Cx) (target:Expr) (t:TG):Prop :=
 ∀(pins:List (Addr × Obj)) (s:Shared) (σ:St) (H:Hp) (v:V) (u:Value) (Q:St→Hp→Prop),Inv X pins σ H s→RelV v u→t v σ H Q →
  wpAny (model X.prog X.w) X.A (assign target X.env u) (fun _ s'=>∃σ' H',Inv X pins σ' H' s'∧Q σ' H') X.xe s
def PGs (X:Cx) (ts:List Expr) (t:TGs):Prop :=
 ∀(pins:List (Addr × Obj)) (s:Shared) (σ:St) (H:Hp) (vs:List V) (us:List Value) (Q:St→Hp→Prop),Inv X pins σ H s→Vals vs us→t vs σ H Q →
  wpAny (model X.prog X.w) X.A (assignInOrder ((assignEach ts X.env).map (·.2)) us) (fun _ s'=>∃σ' H',Inv X pins σ' H' s'∧Q σ' H') X.xe s
abbrev AdF:=V→V→V→Hp→(Hp→Prop)→Prop
def AeY (X:Cx) (t:AdF):Prop :=
 ∀(pins:List (Addr × Obj)) (s:Shared) (σ:St) (H:Hp) (o i v:V) (ov iv u:Value) (Q:Hp→Prop),Inv X pins σ H s→RelV o ov→RelV i iv→RelV v u→t o i v H Q →
  wpAny (model X.prog X.w) X.A (setItem ov iv u) (fun _ s'=>∃H',Inv X pins σ H' s'∧Q H') X.xe s
section
variable {X:Cx} {pos:Pos}
def gName (i:Nat):TG:=fun v σ H Q=>Q (σ.set i (some v)) H
theorem AV2 {i:Nat} {x:Str} (hN:X.N.Nodup) (hi:X.N[i]?=some x) (hx:Loc X.env.scope x) (hf:X.fn x=true∨X.env.scope.names.lookup x=some .local:=by first | exact .inl rfl | exact .inr rfl | assumption):PG X (.Name x pos) (gName i):=by
 intro pins s σ H v u Q I r h
 exact wpAny_assign_Name (AB9 I hN hi hx r (fun s' I'=>⟨_,H,I',h⟩) hf)
def AfM:TGs:=fun vs σ H Q=>vs=[]∧Q σ H
def AcY (t:TG) (u:TGs):TGs:=fun vs σ H Q=>∃v r,vs=v::r∧t v σ H fun σ' H'=>u r σ' H' Q
theorem AWM:PGs X [] AfM:=by
 intro pins s σ H vs us Q I r h
 obtain ⟨e,h⟩:=h
 subst e
 cases r
 exact assignInOrder_nil ⟨σ,H,I,h⟩
theorem AS5 {e:Expr} {es:List Expr} {t:TG} {u:TGs} (h1:PG X e t) (h2:PGs X es u)
  (hs:(assignEach (e::es) X.env).map (·.2)=assign e X.env::(assignEach es X.env).map (·.2):=by rfl):PGs X (e::es) (AcY t u):=by
 intro pins s σ H vs us Q I r h
 obtain ⟨v,vr,e1,h⟩:=h
 subst e1
 cases r with
 | cons r rr =>
  rw[hs]
  refine assignInOrder_cons (thn (h1 pins s σ H _ _ _ I r h) fun _ s1 ⟨σ1,H1,I1,q1⟩=>?_)
  exact h2 pins s1 σ1 H1 _ _ Q I1 rr q1
def gTup (K:PySem.W.Frag) (n:Nat) (t:TGs):TG:=fun v σ H Q=>∃a xs,v=.ref a∧SqT K H a xs∧xs.length=n∧t xs σ H Q
theorem AXK {es:List Expr} {k:Nat} {t:TGs} {n:Nat} (hc:X.calm=true) (h:PGs X es t)
  (hn:(assignEach es X.env).length=n:=by rfl) (hst:(assignEach es X.env).findIdx? (·.1)=none:=by rfl):PG X (.Tuple es k pos) (gTup X.K n t):=by
 intro pins s σ H v u Q I r hw
 obtain ⟨a,xs,e1,hq,hl,hw⟩:=hw
 subst e1
 cases r
 obtain ⟨its,rv,ht,hz⟩:=I.tuple hq
 refine assign_Tuple_tuple (I.ok.hd hc) ht (by simp[hn,←hl,rv.length]) hst fun h' hx=>?_
 have I1:Inv X pins σ H {s with heap:=h'}:=I.kept (t':=s.toks) fun b o e=>hx b o (Nat.ne_of_lt (Heap.lt_size e)) e
 exact h pins _ σ H xs _ Q I1 (by simpa using rv) hw
def Ag7 (to ti:TE) (t:AdF):TG:=fun v σ H Q=>to σ H fun o H1=>ti σ H1 fun i H2=>t o i v H2 fun H3=>Q σ H3
theorem AXO {o i:Expr} {to ti:TE} {t:AdF} (ho:PE X o to) (hi:PE X i ti) (hs:AeY X t)
  (ha:∀v,assign (.Subscript o i pos) X.env v=(do
   let ov←holding [v] (eval o X.env)
   let iv←holding [v,ov] (eval i X.env)
   standAt pos
   holding [v,ov,iv] (setItem ov iv v)
   release [v,ov,iv] []):=by intro _;rfl):PG X (.Subscript o i pos) (Ag7 to ti t):=by
 intro pins s σ H v u Q I r h
 rw[ha]
 refine wpAny_bind (wpAny_holding (thn (ho pins s σ H _ I h) fun ov s1 ⟨x,H1,I1,r1,q1⟩=>?_))
 refine wpAny_bind (wpAny_holding (thn (hi pins s1 σ H1 _ I1 q1) fun iv s2 ⟨y,H2,I2,r2,q2⟩=>?_))
 refine wpAny_bind (wpAny_standAt (wpAny_bind (wpAny_holding (thn (hs pins s2 σ H2 x y v ov iv u _ I2 r1 r2 r q2) fun _ s3 ⟨H3,I3,q3⟩=>?_))))
 exact wpAny_release ⟨σ,H3,I3,q3⟩
def Af0 (te:TE) (g:TG):TS:=fun D σ H=>te σ H fun x H1=>g x σ H1 D.nx
theorem ATH {tg e:Expr} {te:TE} {g:TG} (he:PE X e te) (hg:PG X tg g) (hs:swapsWithSole [tg] e pos.line X.env=pure false:=by rfl) (hw:swappedStores [tg] e X.env=pure none:=by rfl)
  (h1:(assignEach [tg] X.env).map (·.2)=[assign tg X.env]:=by rfl):PS X (.Assign [tg] e pos) (Af0 te g):=by
 intro pins s σ H D I h
 refine wpAny_Assign_stores (thn (he pins s σ H _ I h) fun v s1 ⟨x,H1,I1,r1,q1⟩=>?_) hs hw
 rw[h1]
 exact thn (hg pins s1 σ H1 x v _ I1 r1 q1) fun _ s2 q=>q
theorem AP0 {i:Nat} {x:Str} {e:Expr} {te:TE} {pos':Pos} (hN:X.N.Nodup) (hi:X.N[i]?=some x) (hx:Loc X.env.scope x) (he:PE X e te) (hs:swapsWith e (some (.Name x pos')) pos.line X.env=pure false:=by rfl) (hf:X.fn x=true∨X.env.scope.names.lookup x=some .local:=by first | exact .inl rfl | exact .inr rfl | assumption) :
  PS X (.Assign [.Name x pos'] e pos) (Af0 te (gName i)):=by
 intro pins s σ H D I h
 refine wpAny_Assign_Name (thn (he pins s σ H _ I h) fun v s1 ⟨y,H1,I1,r1,q1⟩=>?_) hs
 exact AB9 I1 hN hi hx r1 (fun s2 I2=>⟨_,H1,I2,q1⟩) hf
def AfW (i j:Nat) (ta:TA):TS:=fun D σ H=>ta σ H fun vs H1=>∃v w,vs=[v,w]∧D.nx ((σ.set i (some v)).set j (some w)) H1
theorem AYE {i j:Nat} {x y:Str} {a b:Expr} {ta:TA} {px py pt:Pos} {kt k2 pt2} (hc:X.calm=true) (hN:X.N.Nodup) (hi:X.N[i]?=some x) (hj:X.N[j]?=some y) (hij:i≠j)
  (hx:X.env.scope.names.lookup x=some .local) (hy:X.env.scope.names.lookup y=some .local) (ha:PA X [a,b] ta)
  (hw:swappedStores [.Tuple [.Name x px,.Name y py] kt pt] (.Tuple [a,b] k2 pt2) X.env=pure (some [x,y]))
  (hs:swapsWithSole [.Tuple [.Name x px,.Name y py] kt pt] (.Tuple [a,b] k2 pt2) pos.line X.env=pure false:=by rfl) :
  PS X (.Assign [.Tuple [.Name x px,.Name y py] kt pt] (.Tuple [a,b] k2 pt2) pos) (AfW i j ta):=by
 intro pins s σ H D I h
 rw[exec_Assign_arm]
 refine wpAny_bind (wpAny_standAt ?_)
 rw[hs]
 refine wpAny_bind (wpAny_pure ?_)
 rw[if_neg (by decide)]
 refine wpAny_bind (Tuple_ (thn (ha _ pins s σ H _ I h) fun us s1 ⟨vs,H1,I1,r1,q1⟩=>?_))
 obtain ⟨v,w,e1,q1⟩:=q1
 subst e1
 obtain ⟨u1,u2,rfl,rv,rw'⟩:∃u1 u2,us=[u1,u2]∧RelV v u1∧RelV w u2:=by
  cases r1 with
  | cons p q =>
   cases q with
   | cons p' q' =>
    cases q'
    exact ⟨_,_,rfl,p,p'⟩
 refine wpAny_newObj_type ?_ (by show 2≤sizeLine;decide)
 have I2:Inv X pins σ H1 {s1 with heap:=s1.heap.push {cls:=.type "tuple",data:=.seq [u1,u2].toArray} }:=I1.kept (t':=s1.toks) fun b o e=>Heap.get?_push_of_some _ e
 rw[hw]
 refine wpAny_bind (wpAny_pure ?_)
 show wpAny (model X.prog X.w) X.A (do rule "assign.swapped-stores";let items←unpackItems (.ref s1.heap.objs.size) 2 none;assignInOrder [fun v=>bindName X.env y v,fun v=>bindName X.env x v] items.reverse;pure Flow.next) _ _ _
 refine wpAny_bind (wpAny_rule (wpAny_bind (unpackItems_tuple (items:=#[u1,u2]) (I.ok.hd hc) (IsTup.new s1.heap _) fun h' hx'=>?_)))
 have I3:=I2.kept (h':=h') (t':=s1.toks) fun b o e=>hx' b o (Nat.ne_of_lt (Heap.lt_size e)) e
 show wpAny _ _ (assignInOrder [fun v=>bindName X.env y v,fun v=>bindName X.env x v] [u2,u1] >>= fun _=>pure Flow.next) _ _ _
 refine wpAny_bind (assignInOrder_cons (wpAny_bindName (AB9 I3 hN hj (.inl hy) rw' (fun s2 I4=>?_) (.inr hy))))
 refine assignInOrder_cons (wpAny_bindName (AB9 I4 hN hi (.inl hx) rv (fun s3 I5=>assignInOrder_nil (wpAny_pure ?_)) (.inr hx)))
 rw[List.set_comm _ _ (Ne.symm hij)]at I5
 exact ⟨_,H1,I5,q1⟩
end
section
variable {X:Cx} {pos:Pos}
def AY2 (c:TT) (tb:TS):TS:=fun D σ H=>∃W:Nat→St→Hp→Prop,(∃m,W m σ H)∧∀m σ H,W m σ H →
 c σ H fun b H1=>if b=true then ∃N:St→Hp→Prop,(∀σ' H',N σ' H'→∃m',m'<m∧W m' σ' H')∧tb {D with nx:=N,ct:=N,bk:=D.nx} σ H1 else D.nx σ H1
theorem APX {c:Expr} {body:List Stmt} {tc:TT} {tb:TS} (hp:PassesOwn (model X.prog X.w) X.A X.env X.xe) (hc:PT X c tc) (hb:PSs X body tb):PS X (.While c body [] pos) (AY2 tc tb):=by
 intro pins s σ H D I h
 obtain ⟨W,⟨m0,w0⟩,turn⟩:=h
 refine wpAny_While (codeAny_whileLoop (fun n s'=>∃σ' H',Inv X pins σ' H' s'∧W n σ' H') ?_ m0 ⟨σ,H,I,w0⟩)
 rintro n s1 ⟨σ1,H1,I1,w1⟩
 refine wpAny_passesOwn hp (thn (hc pins s1 σ1 H1 _ I1 (turn n σ1 H1 w1)) fun b s2 ⟨H2,I2,q2⟩=>?_)
 cases b with
 | true =>
  obtain ⟨N,hN,q2⟩:=q2
  rw[if_pos rfl]
  refine wpAny_passesOwn hp (thn (hb pins s2 σ1 H2 _ I2 q2) fun f s3 q3=>?_)
  cases f with
  | next =>
   obtain ⟨σ3,H3,I3,n3⟩:=q3
   obtain ⟨m',hm,w3⟩:=hN σ3 H3 n3
   exact ⟨m',hm,σ3,H3,I3,w3⟩
  | cont =>
   obtain ⟨σ3,H3,I3,n3⟩:=q3
   obtain ⟨m',hm,w3⟩:=hN σ3 H3 n3
   exact ⟨m',hm,σ3,H3,I3,w3⟩
  | brk=>exact q3
  | ret v=>exact q3
 | false =>
  rw[if_neg Bool.false_ne_true]
  exact wpAny_execs_nil ⟨σ1,H2,I2,q2⟩
end
structure It where
 go:Nat→Hp→Prop
 yld:Nat→Hp→V→Hp→Prop
 stop:Nat→Hp→Prop
def AHB (X:Cx) (pins:List (Addr × Obj)) (H:Hp) (b:Addr):Prop :=
 H b=none∧b≠X.env.locals∧b ∉ X.fs∧(b∈X.ex∨X.s₀.heap.objs.size≤b)∧(∀x c,X.env.cells.lookup x=some c→c≠b)∧∀p∈X.pn++pins,p.1≠b
theorem Inv.fpOk {X:Cx} {pins:List (Addr × Obj)} {σ:St} {H H':Hp} {s:Shared} {b:Addr} (I:Inv X pins σ H s) (hb:s.heap.objs.size≤b) (hn:H' b=none):AHB X pins H' b:=by
 refine ⟨hn,Nat.ne_of_gt (Nat.lt_of_lt_of_le I.lt hb),I.nofs hb,.inr (Nat.le_trans I.sz hb),fun x c e z=>?_,fun p hp z=>?_⟩
 ·obtain ⟨v,q⟩:=I.cell x c e
  exact absurd (Nat.lt_of_lt_of_le q.lt (by rw[z];exact hb)) (Nat.lt_irrefl _)
 ·exact absurd (Nat.lt_of_lt_of_le (Heap.lt_size (I.pin p hp).1) (by rw[z];exact hb)) (Nat.lt_irrefl _)
structure Turn (P:Program) (w:World) (K:PySem.W.Frag) (tg:Expr) (J:It) (fp:List Addr) (it:Addr) (tn:Nat→Heap→Prop):Prop where
 mem:it∈fp
 obj:∀i h,tn i h→∀b∈fp,∃o,h.get? b=some o∧∀v,o.data≠.cell v
 keep:∀i h h',tn i h→(∀b∈fp,∀o,h.get? b=some o→h'.get? b=some o)→tn i h'
 item:∀(X:Cx),X.prog=P→X.w=w→X.K=K→X.calm=true→∀(i:Nat) (pins:List (Addr × Obj)) (s:Shared) (σ:St) (H:Hp) (E:Value→Shared→Prop),Inv X pins σ H s→(∀b∈fp,AHB X pins H b)→tn i s.heap→J.go i H →
  wpAny (model P w) X.A (pyNext (.ref it)) (fun r s1=>∃u,r=some u ∧
   wpAny (model P w) X.A (letOwnedTupleGo tg (.ref it) u) (fun _ s2=>∃x H',Inv X pins σ H' s2∧RelV x u∧J.yld i H x H'∧tn (i+1) s2.heap∧∀b∈fp,H' b=none) E s1) E s
 done:∀(X:Cx),X.prog=P→X.w=w→X.K=K→X.calm=true→∀(i:Nat) (pins:List (Addr × Obj)) (s:Shared) (σ:St) (H:Hp) (E:Value→Shared→Prop),Inv X pins σ H s→(∀b∈fp,AHB X pins H b)→tn i s.heap→J.stop i H →
  wpAny (model P w) X.A (pyNext (.ref it)) (fun r s1=>r=none∧Inv X pins σ H s1) E s
 self:∀(A:Around) (i:Nat) (s:Shared) (Q:Value→Shared→Prop) (E:Value→Shared→Prop),tn i s.heap→Q (.ref it) s→wpAny (model P w) A (pyIter (.ref it)) Q E s
abbrev TI:=St→Hp→(It→Hp→Prop)→Prop
def PIE (X:Cx) (pins:List (Addr × Obj)) (σ:St) (tg:Expr) (R:It→Hp→Prop) (itv:Value) (s2:Shared):Prop :=
 ∃(it:Addr) (fp:List Addr) (tn:Nat→Heap→Prop) (J:It) (H':Hp),itv=.ref it∧Inv X pins σ H' s2∧Turn X.prog X.w X.K tg J fp it tn∧tn 0 s2.heap∧(∀b∈fp,AHB X pins H' b)∧R J H'
def PI (X:Cx) (tg iter:Expr) (wi:TI):Prop :=
 ∀(pins:List (Addr × Obj)) (s:Shared) (σ:St) (H:Hp) (R:It→Hp→Prop),Inv X pins σ H s→wi σ H R →
  wpAny (model X.prog X.w) X.A (eval iter X.env) (fun v s1=>wpAny (model X.prog X.w) X.A (pyIter v) (PIE X pins σ tg R) X.xe s1) X.xe s
theorem AS3 {M:Model} {A:Around} {E:Value→Shared→Prop} {s:Shared} {tg:Expr} {it:Addr} {u:Value} {o:Obj} {n:String} {vs:Array Value} {Q:Unit→Shared→Prop} (ho:s.heap.get? it=some o) (hc:o.cls=.type n) (hd:o.data=.fields vs)
  (hn:["enumerate","zip","dict_itemiterator","dict_reverseitemiterator","odict_iterator","itertools.zip_longest","itertools.pairwise"].contains n=false) (hQ:Q () s):wpAny M A (letOwnedTupleGo tg (.ref it) u) Q E s:=by
 unfold letOwnedTupleGo
 cases tg<;>first
  | exact wpAny_pure hQ
  | (cases u<;>first
    | exact wpAny_pure hQ
    | (refine wpAny_bind (wpAny_load ho ?_)
       rw[hc,hd]
       show wpAny M A (if (["enumerate","zip","dict_itemiterator","dict_reverseitemiterator","odict_iterator","itertools.zip_longest","itertools.pairwise"].contains n&&vs[0]? == some (rawInt _))=true then _ else _) Q E s
       rw[if_neg (by intro h;rw[hn,Bool.false_and]at h;cases h)]
       exact wpAny_pure hQ))
def Itl (K:PySem.W.Frag) (a:Addr):It :=
 ⟨fun i H=>∃xs x,SqL K H a xs∧xs[i]?=some x,fun i H x H'=>H'=H∧∀xs,SqL K H a xs→xs[i]?=some x,fun i H=>∃xs,SqL K H a xs∧xs.length≤i⟩
def Itt (K:PySem.W.Frag) (a:Addr):It :=
 ⟨fun i H=>∃xs x,SqT K H a xs∧xs[i]?=some x,fun i H x H'=>H'=H∧∀xs,SqT K H a xs→xs[i]?=some x,fun i H=>∃xs,SqT K H a xs∧xs.length≤i⟩
def Itr (lo:Int) (n:Nat):It:=⟨fun i _=>i<n,fun i H x H'=>H'=H∧x=.int (lo+i),fun i _=>n≤i⟩
theorem ALV {P:Program} {w:World} {K:PySem.W.Frag} {tg:Expr} (a it:Addr):Turn P w K tg (Itl K a) [it] it (fun i h=>h.IsListIter it a i) where
 mem:=by simp
 obj:=fun i h st b hb=>by
  have e:b=it:=by simpa using hb
  subst e
  obtain ⟨o,e,c,d⟩:=st
  exact ⟨o,e,fun v z=>by rw[d]at z;cases z⟩
 keep:=fun i h h' st k=>st.at fun o e=>k it (by simp) o e
 item:=by
  intro X hP hw hK hc i pins s σ H E I hf st hg
  subst hP hw hK
  obtain ⟨xs,x,hq,hx⟩:=hg
  obtain ⟨its,rv,p,hz⟩:=I.list hq
  obtain ⟨u,hu,ru⟩:=rv.get hx
  obtain ⟨f0,f1,f2,f3,f4,f5⟩:=hf it (by simp)
  refine wpAny_pyNext_list_item st p.isList (x:=u) (by simpa using hu) fun h' st' sb=>?_
  have I1:Inv X pins σ H {s with heap:=h'}:=I.turned (t':=s.toks) (fun b o hb e=>(sb.2 b hb).trans e) f0 f1 f3 f4 f5
  obtain ⟨o,e,c,d⟩:=id st'
  exact ⟨u,rfl,AS3 (s:={s with heap:=h'}) e c d (by decide) ⟨x,H,I1,ru,⟨rfl,fun ys hy=>by rw[I.list_inj hy hq];exact hx⟩,st',fun b hb=>(hf b hb).1⟩⟩
 done:=by
  intro X hP hw hK hc i pins s σ H E I hf st hg
  subst hP hw hK
  obtain ⟨xs,hq,hx⟩:=hg
  obtain ⟨its,rv,p,hz⟩:=I.list hq
  obtain ⟨f0,f1,f2,f3,f4,f5⟩:=hf it (by simp)
  have hl:=rv.length
  exact wpAny_pyNext_list_end (I.ok.hd hc) st p.isList (by simp;omega) fun h' eb=>⟨rfl,I.turned (t':=s.toks) (fun b o hb e=>eb b o hb e) f0 f1 f3 f4 f5⟩
 self:=fun _ _ _ _ _ st h=>wpAny_pyIter_listiter st h
theorem AK8 {P:Program} {w:World} {K:PySem.W.Frag} {tg:Expr} (a it:Addr):Turn P w K tg (Itt K a) [it] it (fun i h=>h.IsTupleIter it a i) where
 mem:=by simp
 obj:=fun i h st b hb=>by
  have e:b=it:=by simpa using hb
  subst e
  obtain ⟨o,e,c,d⟩:=st
  exact ⟨o,e,fun v z=>by rw[d]at z;cases z⟩
 keep:=fun i h h' st k=>st.at fun o e=>k it (by simp) o e
 item:=by
  intro X hP hw hK hc i pins s σ H E I hf st hg
  subst hP hw hK
  obtain ⟨xs,x,hq,hx⟩:=hg
  obtain ⟨its,rv,p,hz⟩:=I.tuple hq
  obtain ⟨u,hu,ru⟩:=rv.get hx
  obtain ⟨f0,f1,f2,f3,f4,f5⟩:=hf it (by simp)
  refine wpAny_pyNext_tuple_item st (show s.heap.IsTuple a its.toArray from p) (x:=u) (by simpa using hu) fun h' st' sb=>?_
  have I1:Inv X pins σ H {s with heap:=h'}:=I.turned (t':=s.toks) (fun b o hb e=>(sb.2 b hb).trans e) f0 f1 f3 f4 f5
  obtain ⟨o,e,c,d⟩:=id st'
  exact ⟨u,rfl,AS3 (s:={s with heap:=h'}) e c d (by decide) ⟨x,H,I1,ru,⟨rfl,fun ys hy=>by rw[I.tuple_inj hy hq];exact hx⟩,st',fun b hb=>(hf b hb).1⟩⟩
 done:=by
  intro X hP hw hK hc i pins s σ H E I hf st hg
  subst hP hw hK
  obtain ⟨xs,hq,hx⟩:=hg
  obtain ⟨its,rv,p,hz⟩:=I.tuple hq
  obtain ⟨f0,f1,f2,f3,f4,f5⟩:=hf it (by simp)
  have hl:=rv.length
  exact wpAny_pyNext_tuple_end (I.ok.hd hc) st (show s.heap.IsTuple a its.toArray from p) (by simp;omega) fun h' eb=>⟨rfl,I.turned (t':=s.toks) (fun b o hb e=>eb b o hb e) f0 f1 f3 f4 f5⟩
 self:=fun _ _ _ _ _ st h=>wpAny_pyIter_tupleiter st h
theorem ALI {P:Program} {w:World} {K:PySem.W.Frag} {tg:Expr} (it:Addr) (lo:Int) (n:Nat):Turn P w K tg (Itr lo n) [it] it (fun i h=>IsRangeIter h it (lo+(i:Nat)*1) ((n:Int)-(i:Nat)) 1) where
 mem:=by simp
 obj:=fun i h st b hb=>by
  have e:b=it:=by simpa using hb
  subst e
  exact ⟨_,st,fun v z=>by
   have z':Data.fields _=Data.cell v:=z
   cases z'⟩
 keep:=fun i h h' st k=>k it (by simp) _ st
 item:=by
  intro X hP hw hK hc i pins s σ H E I hf st hg
  subst hP hw hK
  obtain ⟨f0,f1,f2,f3,f4,f5⟩:=hf it (by simp)
  have W:=Walks.range (prog:=X.prog) (w:=X.w) (I.ok.hd hc) it lo 1 n
  refine W.item i s _ _ hg st fun v h' tk hv st' kk=>?_
  obtain ⟨t,rfl⟩:=hv
  have I1:Inv X pins σ H {s with heap:=h',toks:=tk}:=I.turned (fun b o hb e=>kk b o (by simpa using hb) e) f0 f1 f3 f4 f5
  refine ⟨_,rfl,AS3 (s:={s with heap:=h',toks:=tk}) (n:="range_iterator") st' rfl rfl (by decide) ⟨.int (lo+i),H,I1,⟨t,?_⟩,⟨rfl,rfl⟩,st',fun b hb=>(hf b hb).1⟩⟩
  rw[Int.mul_one]
 done:=by
  intro X hP hw hK hc i pins s σ H E I hf st hg
  subst hP hw hK
  obtain ⟨f0,f1,f2,f3,f4,f5⟩:=hf it (by simp)
  exact wpAny_pyNext_range_end (I.ok.hd hc) st (by have:n≤i:=hg;omega) fun h' eb=>⟨rfl,I.turned (t':=s.toks) (fun b o hb e=>eb b o hb e) f0 f1 f3 f4 f5⟩
 self:=fun _ _ _ _ _ st h=>wpAny_pyIter_rangeiter st h
section
variable {X:Cx} {tg:Expr}
def AcO (K:PySem.W.Frag) (tl:TE):TI:=fun σ H R=>tl σ H fun x H1=>∃a,x=.ref a∧(∃xs,SqL K H1 a xs)∧R (Itl K a) H1
def Ag3 (K:PySem.W.Frag) (tl:TE):TI:=fun σ H R=>tl σ H fun x H1=>∃a,x=.ref a∧(∃xs,SqT K H1 a xs)∧R (Itt K a) H1
theorem ANI {l:Expr} {tl:TE} (hl:PE X l tl):PI X tg l (AcO X.K tl):=by
 intro pins s σ H R I h
 refine thn (hl pins s σ H _ I h) fun v s1 ⟨x,H1,I1,r1,q1⟩=>?_
 obtain ⟨a,e,⟨xs,hq⟩,q⟩:=q1
 subst e
 cases r1
 obtain ⟨its,rv,p,hz⟩:=I1.list hq
 refine wpAny_pyIter_list p.isList ?_
 refine ⟨s1.heap.objs.size,[s1.heap.objs.size],_,_,H1,rfl,I1.kept (t':=s1.toks) fun b o e=>Heap.get?_push_of_some _ e,ALV a _,⟨_,Heap.get?_push_size _ rfl,rfl,rfl⟩,fun b hb=>?_,q⟩
 have e:b=s1.heap.objs.size:=by simpa using hb
 subst e
 exact I1.fpOk (Nat.le_refl _) (I1.hok.fresh (Nat.le_refl _))
theorem AT0 {l:Expr} {tl:TE} (hl:PE X l tl):PI X tg l (Ag3 X.K tl):=by
 intro pins s σ H R I h
 refine thn (hl pins s σ H _ I h) fun v s1 ⟨x,H1,I1,r1,q1⟩=>?_
 obtain ⟨a,e,⟨xs,hq⟩,q⟩:=q1
 subst e
 cases r1
 obtain ⟨its,rv,p,hz⟩:=I1.tuple hq
 refine wpAny_pyIter_tuple (show s1.heap.IsTuple a its.toArray from p) ?_
 refine ⟨s1.heap.objs.size,[s1.heap.objs.size],_,_,H1,rfl,I1.kept (t':=s1.toks) fun b o e=>Heap.get?_push_of_some _ e,AK8 a _,⟨_,Heap.get?_push_size _ rfl,rfl,rfl⟩,fun b hb=>?_,q⟩
 have e:b=s1.heap.objs.size:=by simpa using hb
 subst e
 exact I1.fpOk (Nat.le_refl _) (I1.hok.fresh (Nat.le_refl _))
theorem AJU {pins:List (Addr × Obj)} {σ:St} {H:Hp} {s:Shared} {R:It→Hp→Prop} {E:Value→Shared→Prop} {lo hi:Int} {t u v:Tok} {tk:Nat} (I:Inv X pins σ H s) (h1:-(2 ^ 62)≤lo) (h2:lo<2 ^ 62) (h3:-(2 ^ 62)≤hi) (h4:hi<2 ^ 62)
  (q:R (Itr lo (hi-lo).toNat) H):wpAny (model X.prog X.w) X.A (pyIter (.ref s.heap.objs.size)) (PIE X pins σ tg R) E {s with heap:=s.heap.push {cls:=.type "range",data:=.fields #[.int lo t,.int hi u,.int 1 v] },toks:=tk}:=by
 refine wpAny_pyIter_range (IsRange.new ..) (small_one h1 h2 h3 h4) ?_
 have I1:Inv X pins σ H {s with heap:=s.heap.push {cls:=.type "range",data:=.fields #[.int lo t,.int hi u,.int 1 v] },toks:=tk}:=I.kept fun b o e=>Heap.get?_push_of_some _ e
 refine ⟨(s.heap.push {cls:=.type "range",data:=.fields #[.int lo t,.int hi u,.int 1 v] }).objs.size,[(s.heap.push {cls:=.type "range",data:=.fields #[.int lo t,.int hi u,.int 1 v] }).objs.size],_,_,H,rfl,
  I1.kept (t':=tk) fun b o e=>Heap.get?_push_of_some _ e,ALI _ lo (hi-lo).toNat,?_,fun b hb=>?_,q⟩
 ·have e1:lo+((0:Nat):Int)*1=lo:=by simp
  have e2:(((hi-lo).toNat:Nat):Int)-((0:Nat):Int)=Builtin.Range.rangeSize lo hi 1:=by rw[rangeSize_one];split<;>omega
  show IsRangeIter _ _ (lo+((0:Nat):Int)*1) ((((hi-lo).toNat:Nat):Int)-((0:Nat):Int)) 1
  rw[e1,e2]
  exact Heap.get?_push_size _ rfl
 ·have e:b=(s.heap.push {cls:=.type "range",data:=.fields #[.int lo t,.int hi u,.int 1 v] }).objs.size:=by simpa using hb
  subst e
  exact I1.fpOk (Nat.le_refl _) (I1.hok.fresh (Nat.le_refl _))
def AcL (ta:TA):TI:=fun σ H R=>ta σ H fun vs H1=>∃j:Int,vs=[.int j]∧-(2 ^ 62)≤j∧j<2 ^ 62∧R (Itr 0 j.toNat) H1
def AdA (ta:TA):TI:=fun σ H R=>ta σ H fun vs H1=>∃i j:Int,vs=[.int i,.int j]∧(-(2 ^ 62)≤i∧i<2 ^ 62∧-(2 ^ 62)≤j∧j<2 ^ 62)∧R (Itr i (j-i).toNat) H1
theorem AGU {a:Expr} {ta:TA} {p pos:Pos} (hg:Gl X "range") (hm:X.mg "range" = none) (ha:PA X [a] ta) (hs:starEach [a] X.env=[(false,eval a X.env)]:=by rfl):PI X tg (.Call (.Name "range" p) [a] [] pos) (AcL ta):=by
 intro pins s σ H R I h
 refine Call_ (P9 I hg hm boot_range (PyProof.Rows.callWith_type1 (thn (ha pos pins s σ H _ I h) fun us s1 ⟨vs,H1,I1,r1,q1⟩=>?_) hs rfl))
 obtain ⟨j,e,q1,q2,q⟩:=q1
 subst e
 cases r1 with
 | cons r rr =>
  cases rr
  obtain ⟨t,rfl⟩:=r
  exact call_range_1 (AJU I1 (by omega) (by omega) q1 q2 (by simpa using q))
theorem AP8 {a b:Expr} {ta:TA} {p pos:Pos} (hg:Gl X "range") (hm:X.mg "range" = none) (ha:PA X [a,b] ta) (hs:starEach [a,b] X.env=[(false,eval a X.env),(false,eval b X.env)]:=by rfl) (hs2:starEach [b] X.env=[(false,eval b X.env)]:=by rfl) :
  PI X tg (.Call (.Name "range" p) [a,b] [] pos) (AdA ta):=by
 intro pins s σ H R I h
 refine Call_ (P9 I hg hm boot_range (PyProof.Rows.callWith_type1 (thn (ha pos pins s σ H _ I h) fun us s1 ⟨vs,H1,I1,r1,q1⟩=>?_) (by rw[hs,hs2]) (by rw[hs2];rfl)))
 obtain ⟨i,j,e,⟨q1,q2,q3,q4⟩,q⟩:=q1
 subst e
 cases r1 with
 | cons r rr =>
  cases rr with
  | cons r' rr =>
   cases rr
   obtain ⟨t,rfl⟩:=r
   obtain ⟨t',rfl⟩:=r'
   exact call_range_2 (AJU I1 q1 q2 q3 q4 q)
def AfB (wi:TI) (g:TG) (tb:TS):TS:=fun D σ H=>wi σ H fun J H1=>∃W:Nat→Nat→St→Hp→Prop,(∃m,W 0 m σ H1)∧∀i m σ H,W i m σ H →
 (J.stop i H∧D.nx σ H)∨(J.go i H∧∃N:St→Hp→Prop,(∀σ' H',N σ' H'→∃m',m'<m∧W (i+1) m' σ' H')∧∀x H',J.yld i H x H'→g x σ H' fun σ2 H2=>tb {D with nx:=N,ct:=N,bk:=D.nx} σ2 H2)
def M5 (fp:List Addr) (h:Heap):List (Addr × Obj):=fp.filterMap fun b=>(h.get? b).map fun o=>(b,o)
theorem B1 {fp:List Addr} {h:Heap} {b:Addr} {o:Obj} (hb:b∈fp) (e:h.get? b=some o):(b,o)∈M5 fp h:=List.mem_filterMap.mpr ⟨b,hb,by rw[e];rfl⟩
theorem O9 {fp:List Addr} {h:Heap} {p:Addr × Obj} (hp:p∈M5 fp h):p.1∈fp∧h.get? p.1=some p.2:=by
 obtain ⟨b,hb,e⟩:=List.mem_filterMap.mp hp
 cases q:h.get? b with
 | none=>rw[q]at e;cases e
 | some o =>
  rw[q]at e
  have e':(b,o)=p:=Option.some.inj e
  subst e'
  exact ⟨hb,q⟩
theorem Inv.pinned {pins:List (Addr × Obj)} {σ:St} {H:Hp} {s:Shared} {fp:List Addr} (I:Inv X pins σ H s) (hf:∀b∈fp,AHB X pins H b) (ho:∀b∈fp,∃o,s.heap.get? b=some o∧∀v,o.data≠.cell v):Inv X (pins++M5 fp s.heap) σ H s :=
 I.pins_of fun p hp=>(List.mem_append.mp hp).elim (fun z=>I.pin p (List.mem_append_right _ z)) fun z=>by
  obtain ⟨hb,e⟩:=O9 z
  obtain ⟨f0,f1,f2,_⟩:=hf p.1 hb
  obtain ⟨o,e',d⟩:=ho p.1 hb
  rw[e]at e';cases e'
  exact ⟨e,f0,f1,f2,d⟩
theorem Inv.unpinned {pins pl:List (Addr × Obj)} {σ:St} {H:Hp} {s:Shared} (I:Inv X (pins++pl) σ H s):Inv X pins σ H s:=I.pins_of fun p hp=>I.pin p (List.mem_append_right _ (List.mem_append_left _ hp))
theorem ATF {iter:Expr} {body:List Stmt} {wi:TI} {g:TG} {tb:TS} {pos:Pos} (hp:PassesOwn (model X.prog X.w) X.A X.env X.xe) (hc:X.calm=true) (hi:PI X tg iter wi) (hg:PG X tg g) (hb:PSs X body tb)
  (hs:∀x,foldedSetIterable iter X.env x=pure x:=by intro _;rfl):PS X (.For tg iter body [] pos) (AfB wi g tb):=by
 intro pins s σ H D I h
 refine wpAny_For (thn (hi pins s σ H _ I h) fun v s1 h1=>thn h1 fun itv s2 h2=>?_) hs
 obtain ⟨it,fp,tn,J,H2,e,I2,T,st2,f2,W,⟨m0,w0⟩,turn⟩:=h2
 subst e
 have stat:∀{H':Hp},(∀b∈fp,H' b=none)→∀b∈fp,AHB X pins H' b:=fun hn b hb=>⟨hn b hb,(f2 b hb).2⟩
 refine codeAny_forLoop_any (fun n s'=>∃i σ' H',Inv X pins σ' H' s'∧tn i s'.heap∧(∀b∈fp,H' b=none)∧W i n σ' H') ?_ m0 ⟨0,σ,H2,I2,st2,fun b hb=>(f2 b hb).1,w0⟩
 rintro n s3 ⟨i,σ3,H3,I3,st3,fr3,w3⟩
 rcases turn i n σ3 H3 w3 with ⟨stop,qn⟩ | ⟨go,N,hN,step⟩
 ·refine wpAny_passesOwn hp (thn (T.done X rfl rfl rfl hc i pins s3 σ3 H3 X.xe I3 (stat fr3) st3 stop) fun r s4 ⟨hr,I4⟩=>?_)
  subst hr
  exact wpAny_execs_nil ⟨σ3,H3,I4,qn⟩
 ·refine wpAny_passesOwn hp (thn (T.item X rfl rfl rfl hc i pins s3 σ3 H3 X.xe I3 (stat fr3) st3 go) fun r s4 ⟨u,hr,h4⟩=>?_)
  subst hr
  refine wpAny_passesOwn hp (thn h4 fun _ s5 ⟨x,H5,I5,r5,y5,st5,fr5⟩=>?_)
  have I5':=I5.pinned (stat fr5) (T.obj _ _ st5)
  refine wpAny_passesOwn hp (thn (hg _ s5 σ3 H5 x u _ I5' r5 (step x H5 y5)) fun _ s6 ⟨σ6,H6,I6,q6⟩=>?_)
  refine wpAny_passesOwn hp (thn (hb _ s6 σ6 H6 _ I6 q6) fun f s7 q7=>?_)
  have again:∀{σ7:St} {H7:Hp},Inv X (pins++M5 fp s5.heap) σ7 H7 s7→N σ7 H7→∃m,m<n∧∃i σ' H',Inv X pins σ' H' s7∧tn i s7.heap∧(∀b∈fp,H' b=none)∧W i m σ' H':=fun {σ7 H7} I7 n7=>by
   obtain ⟨m',hm,w7⟩:=hN σ7 H7 n7
   refine ⟨m',hm,i+1,σ7,H7,I7.unpinned,T.keep _ _ _ st5 fun b hb o e=>(I7.pin (b,o) (List.mem_append_right _ (List.mem_append_right _ (B1 hb e)))).1,fun b hb=>?_,w7⟩
   obtain ⟨o,e,d⟩:=T.obj _ _ st5 b hb
   exact (I7.pin (b,o) (List.mem_append_right _ (List.mem_append_right _ (B1 hb e)))).2.1
  cases f with
  | next=>obtain ⟨σ7,H7,I7,n7⟩:=q7;exact again I7 n7
  | cont=>obtain ⟨σ7,H7,I7,n7⟩:=q7;exact again I7 n7
  | brk=>obtain ⟨σ7,H7,I7,q7⟩:=q7;exact ⟨σ7,H7,I7.unpinned,q7⟩
  | ret v=>obtain ⟨x7,σ7,H7,I7,r7,q7⟩:=q7;exact ⟨x7,σ7,H7,I7.unpinned,r7,q7⟩
end
abbrev R2:=V→V→Hp→VK→Prop
def OpR (X:Cx) (f:Value→Value→Sem Value) (r:R2):Prop :=
 ∀(pins:List (Addr × Obj)) (s:Shared) (σ:St) (H:Hp) (x y:V) (v u:Value) (Q:VK),Inv X pins σ H s→RelV x v→RelV y u→r x y H Q →
  wpAny (model X.prog X.w) X.A (f v u) (EP X pins σ Q) X.xe s
def UnR (X:Cx) (f:Value→Sem Value) (r:V→Hp→VK→Prop):Prop :=
 ∀(pins:List (Addr × Obj)) (s:Shared) (σ:St) (H:Hp) (x:V) (v:Value) (Q:VK),Inv X pins σ H s→RelV x v→r x H Q →
  wpAny (model X.prog X.w) X.A (f v) (EP X pins σ Q) X.xe s
def AAY (X:Cx) (f:Value) (r:List V→Hp→VK→Prop):Prop :=
 ∀(pins:List (Addr × Obj)) (s:Shared) (σ:St) (H:Hp) (xs:List V) (us:List Value) (Q:VK),Inv X pins σ H s→Vals xs us→r xs H Q →
  wpAny (model X.prog X.w) X.A (call f us) (EP X pins σ Q) X.xe s
def Ag5 (X:Cx) (r:V→Hp→(Bool→Hp→Prop)→Prop):Prop :=
 ∀(pins:List (Addr × Obj)) (s:Shared) (σ:St) (H:Hp) (x:V) (v:Value) (Q:Bool→Hp→Prop),Inv X pins σ H s→RelV x v→r x H Q →
  wpAny (model X.prog X.w) X.A (truthy v) (TP X pins σ Q) X.xe s
def tOp (r:R2) (ta tb:TE):TE:=fun σ H Q=>ta σ H fun x H1=>tb σ H1 fun y H2=>r x y H2 Q
def tUn (r:V→Hp→VK→Prop) (ta:TE):TE:=fun σ H Q=>ta σ H fun x H1=>r x H1 Q
def rI (C:Int→Int→Prop) (g:Int→Int→V):R2:=fun x y H Q=>∃i j,x=.int i∧y=.int j∧C i j∧Q (g i j) H
def rI0 (g:Int→Int→V):R2:=fun x y H Q=>∃i j,x=.int i∧y=.int j∧Q (g i j) H
def rU (g:Int→V):V→Hp→VK→Prop:=fun x H Q=>∃i,x=.int i∧Q (g i) H
section
variable {X:Cx} {a b c:Expr} {ta tb tc:TE} {pos:Pos}
theorem Ae6 (ha:PE X a ta) (hb:PE X b tb) {pins:List (Addr × Obj)} {s:Shared} {σ:St} {H:Hp} {R:V→V→Hp→Prop} (I:Inv X pins σ H s)
  (h:ta σ H fun x H1=>tb σ H1 fun y H2=>R x y H2) {Q:Value→Shared→Prop} {f:Value→Value→Sem Value}
  (hf:∀v u s2 x y H2,Inv X pins σ H2 s2→RelV x v→RelV y u→R x y H2→wpAny (model X.prog X.w) X.A (f v u) Q X.xe s2) :
  wpAny (model X.prog X.w) X.A (eval a X.env) (fun v s₁=>wpAny (model X.prog X.w) X.A (eval b X.env) (fun u s₂=>wpAny (model X.prog X.w) X.A (f v u) Q X.xe s₂) X.xe s₁) X.xe s:=by
 refine thn (ha pins s σ H _ I h) fun v s1 ⟨x,H1,I1,r1,q1⟩=>?_
 refine thn (hb pins s1 σ H1 _ I1 q1) fun u s2 ⟨y,H2,I2,r2,q2⟩=>?_
 exact hf v u s2 x y H2 I2 r1 r2 q2
theorem AZZ {op:Operator} {r:R2} (ho:OpR X (binaryOp op) r) (ha:PE X a ta) (hb:PE X b tb):PE X (.BinOp a op b pos) (tOp r ta tb):=by
 intro pins s σ H Q I h
 exact wpAny_BinOp (Ae6 ha hb I h fun v u s2 x y H2 I2 rx ry q=>ho pins s2 σ H2 x y v u Q I2 rx ry q)
theorem AdP {op:UnaryOp} {r:V→Hp→VK→Prop} (ho:UnR X (unaryOp op) r) (ha:PE X a ta):PE X (.UnaryOp op a pos) (tUn r ta):=by
 intro pins s σ H Q I h
 exact UnaryOp_ (thn (ha pins s σ H _ I h) fun v s1 ⟨x,H1,I1,r1,q1⟩=>ho pins s1 σ H1 x v Q I1 r1 q1)
theorem opI {f:Value→Value→Sem Value} {C:Int→Int→Prop} {g:Int→Int→Int}
  (rule:∀(i j:Int) (t u:Tok) (s:Shared) (Q:Value→Shared→Prop) (E:Value→Shared→Prop),C i j→Q (.int (g i j) s.toks) {s with toks:=s.toks+1}→wpAny (model X.prog X.w) X.A (f (.int i t) (.int j u)) Q E s) :
  OpR X f (rI C fun i j=>.int (g i j)):=by
 intro pins s σ H x y v u Q I rx ry h
 obtain ⟨i,j,rfl,rfl,hc,q⟩:=h
 obtain ⟨t,rfl⟩:=rx
 obtain ⟨t',rfl⟩:=ry
 exact rule i j t t' s _ _ hc ⟨.int (g i j),H,I.tok _,⟨_,rfl⟩,q⟩
theorem AeM {f:Value→Value→Sem Value} {g:Int→Int→Int}
  (rule:∀(i j:Int) (t u:Tok) (s:Shared) (Q:Value→Shared→Prop) (E:Value→Shared→Prop),Q (.int (g i j) s.toks) {s with toks:=s.toks+1}→wpAny (model X.prog X.w) X.A (f (.int i t) (.int j u)) Q E s) :
  OpR X f (rI0 fun i j=>.int (g i j)):=by
 intro pins s σ H x y v u Q I rx ry h
 obtain ⟨i,j,rfl,rfl,q⟩:=h
 obtain ⟨t,rfl⟩:=rx
 obtain ⟨t',rfl⟩:=ry
 exact rule i j t t' s _ _ ⟨.int (g i j),H,I.tok _,⟨_,rfl⟩,q⟩
theorem AbQ {f:Value→Value→Sem Value} {g:Int→Int→Bool}
  (rule:∀(i j:Int) (t u:Tok) (s:Shared) (Q:Value→Shared→Prop) (E:Value→Shared→Prop),Q (.bool (g i j)) s→wpAny (model X.prog X.w) X.A (f (.int i t) (.int j u)) Q E s) :
  OpR X f (rI0 fun i j=>.bl (g i j)):=by
 intro pins s σ H x y v u Q I rx ry h
 obtain ⟨i,j,rfl,rfl,q⟩:=h
 obtain ⟨t,rfl⟩:=rx
 obtain ⟨t',rfl⟩:=ry
 exact rule i j t t' s _ _ ⟨.bl (g i j),H,I,rfl,q⟩
def Af6 (i j:Int):Prop:=0≤j∧j≤1000000∧i.natAbs<2 ^ 64
def CMul (i j:Int):Prop:=(-(2 ^ 64)<i∧i<2 ^ 64)∨(-(2 ^ 64)<j∧j<2 ^ 64)
theorem CMul.ok {i j:Int} (h:CMul i j):IntMulOk i j:=by
 rcases h with ⟨h1,h2⟩ | ⟨h1,h2⟩
 ·exact .of_left (intBits_le_64 h1 h2)
 ·exact .of_right (intBits_le_64 h1 h2)
theorem op_add:OpR X (binaryOp .Add) (rI0 fun i j=>.int (i+j)):=AeM fun _ _ _ _ _ _ _ q=>add_int q
theorem ATG:OpR X (binaryOp .Sub) (rI0 fun i j=>.int (i-j)):=AeM fun _ _ _ _ _ _ _ q=>sub_int q
theorem ATK:OpR X (binaryOp .Mod) (rI (fun _ j=>j≠0) fun i j=>.int (i.fmod j)):=opI fun _ _ _ _ _ _ _ hc q=>mod_int' hc q
theorem ASW:OpR X (binaryOp .Pow) (rI Af6 fun i j=>.int (i ^ j.toNat)):=opI fun _ _ _ _ _ _ _ hc q=>pow_int_small hc.1 hc.2.1 hc.2.2 q
theorem unI {f:Value→Sem Value} {g:Int→Int}
  (rule:∀(i:Int) (t:Tok) (s:Shared) (Q:Value→Shared→Prop) (E:Value→Shared→Prop),Q (.int (g i) s.toks) {s with toks:=s.toks+1}→wpAny (model X.prog X.w) X.A (f (.int i t)) Q E s) :
  UnR X f (rU fun i=>.int (g i)):=by
 intro pins s σ H x v Q I rx h
 obtain ⟨i,rfl,q⟩:=h
 obtain ⟨t,rfl⟩:=rx
 exact rule i t s _ _ ⟨.int (g i),H,I.tok _,⟨_,rfl⟩,q⟩
theorem AT7:UnR X (unaryOp .USub) (rU fun i=>.int (-i)):=unI fun _ _ _ _ _ q=>neg_int q
end
def AeC:V→V→Bool
 | .non,.non=>true | .non,.int _=>true | .int _,.non=>true | .non,.bl _=>true | .bl _,.non=>true | .non,.str _=>true | .str _,.non=>true
 | .int _,.int _=>true | .bl _,.bl _=>true | .str _,.str _=>true | .byt _,.byt _=>true
 | .int _,.str _=>true | .str _,.int _=>true | .bl _,.str _=>true | .str _,.bl _=>true
 | _,_=>false
def rEq:R2:=fun x y H Q=>AeC x y=true∧Q (.bl (decide (x=y))) H
def rNe:R2:=fun x y H Q=>AeC x y=true∧Q (.bl (!decide (x=y))) H
theorem ANN {i j:Int}:decide (V.int i=V.int j)=(i == j):=by
 rw[Bool.eq_iff_iff]
 simp
theorem ATB {i j:Bool}:decide (V.bl i=V.bl j)=(i == j):=by
 rw[Bool.eq_iff_iff]
 simp
theorem AEH {i j:Str}:decide (V.str i=V.str j)=(i == j):=by
 rw[Bool.eq_iff_iff]
 simp
theorem AM3 {i j:Array UInt8}:decide (V.byt i=V.byt j)=(i.toList == j.toList):=by
 rw[Bool.eq_iff_iff]
 cases i
 cases j
 simp
section
variable {X:Cx} {a b c:Expr} {ta tb tc:TE} {pos:Pos}
theorem D3 {pins:List (Addr × Obj)} {σ:St} {H:Hp} {s:Shared} {Q:VK} {k k':Bool} (I:Inv X pins σ H s) (q:Q (.bl k) H) (e:k=k'):EP X pins σ Q (.bool k') s:=by
 subst e
 exact ⟨.bl k,H,I,rfl,q⟩
theorem Ac8:OpR X (compareOp .Eq) rEq:=by
 intro pins s σ H x y v u Q I rx ry h
 obtain ⟨hs,q⟩:=h
 cases x with
 | non =>
  cases rx
  cases y with
  | non=>cases ry;exact PySem.EqNone.eq_none_none (D3 I q (by simp))
  | bl j=>cases ry;exact PySem.EqNone.eq_none_bool (D3 I q (by simp))
  | int j=>obtain ⟨t',rfl⟩:=ry;exact PySem.EqNone.eq_none_int (D3 I q (by simp))
  | str j=>obtain ⟨t',rfl⟩:=ry;exact PySem.EqNone.eq_none_str (D3 I q (by simp))
  | _=>exact absurd (show false=true from hs) Bool.false_ne_true
 | bl i =>
  cases rx
  cases y with
  | non=>cases ry;exact PySem.EqNone.eq_bool_none (D3 I q (by simp))
  | bl j=>cases ry;exact eq_bool (D3 I q ATB)
  | str j=>obtain ⟨t',rfl⟩:=ry;exact PySem.EqMixed.eq_bool_str (D3 I q (by simp))
  | _=>exact absurd (show false=true from hs) Bool.false_ne_true
 | int i =>
  obtain ⟨t,rfl⟩:=rx
  cases y with
  | non=>cases ry;exact PySem.EqNone.eq_int_none (D3 I q (by simp))
  | int j=>obtain ⟨t',rfl⟩:=ry;exact eq_int (D3 I q ANN)
  | str j=>obtain ⟨t',rfl⟩:=ry;exact PySem.EqMixed.eq_int_str (D3 I q (by simp))
  | _=>exact absurd (show false=true from hs) Bool.false_ne_true
 | str i =>
  obtain ⟨t,rfl⟩:=rx
  cases y with
  | non=>cases ry;exact PySem.EqNone.eq_str_none (D3 I q (by simp))
  | bl j=>cases ry;exact PySem.EqMixed.eq_str_bool (D3 I q (by simp))
  | int j=>obtain ⟨t',rfl⟩:=ry;exact PySem.EqMixed.eq_str_int (D3 I q (by simp))
  | str j=>obtain ⟨t',rfl⟩:=ry;exact eq_str (D3 I q AEH)
  | _=>exact absurd (show false=true from hs) Bool.false_ne_true
 | byt i =>
  obtain ⟨t,rfl⟩:=rx
  cases y with
  | byt j=>obtain ⟨t',rfl⟩:=ry;exact PySem.W.eq_bytes (D3 I q AM3)
  | _=>exact absurd (show false=true from hs) Bool.false_ne_true
 | _=>cases y<;>exact absurd (show false=true from hs) Bool.false_ne_true
theorem AcR:OpR X (compareOp .NotEq) rNe:=by
 intro pins s σ H x y v u Q I rx ry h
 obtain ⟨hs,q⟩:=h
 cases x with
 | non =>
  cases rx
  cases y with
  | non=>cases ry;exact PySem.EqNone.ne_none_none (D3 I q (by simp))
  | bl j=>cases ry;exact PySem.EqNone.ne_none_bool (D3 I q (by simp))
  | int j=>obtain ⟨t',rfl⟩:=ry;exact PySem.EqNone.ne_none_int (D3 I q (by simp))
  | str j=>obtain ⟨t',rfl⟩:=ry;exact PySem.EqNone.ne_none_str (D3 I q (by simp))
  | _=>exact absurd (show false=true from hs) Bool.false_ne_true
 | bl i =>
  cases rx
  cases y with
  | non=>cases ry;exact PySem.EqNone.ne_bool_none (D3 I q (by simp))
  | bl j=>cases ry;exact ne_bool (D3 I q (congrArg not ATB))
  | str j=>obtain ⟨t',rfl⟩:=ry;exact PySem.EqMixed.ne_bool_str (D3 I q (by simp))
  | _=>exact absurd (show false=true from hs) Bool.false_ne_true
 | int i =>
  obtain ⟨t,rfl⟩:=rx
  cases y with
  | non=>cases ry;exact PySem.EqNone.ne_int_none (D3 I q (by simp))
  | int j=>obtain ⟨t',rfl⟩:=ry;exact ne_int (D3 I q (congrArg not ANN))
  | str j=>obtain ⟨t',rfl⟩:=ry;exact PySem.EqMixed.ne_int_str (D3 I q (by simp))
  | _=>exact absurd (show false=true from hs) Bool.false_ne_true
 | str i =>
  obtain ⟨t,rfl⟩:=rx
  cases y with
  | non=>cases ry;exact PySem.EqNone.ne_str_none (D3 I q (by simp))
  | bl j=>cases ry;exact PySem.EqMixed.ne_str_bool (D3 I q (by simp))
  | int j=>obtain ⟨t',rfl⟩:=ry;exact PySem.EqMixed.ne_str_int (D3 I q (by simp))
  | str j=>obtain ⟨t',rfl⟩:=ry;exact ne_str (D3 I q (congrArg not AEH))
  | _=>exact absurd (show false=true from hs) Bool.false_ne_true
 | byt i =>
  obtain ⟨t,rfl⟩:=rx
  cases y with
  | byt j=>obtain ⟨t',rfl⟩:=ry;exact PySem.W.ne_bytes (D3 I q (congrArg not AM3))
  | _=>exact absurd (show false=true from hs) Bool.false_ne_true
 | _=>cases y<;>exact absurd (show false=true from hs) Bool.false_ne_true
theorem AV9:OpR X (compareOp .Lt) (rI0 fun i j=>.bl (decide (i<j))):=AbQ fun _ _ _ _ _ _ _ q=>lt_int q
theorem ALX:OpR X (compareOp .LtE) (rI0 fun i j=>.bl (decide (i≤j))):=AbQ fun _ _ _ _ _ _ _ q=>le_int q
theorem AaH:OpR X (compareOp .Gt) (rI0 fun i j=>.bl (decide (j<i))):=AbQ fun _ _ _ _ _ _ _ q=>gt_int q
theorem AYB:OpR X (compareOp .GtE) (rI0 fun i j=>.bl (decide (j≤i))):=AbQ fun _ _ _ _ _ _ _ q=>ge_int q
theorem OpR.or {f:Value→Value→Sem Value} {r r':R2} (h:OpR X f r) (h':OpR X f r'):OpR X f (fun x y H Q=>r x y H Q∨r' x y H Q):=by
 intro pins s σ H x y v u Q I rx ry q
 rcases q with q | q
 ·exact h pins s σ H x y v u Q I rx ry q
 ·exact h' pins s σ H x y v u Q I rx ry q
theorem AYG (b:Expr) {op:CmpOp} (h:op≠.In:=by decide) (h2:op≠.NotIn:=by decide):behindInMarks op b=false:=by
 have e1:(op == CmpOp.In)=false:=by cases op<;>first | rfl | exact absurd rfl h
 have e2:(op == CmpOp.NotIn)=false:=by cases op<;>first | rfl | exact absurd rfl h2
 cases b<;>simp[behindInMarks,e1,e2]
theorem AVR {op:CmpOp} {r:R2} (ho:OpR X (compareOp op) r) (ha:PE X a ta) (hb:PE X b tb) (hm:behindInMarks op b=false):PE X (.Compare a [op] [b] pos) (tOp r ta tb):=by
 intro pins s σ H Q I h
 exact wpAny_Compare1 (Ae6 ha hb I h fun v u s2 x y H2 I2 rx ry q=>ho pins s2 σ H2 x y v u Q I2 rx ry q) hm
def Aa5 (t:TE):TT:=fun σ H Q=>t σ H fun x H'=>∃k,x=.bl k∧Q k H'
theorem AVC {op:CmpOp} {r:R2} (ho:OpR X (compareOp op) r) (ha:PE X a ta) (hb:PE X b tb) (hm:behindInMarks op b=false):PT X (.Compare a [op] [b] pos) (Aa5 (tOp r ta tb)):=by
 intro pins s σ H Q I h
 refine wpAny_isTrue_Compare1 (thn (ha pins s σ H _ I h) fun v s1 ⟨x,H1,I1,r1,q1⟩=>thn (hb pins s1 σ H1 _ I1 q1) fun u s2 ⟨y,H2,I2,r2,q2⟩ =>
  thn (ho pins s2 σ H2 x y v u _ I2 r1 r2 q2) fun c s3 ⟨z,H3,I3,r3,k,e,q3⟩=>?_) hm
 subst e
 cases r3
 exact wpAny_truthy_bool ⟨H3,I3,q3⟩
def AJA (r r':R2) (ta tb tc:TE):TE:=fun σ H Q=>ta σ H fun x H1=>tb σ H1 fun y H2=>r x y H2 fun z H3=>∃k,z=.bl k ∧
 (if k=true then tc σ H3 fun w' H4=>r' y w' H4 Q else Q (.bl false) H3)
theorem AQE {op op':CmpOp} {r r':R2} (ho:OpR X (compareOp op) r) (ho':OpR X (compareOp op') r') (ha:PE X a ta) (hb:PE X b tb) (hc:PE X c tc)
  (hm:lastMarks [op,op'] [b,c]=false:=by with_unfolding_all rfl):PE X (.Compare a [op,op'] [b,c] pos) (AJA r r' ta tb tc):=by
 intro pins s σ H Q I h
 refine Compare_chain (thn (ha pins s σ H _ I h) fun v s1 ⟨x,H1,I1,r1,q1⟩=>chain_link (thn (hb pins s1 σ H1 _ I1 q1) fun u s2 ⟨y,H2,I2,r2,q2⟩ =>
  thn (ho pins s2 σ H2 x y v u _ I2 r1 r2 q2) fun d s3 ⟨z,H3,I3,r3,k,e,q3⟩=>?_)) hm
 subst e
 cases r3
 refine wpAny_truthy_bool ?_
 cases k with
 | false=>exact ite_ff ⟨.bl false,H3,I3,rfl,q3⟩
 | true=>exact ite_tt (chain_last (thn (hc pins s3 σ H3 _ I3 q3) fun w' s4 ⟨z',H4,I4,r4,q4⟩=>ho' pins s4 σ H4 y z' u w' Q I4 r2 r4 q4))
theorem ARQ {op op':CmpOp} {r r':R2} (ho:OpR X (compareOp op) r) (ho':OpR X (compareOp op') r') (ha:PE X a ta) (hb:PE X b tb) (hc:PE X c tc)
  (hm:lastMarks [op,op'] [b,c]=false:=by with_unfolding_all rfl):PT X (.Compare a [op,op'] [b,c] pos) (Aa5 (AJA r r' ta tb tc)):=by
 intro pins s σ H Q I h
 refine isTrue_chain (thn (ha pins s σ H _ I h) fun v s1 ⟨x,H1,I1,r1,q1⟩=>test_link (thn (hb pins s1 σ H1 _ I1 q1) fun u s2 ⟨y,H2,I2,r2,q2⟩ =>
  thn (ho pins s2 σ H2 x y v u _ I2 r1 r2 q2) fun d s3 ⟨z,H3,I3,r3,k,e,q3⟩=>?_)) hm
 subst e
 cases r3
 refine wpAny_truthy_bool ?_
 cases k with
 | false =>
  obtain ⟨k',e',q'⟩:=q3
  cases e'
  exact ite_ff ⟨H3,I3,q'⟩
 | true =>
  refine ite_tt (test_last (thn (hc pins s3 σ H3 _ I3 q3) fun w' s4 ⟨z',H4,I4,r4,q4⟩=>thn (ho' pins s4 σ H4 y z' u w' _ I4 r2 r4 q4) fun d' s5 ⟨z2,H5,I5,r5,k2,e2,q5⟩=>?_))
  subst e2
  cases r5
  exact wpAny_truthy_bool ⟨H5,I5,q5⟩
def AdU (K:PySem.W.Frag) (x:V) (H:Hp) (k:Bool):Prop :=
 match x with
 | .non=>k=false
 | .bl b=>k=b
 | .int i=>k=(i != 0)
 | .str y=>y.length≤sizeLine∧k=((y.length:Int) != 0)
 | .byt y=>y.size≤sizeLine∧k=((y.size:Int) != 0)
 | .ref p=>(∃xs,SqL K H p xs∧k=!xs.isEmpty)∨(∃xs,SqT K H p xs∧k=!xs.isEmpty)∨∃kvs,H p=some (.dK kvs)∧k=!kvs.isEmpty
 | _=>False
theorem ALF {κ:Type} {kvs:List (κ × V)} {vs:List (κ × Value)} (r:KV kvs vs):(!vs.isEmpty)=!kvs.isEmpty:=by
 cases r<;>rfl
theorem ADV {xs:List V} {its:List Value} (r:Vals xs its):(!its.toArray.isEmpty)=!xs.isEmpty:=by
 cases r<;>simp
theorem ADM:(sizeLine:Nat)<2 ^ 63:=by rw[sizeLine_eq];decide
theorem AaW:Ag5 X (fun x H Q=>∃k,AdU X.K x H k∧Q k H):=by
 intro pins s σ H x v Q I rx h
 obtain ⟨k,e,q⟩:=h
 have hl:=ADM
 have hs:sizeLine=16777216:=sizeLine_eq
 cases x with
 | non =>
  cases rx
  have e':k=false:=e
  subst e'
  exact truthy_none ⟨H,I,q⟩
 | bl b =>
  cases rx
  have e':k=b:=e
  subst e'
  exact wpAny_truthy_bool ⟨H,I,q⟩
 | int i =>
  obtain ⟨t,rfl⟩:=rx
  have e':k=(i != 0):=e
  subst e'
  exact PySem.P.truthy_int ⟨H,I,q⟩
 | str y =>
  obtain ⟨t,rfl⟩:=rx
  obtain ⟨hy,e'⟩:y.length≤sizeLine∧k=((y.length:Int) != 0):=e
  subst e'
  exact PySem.P.truthy_str (by omega) ⟨H,I.tok _,q⟩
 | byt y =>
  obtain ⟨t,rfl⟩:=rx
  obtain ⟨hy,e'⟩:y.size≤sizeLine∧k=((y.size:Int) != 0):=e
  subst e'
  exact PySem.W.truthy_bytes (by omega) ⟨H,I.tok _,q⟩
 | ref p =>
  cases rx
  have e':(∃xs,SqL X.K H p xs∧k=!xs.isEmpty)∨(∃xs,SqT X.K H p xs∧k=!xs.isEmpty)∨∃kvs,H p=some (.dK kvs)∧k=!kvs.isEmpty:=e
  rcases e' with ⟨xs,hx,e'⟩ | ⟨xs,hx,e'⟩ | ⟨kvs,hx,e'⟩
  ·subst e'
   obtain ⟨its,r,pl,hz⟩:=I.list hx
   have hlen:=r.length
   exact wpAny_truthy_list pl.isList (by simp only[List.size_toArray];omega) ⟨H,I.tok _,by rw[ADV r];exact q⟩
  ·subst e'
   obtain ⟨its,r,pl,hz⟩:=I.tuple hx
   have hlen:=r.length
   exact truthy_tuple pl (by simp only[List.size_toArray];omega) ⟨H,I.tok _,by rw[ADV r];exact q⟩
  ·subst e'
   obtain ⟨hz,hS,vs,r,m⟩:kvs.length≤sizeLine∧(p == sysModules)=false∧∃vs,KV kvs vs∧s.heap.DictOf (AI3 X.prog X.w) p vs:=I.hok p _ hx
   have hlen:kvs.length=vs.length:=Paired.length r
   exact wpAny_truthy_dict hS m (by omega) ⟨H,I.tok _,by rw[ALF r];exact q⟩
 | _=>exact (show False from e).elim
theorem AQN (ha:PE X a ta) (he:∀whole,isTrue a X.env whole=(do let v←whole;standAt a.pos;holding [v] (truthy v))) :
  PT X a (fun σ H Q=>ta σ H fun x H'=>∃k,AdU X.K x H' k∧Q k H'):=by
 intro pins s σ H Q I h
 exact isTrue_plain (thn (ha pins s σ H _ I h) fun v s1 ⟨x,H1,I1,r1,q1⟩=>AaW pins s1 σ H1 x v Q I1 r1 q1) (he _)
theorem op_add_str:OpR X (binaryOp .Add) (fun x y H Q=>∃i j,x=.str i∧y=.str j∧i.length+j.length≤sizeLine∧Q (.str (i++j)) H):=by
 intro pins s σ H x y v u Q I rx ry h
 obtain ⟨i,j,rfl,rfl,hz,q⟩:=h
 obtain ⟨t,rfl⟩:=rx
 obtain ⟨t',rfl⟩:=ry
 exact add_str (fun t' tk=>⟨.str (i++j),H,I.tok _,⟨_,rfl⟩,q⟩) hz
theorem AQU {x:V} {us:List Value} (r:Vals [x] us):∃u,us=[u]∧RelV x u:=by
 cases r with
 | cons r1 r2=>cases r2;exact ⟨_,rfl,r1⟩
theorem AUL {x y:V} {us:List Value} (r:Vals [x,y] us):∃u w',us=[u,w']∧RelV x u∧RelV y w':=by
 cases r with
 | cons r1 r2 =>
  cases r2 with
  | cons r3 r4=>cases r4;exact ⟨_,_,rfl,r1,r3⟩
theorem AQI:AAY X (.builtin "abs") (fun xs H Q=>∃i,xs=[.int i]∧Q (.int (if i<0 then -i else i)) H):=by
 intro pins s σ H xs us Q I r h
 obtain ⟨i,rfl,q⟩:=h
 obtain ⟨u,rfl,t,rfl⟩:=AQU r
 exact call_abs_int fun u tk=>⟨.int (if i<0 then -i else i),H,I.tok _,⟨_,rfl⟩,q⟩
theorem AMF (hc:X.calm=true):AAY X (.builtin "max") (fun xs H Q=>∃i j,xs=[.int i,.int j]∧Q (.int (if j>i then j else i)) H):=by
 intro pins s σ H xs us Q I r h
 obtain ⟨i,j,rfl,q⟩:=h
 obtain ⟨u,w',rfl,⟨t,rfl⟩,⟨t',rfl⟩⟩:=AUL r
 refine max_two_ints (I.ok.hd hc) fun h' tk k=>⟨_,H,I.kept k,?_,q⟩
 by_cases hj:j>i
 ·rw[if_pos hj,if_pos hj];exact ⟨_,rfl⟩
 ·rw[if_neg hj,if_neg hj];exact ⟨_,rfl⟩
theorem AMR (hc:X.calm=true):AAY X (.builtin "min") (fun xs H Q=>∃i j,xs=[.int i,.int j]∧Q (.int (if j<i then j else i)) H):=by
 intro pins s σ H xs us Q I r h
 obtain ⟨i,j,rfl,q⟩:=h
 obtain ⟨u,w',rfl,⟨t,rfl⟩,⟨t',rfl⟩⟩:=AUL r
 refine min_two_ints (I.ok.hd hc) fun h' tk k=>⟨_,H,I.kept k,?_,q⟩
 by_cases hj:j<i
 ·rw[if_pos hj,if_pos hj];exact ⟨_,rfl⟩
 ·rw[if_neg hj,if_neg hj];exact ⟨_,rfl⟩
def AeQ (K:PySem.W.Frag) (x:V) (H:Hp) (n:Nat):Prop :=
 match x with
 | .str y=>y.length≤sizeLine∧n=y.length
 | .byt y=>y.size≤sizeLine∧n=y.size
 | .ref p=>(∃xs,SqL K H p xs∧n=xs.length)∨∃xs,SqT K H p xs∧n=xs.length
 | _=>False
theorem ARK:AAY X (.builtin "len") (fun xs H Q=>∃x n,xs=[x]∧AeQ X.K x H n∧Q (.int n) H):=by
 intro pins s σ H xs us Q I r h
 obtain ⟨x,n,rfl,e,q⟩:=h
 obtain ⟨u,rfl,rx⟩:=AQU r
 have hl:=ADM
 have hs:sizeLine=16777216:=sizeLine_eq
 cases x with
 | str y =>
  obtain ⟨t,rfl⟩:=rx
  obtain ⟨hy,e'⟩:y.length≤sizeLine∧n=y.length:=e
  subst e'
  exact len_str (by omega) ⟨.int _,H,I.tok _,⟨_,rfl⟩,q⟩
 | byt y =>
  obtain ⟨t,rfl⟩:=rx
  obtain ⟨hy,e'⟩:y.size≤sizeLine∧n=y.size:=e
  subst e'
  exact PySem.W.len_bytes (by omega) ⟨.int _,H,I.tok _,⟨_,rfl⟩,q⟩
 | ref p =>
  cases rx
  have e':(∃xs,SqL X.K H p xs∧n=xs.length)∨∃xs,SqT X.K H p xs∧n=xs.length:=e
  rcases e' with ⟨xs,hx,e'⟩ | ⟨xs,hx,e'⟩
  ·subst e'
   obtain ⟨its,r',pl,hz⟩:=I.list hx
   have hlen:=r'.length
   exact Calls.call_len_list pl.isList (by simp only[List.size_toArray];omega) ⟨.int xs.length,H,I.tok _,⟨_,by simp only[List.size_toArray];rw[hlen]⟩,q⟩
  ·subst e'
   obtain ⟨its,r',pl,hz⟩:=I.tuple hx
   have hlen:=r'.length
   exact len_tuple pl (by simp only[List.size_toArray];omega) ⟨.int xs.length,H,I.tok _,⟨_,by simp only[List.size_toArray];rw[hlen]⟩,q⟩
 | _=>exact (show False from e).elim
end
structure Room (k:Nat) (A:Around):Prop where
 hd:A.handled=none
 dp:A.depth+3*k+5<recursionLimit
 un:A.units+16*k+200<cLine
theorem Room.mono {j k:Nat} {A:Around} (r:Room k A) (h:j≤k):Room j A:=⟨r.hd,by have:=r.dp;omega,by have:=r.un;omega⟩
theorem Room.deeper {k:Nat} {A:Around} (r:Room (k+1) A) (env:Env):Room k (A.deeper env) :=
 ⟨r.hd,by have:=r.dp;show A.depth+1+3*k+5<_;omega,by have:=r.un;show A.units+3+16*k+200<_;omega⟩
theorem Room.depth {k:Nat} {A:Around} (r:Room k A):A.depth<recursionLimit:=by have:=r.dp;omega
def AeN:TA:=fun _ H Q=>Q [] H
def AWD (ta:TE) (tr:TA):TA:=fun σ H Q=>ta σ H fun x H1=>tr σ H1 fun xs H2=>Q (x::xs) H2
section
variable {X:Cx} {e:Expr} {es:List Expr} {te:TE} {t:TA} {pos:Pos}
theorem AGS:PA X [] AeN:=fun _ _ _ _ H Q I h=>Calls.spliced_nil ⟨[],H,I,.nil,h⟩
theorem ABP (ha:PE X e te) (hr:PA X es t) (hs:starEach (e::es) X.env=(false,eval e X.env)::starEach es X.env:=by rfl):PA X (e::es) (AWD te t):=by
 intro pos pins s σ H Q I h
 rw[hs]
 show wpAny _ _ (spliced ((false,eval e X.env)::backTo pos (starEach es X.env))) _ _ s
 refine Calls.spliced_cons (thn (ha pins s σ H _ I h) fun u s1 ⟨x,H1,I1,r1,q1⟩=>?_)
 exact thn (hr pos pins s1 σ H1 _ I1 q1) fun us s2 ⟨xs,H2,I2,r2,q2⟩=>⟨x::xs,H2,I2,.cons r1 r2,q2⟩
def AfG (t:TA):TE:=fun σ H Q=>t σ H fun xs H1=>xs.length≤sizeLine∧∀p,H1 p=none→Q (.ref p) (upd H1 p (.tup xs))
def Ag6 (t:TA):TE:=fun σ H Q=>t σ H fun xs H1=>xs.length≤sizeLine∧∀p,H1 p=none→Q (.ref p) (upd H1 p (.lst xs))
theorem AaP {x1} (h:PA X es t):PE X (.Tuple es x1 pos) (AfG t):=by
 intro pins s σ H Q I hq
 refine wpAny_Tuple_spliced (thn (h pos pins s σ H _ I hq) fun us s1 ⟨xs,H1,I1,r,z,q⟩=>⟨by rw[←r.length];exact z,?_⟩)
 have hf:H1 s1.heap.objs.size=none:=I1.hok.fresh (Nat.le_refl _)
 refine ⟨.ref s1.heap.objs.size,upd H1 s1.heap.objs.size (.tup xs),I1.laid (t':=s1.toks) (fun b u e=>Heap.get?_push_of_some _ e) (Nat.le_refl _) ?_,rfl,q _ hf⟩
 exact ⟨z,us,r,⟨_,Heap.get?_push_size _ rfl,rfl,_,rfl⟩⟩
theorem AM6 (h:PA X es t):PE X (.List es pos) (Ag6 t):=by
 intro pins s σ H Q I hq
 refine wpAny_List_spliced (thn (h pos pins s σ H _ I hq) fun us s1 ⟨xs,H1,I1,r,z,q⟩=>⟨by rw[←r.length];exact z,?_⟩)
 have hf:H1 s1.heap.objs.size=none:=I1.hok.fresh (Nat.le_refl _)
 refine ⟨.ref s1.heap.objs.size,upd H1 s1.heap.objs.size (.lst xs),I1.laid (t':=s1.toks) (fun b u e=>Heap.get?_push_of_some _ e) (Nat.le_refl _) ?_,rfl,q _ hf⟩
 exact ⟨z,us,0,r,Heap.get?_push_size _ rfl⟩
end
abbrev Sp:=List V→Hp→VK→XK→Prop
abbrev CXT:=List Env→Hp→Shared→XK→Value→Shared→Prop
structure Env0 (P:Program) (w:World) (K:PySem.W.Frag) (mg:Str→Option Value) (base:Heap) (A:Around) (outer:List Env) (s:Shared) (H:Hp):Prop where
 frames:A.frames=some outer
 mod:Mod K mg base
 bs:∀b o,base.get? b=some o→s.heap.get? b=some o∧H b=none
 bsz:base.objs.size≤s.heap.objs.size
 funs:s.heap.FunFrames base outer
 frf:∀b∈frs outer,H b=none
 hok:HOk P w H s.heap
 bare:AllBare s.gens
def CE (outer:List Env) (P:Program) (w:World) (H:Hp) (s:Shared) (Q:VK) (u:Value) (s':Shared):Prop :=
 ∃v H',s'.os=s.os∧AllBare s'.gens∧Un (frs outer) [] H H' s.heap s'.heap∧HOk P w H' s'.heap∧RelV v u∧Q v H'
def CR (CX:CXT) (outer:List Env) (P:Program) (w:World) (H:Hp) (s:Shared) (Q:VK) (E:XK) (r:Result) (s':Shared):Prop :=
 match r with
 | .ok (.ret u)=>CE outer P w H s Q u s'
 | .ok _=>False
 | .error e=>CX outer H s E e s'
structure FnOk (P:Program) (w:World) (K:PySem.W.Frag) (mg:Str→Option Value) (base:Heap) (CX:CXT) (k:Nat) (f:Addr) (fd:FuncData) (ps:List Str) (sp:Sp):Prop where
 len:∀vs H Q E,sp vs H Q E→vs.length=ps.length
 run:∀(A:Around) (outer:List Env) (s:Shared) (H:Hp) (args:Args) (us:List Value) (vs:List V) (Q:VK) (E:XK),Room k A→Env0 P w K mg base A outer s H→BindsTo s fd args (ps.zip us)→Vals vs us→sp vs H Q E →
  codeAny (model P w) A (.call (.ref f) args) (CR CX outer P w H s Q E) s
theorem FnOk.mono {P:Program} {w:World} {K:PySem.W.Frag} {mg:Str→Option Value} {base:Heap} {CX:CXT} {j k:Nat} {f:Addr} {fd:FuncData} {ps:List Str} {sp:Sp} (F:FnOk P w K mg base CX j f fd ps sp) (h:j≤k) :
  FnOk P w K mg base CX k f fd ps sp:=⟨F.len,fun A outer s H args us vs Q E hr=>F.run A outer s H args us vs Q E (hr.mono h)⟩
section
variable {X:Cx} {pins:List (Addr × Obj)} {σ:St} {H:Hp} {s s':Shared}
theorem Inv.env0 (I:Inv X pins σ H s):Env0 X.prog X.w X.K X.mg X.base X.A X.stack s H :=
 ⟨I.ok.frames,I.ok.mod,I.bs,Nat.le_trans I.ok.bsz I.sz,I.stack,I.stkFree,I.hok,I.bare⟩
theorem Inv.after {Q:VK} {u:Value} (I:Inv X pins σ H s) (h:CE X.stack X.prog X.w H s Q u s'):EP X pins σ Q u s':=by
 obtain ⟨v,H',os,bare,un,hok,r,q⟩:=h
 obtain ⟨hh,g,d,t,os'⟩:=s'
 obtain rfl:os'=s.os:=os
 exact ⟨v,H',I.call (h':=hh) (g':=g) (d':=d) (t':=t) (ch:=[]) un hok bare (fun b z=>absurd z (by simp)),r,q⟩
end
def AZY (sp:Sp) (dvs:List V) (E:XK) (t:TA):TE:=fun σ H Q=>t σ H fun vs H1=>sp (vs++dvs) H1 Q E
def Binds (K:PySem.W.Frag) (fd:FuncData) (ps:List Str) (ds:List Value):Prop :=
 ∀(s:Shared) (us:List Value),K.In s.heap→(us++ds).length=ps.length→BindsTo s fd ⟨us,[]⟩ (ps.zip (us++ds))
theorem Binds.all {K:PySem.W.Frag} {fd:FuncData} {ps:List Str} (h:∀us:List Value,us.length=ps.length→bindArgs fd ⟨us,[]⟩=pure (ps.zip us)):Binds K fd ps []:=fun s us _ hl=>by
 rw[List.append_nil]at hl ⊢
 exact .of_eq (h us hl)
def Y1 (CX:CXT) (X:Cx) (E:XK):Prop:=∀(pins:List (Addr × Obj)) (σ:St) (H:Hp) (s:Shared) (e:Value) (s':Shared),Inv X pins σ H s→CX X.stack H s E e s'→X.xe e s'
section
variable {X:Cx} {CX:CXT} {k:Nat} {f C:Addr} {fd:FuncData} {ps:List Str} {sp:Sp} {dvs:List V} {ds:List Value} {E:XK} {x m:Str} {p pos apos:Pos} {e o:Expr} {es:List Expr} {ta:TE} {t:TA}
theorem AXS {pins:List (Addr × Obj)} {σ:St} {H:Hp} {s:Shared} {Q:VK} {us:List Value} {vs:List V} (F:FnOk X.prog X.w X.K X.mg X.base CX k f fd ps sp) (hr:Room k X.A) (hb:Binds X.K fd ps ds) (hd:Vals dvs ds) (hx:Y1 CX X E)
  (I:Inv X pins σ H s) (r:Vals vs us) (h:sp (vs++dvs) H Q E):wpAny (model X.prog X.w) X.A (call (.ref f) us) (EP X pins σ Q) X.xe s:=by
 have r2:Vals (vs++dvs) (us++ds):=r.append hd
 have hl:(us++ds).length=ps.length:=by rw[←r2.length];exact F.len _ _ _ _ h
 refine wpAny_call (codeAny_mono (F.run X.A X.stack s H ⟨us,[]⟩ (us++ds) (vs++dvs) Q E hr I.env0 (hb s us I.kIn hl) r2 h) fun r s' hq=>?_)
 cases r with
 | error e=>exact hx pins σ H s e s' I hq
 | ok fl =>
  cases fl with
  | ret u=>exact I.after hq
  | next=>exact False.elim hq
  | brk=>exact False.elim hq
  | cont=>exact False.elim hq
theorem ANO (F:FnOk X.prog X.w X.K X.mg X.base CX k f fd ps sp) (hr:Room k X.A) (hg:Gl X x) (hm:X.mg x=some (.ref f)) (hk:PySem.W.keepIn X.K (.ref f)=true) (hb:Binds X.K fd ps ds) (hd:Vals dvs ds) (hx:Y1 CX X E)
  (ha:PA X (e::es) t) (hdb:(x == ("__debug__" : Str))=false:=by decide) (he:starEach (e::es) X.env=(false,eval e X.env)::starEach es X.env:=by rfl) (hpl:(backTo pos (starEach es X.env)).any (·.1)=false:=by rfl) :
  PE X (.Call (.Name x p) (e::es) [] pos) (AZY sp dvs E t):=by
 intro pins s σ H Q I h
 refine wpAny_Call_Name_kw (AHN I hg hm ?_ hdb)
 refine PySem.W.callWith_K (h₀:=X.base) I.ok.mod.kin hk (thn (ha pos pins s σ H _ I h) fun us s1 ⟨vs,H1,I1,r,q⟩=>⟨I1.kIn,?_⟩) he hpl
 exact AXS F hr hb hd hx I1 r q
end
section
variable {X:Cx} {CX:CXT} {k:Nat} {f C:Addr} {fd:FuncData} {ps ks:List Str} {sp:Sp} {E:XK} {x m:Str} {p pos apos kpos:Pos} {e o:Expr} {es:List Expr} {kws:List Keyword} {te ta:TE} {t tk:TA} {nm:Option Str}
structure KBinds (K:PySem.W.Frag) (fd:FuncData) (ps ks:List Str) (g:List Value→List Value→List Value) (gV:List V→List V→List V):Prop where
 to:∀(s:Shared) (us ws:List Value),K.In s.heap→(g us ws).length=ps.length→BindsTo s fd ⟨us,ks.zip ws⟩ (ps.zip (g us ws))
 rel:∀{vs:List V} {us:List Value} {zs:List V} {ws:List Value},Vals vs us→Vals zs ws→Vals (gV vs zs) (g us ws)
variable {g:List Value→List Value→List Value} {gV:List V→List V→List V}
end
structure FnScope (N P:List Str) (sc:Scope):Prop where
 kind:sc.kind=.function
 co:sc.isCoroutine=false
 gen:sc.isGenerator=false
 nd:N.Nodup
 pre:N.take P.length=P
 par:∀x∈P,sc.names.lookup x=some .local∨sc.names.lookup x=some .cell
 nofree:∀y∈sc.names,y.2≠.free
theorem AFL {kindOf:Str→Option NameKind} {x:Str}:∀{binds:List (Str × Value)} {m:Str→Option Value},(∀v,(x,v) ∉ binds)→bindL kindOf binds m x=m x
 | [],_,_=>rfl
 | (n,v)::r,m,h=>by
  unfold bindL
  rw[AFL fun w hw=>h w (List.mem_cons_of_mem _ hw)]
  split
  ·have:x≠n:=by rintro rfl;exact h v List.mem_cons_self
   simp[this]
  ·rfl
theorem AH2 {kindOf:Str→Option NameKind} {x:Str}:∀{binds:List (Str × Value)} {m:Str→Option Value},(∀v,(x,v) ∉ binds)→bindC kindOf binds m x=m x
 | [],_,_=>rfl
 | (n,v)::r,m,h=>by
  unfold bindC
  rw[AH2 fun w hw=>h w (List.mem_cons_of_mem _ hw)]
  split
  ·rfl
  ·have:x≠n:=by rintro rfl;exact h v List.mem_cons_self
   simp[this]
theorem AG9 {kindOf:Str→Option NameKind} {x:Str} {v:Value}:∀{P:List Str} {vs:List Value} {i:Nat} {m:Str→Option Value},P.Nodup→P[i]?=some x→vs[i]?=some v→kindOf x=some .local →
  bindL kindOf (P.zip vs) m x=some v
 | [],_,_,_,_,h,_,_=>by simp at h
 | _::_,[],_,_,_,_,h,_=>by simp at h
 | p::P,w::vs,0,m,nd,h1,h2,hk=>by
  simp at h1 h2;subst h1;subst h2
  show bindL kindOf ((p,w)::P.zip vs) m p=_
  unfold bindL
  rw[AFL fun v hv=>(List.nodup_cons.mp nd).1 (List.of_mem_zip hv).1,if_pos hk]
  simp
 | p::P,w::vs,i+1,m,nd,h1,h2,hk=>by
  show bindL kindOf ((p,w)::P.zip vs) m x=_
  unfold bindL
  exact AG9 (i:=i) (List.nodup_cons.mp nd).2 (by simpa using h1) (by simpa using h2) hk
theorem AG1 {kindOf:Str→Option NameKind} {x:Str} {v:Value}:∀{P:List Str} {vs:List Value} {i:Nat} {m:Str→Option Value},P.Nodup→P[i]?=some x→vs[i]?=some v→kindOf x≠some .local →
  bindC kindOf (P.zip vs) m x=some v
 | [],_,_,_,_,h,_,_=>by simp at h
 | _::_,[],_,_,_,_,h,_=>by simp at h
 | p::P,w::vs,0,m,nd,h1,h2,hk=>by
  simp at h1 h2;subst h1;subst h2
  show bindC kindOf ((p,w)::P.zip vs) m p=_
  unfold bindC
  rw[AH2 fun v hv=>(List.nodup_cons.mp nd).1 (List.of_mem_zip hv).1,if_neg hk]
  simp
 | p::P,w::vs,i+1,m,nd,h1,h2,hk=>by
  show bindC kindOf ((p,w)::P.zip vs) m x=_
  unfold bindC
  exact AG1 (i:=i) (List.nodup_cons.mp nd).2 (by simpa using h1) (by simpa using h2) hk
def start (N:List Str) (vs:List V):St:=vs.map some++List.replicate (N.length-vs.length) none
def W1 (CX:CXT) (P:Program) (w:World) (K:PySem.W.Frag) (mg:Str→Option Value) (base:Heap) (N:List Str) (qual:Str) (scope:Scope) (f:Addr) (cd:Value) (A:Around) (outer:List Env) (s:Shared) (H:Hp) (E:XK):Cx where
 prog:=P
 w:=w
 K:=K
 mg:=mg
 base:=base
 A:=A.deeper (envOfC qual scope s.heap.objs.size f cd)
 N:=N
 s₀:=s
 H₀:=H
 env:=envOfC qual scope s.heap.objs.size f cd
 outer:=outer
 stack:=envOfC qual scope s.heap.objs.size f cd::outer
 ex:=[]
 calm:=true
 fn:=fun _=>true
 pn:=[]
 xe:=fun e s'=>wpAny (model P w) (A.deeper (envOfC qual scope s.heap.objs.size f cd)) (leaving (envOfC qual scope s.heap.objs.size f cd) e) (fun _ s''=>CX outer H s E e s'') (fun e' s''=>CX outer H s E e' s'') s'
theorem AIW {sc:Scope} {n:Nat} {x:Str} (h:sc.names.lookup x=some .cell):∃c,(cellsFrom n sc.names []).lookup x=some c:=by
 have q:=PySem.W.cellsFrom_some sc.names n [] (.inl h)
 exact Option.isSome_iff_exists.mp q
theorem AMA {CX:CXT} {P:Program} {w:World} {K:PySem.W.Frag} {mg:Str→Option Value} {base:Heap} {N ps:List Str} {qual:Str} {scope:Scope} {f:Addr} {cd:Value} {A:Around} {outer:List Env} {s s1:Shared} {H:Hp} {E:XK} {us:List Value} {vs:List V}
  (S:FnScope N ps scope) (hd:A.handled=none) (e0:Env0 P w K mg base A outer s H) (hl:vs.length=ps.length) (r:Vals vs us)
  (x:InCallC s s.heap.objs.size (bindL (envOfC qual scope s.heap.objs.size f cd).kindOf (ps.zip us) fun _=>none) (cellsFrom (s.heap.objs.size+1) scope.names []) (bindC (envOfC qual scope s.heap.objs.size f cd).kindOf (ps.zip us) fun _=>none) s1) :
  Inv (W1 CX P w K mg base N qual scope f cd A outer s H E) [] (start N vs) H s1:=by
 have hpl:ps.length≤N.length:=by have:=congrArg List.length S.pre;rw[List.length_take]at this;omega
 obtain ⟨h1,tk,rfl,hk⟩:=x.done
 have noA:∀b:Addr,b ∉ (W1 CX P w K mg base N qual scope f cd A outer s H E).ex:=fun b z=>absurd (show b∈([]:List Addr) from z) (by simp)
 refine ⟨⟨e0.mod,S.kind,rfl,rfl,Nat.le_refl _,fun y z c h1 h2=>?_,fun y hy=>?_,fun y c _ h=>?_,fun _=>hd,Around.frames_deeper e0.frames,.inr ⟨rfl,rfl⟩,fun b z=>absurd z (noA b),e0.bs,e0.bsz,fun b _ _=>noA b,fun b z=>absurd z (noA b),e0.funs,e0.frf⟩,
  rfl,e0.bare,Un.kept hk,⟨_,x.toInCall.ns,fun i y v h1 h2 h3=>?_⟩,fun y c h=>⟨_,x.cell y c h⟩,e0.hok.fresh (Nat.le_refl _),fun y c h=>?_,fun p hp=>absurd (show p∈([]:List (Addr × Obj)) from hp) (by simp),e0.hok.kept hk,?_⟩
 ·exact name_of_addr x.apart (PySem.mem_of_lookup h1) (PySem.mem_of_lookup h2)
 ·have hy:scope.names.lookup y=some .cell∨scope.names.lookup y=some .free:=hy
  rcases hy with hy | hy
  ·exact AIW hy
  ·exact absurd rfl (S.nofree _ (PySem.mem_of_lookup hy))
 ·exact Nat.le_of_lt (x.above y c (PySem.mem_of_lookup h))
 ·have hi:i<vs.length:=by
   unfold start at h2
   by_cases hi:i<vs.length
   ·exact hi
   ·rw[List.getElem?_append_right (by simpa using hi)]at h2
    rw[List.getElem?_replicate]at h2
    split at h2<;>cases h2
  have ha:vs[i]?=some v:=by
   unfold start at h2
   rw[List.getElem?_append_left (by simpa using hi),List.getElem?_map]at h2
   cases e:vs[i]? with
   | none=>rw[e]at h2;cases h2
   | some a=>rw[e]at h2;cases h2;rfl
  obtain ⟨u,hu,rv⟩:=r.get ha
  have hp:ps[i]?=some y:=by
   rw[←S.pre,List.getElem?_take_of_lt (by omega)];exact h1
  have ndP:ps.Nodup:=by rw[←S.pre];exact S.nd.sublist (List.take_sublist _ _)
  refine ⟨u,rv,?_⟩
  rcases S.par y (List.mem_of_getElem? hp) with k | k
  ·exact .inl ⟨k,AG9 ndP hp hu k⟩
  ·obtain ⟨c,e⟩:=AIW (n:=s.heap.objs.size+1) k
   refine .inr ⟨.inl k,c,e,?_⟩
   have q:=x.cell y c e
   rw[AG1 ndP hp hu (by show scope.names.lookup y≠_;rw[k];decide)]at q
   exact q
 ·exact e0.hok.fresh (Nat.le_of_lt (x.above y c (PySem.mem_of_lookup h)))
 ·unfold start
  show _=N.length
  rw[List.length_append,List.length_map,List.length_replicate]
  omega
theorem AVY {CX:CXT} {P:Program} {w:World} {K:PySem.W.Frag} {mg:Str→Option Value} {base:Heap} {k:Nat} {f:Addr} {name qual:Str} {params:Arguments} {body:List Stmt} {scope:Scope} {dV kV doc pm cdv ct oc:Value} {an od:Option Addr}
  {osl:Array (Option Value)} {N ps:List Str} {sp:Sp} (lk:K.lookup f=some ⟨oc,od,.func (PySem.W.fnOf name qual params body scope dV kV doc pm an cdv ct),osl⟩) (hcd:PySem.W.codeIn K cdv qual=true) (S:FnScope N ps scope)
  (len:∀vs H Q E,sp vs H Q E→vs.length=ps.length)
  (hbody:∀(A:Around) (outer:List Env) (s:Shared) (H:Hp) (vs:List V) (Q:VK) (E:XK),Room k (A.deeper (envOfC qual scope s.heap.objs.size f cdv))→sp vs H Q E →
   ∃t,PSs (W1 CX P w K mg base N qual scope f cdv A outer s H E) body t∧t {nx:=fun _ H'=>Q .non H',rt:=Q} (start N vs) H) :
  FnOk P w K mg base CX (k+1) f (PySem.W.fnOf name qual params body scope dV kV doc pm an cdv ct) ps sp:=by
 refine ⟨len,fun A outer s H args us vs Q E hr e0 hb r hsp=>?_⟩
 have hl:=len _ _ _ _ hsp
 have KX:K.In s.heap:=e0.mod.kin.keeps fun b o e=>(e0.bs b o e).1
 have lim:s.heap.NoLimit:=e0.mod.nolimit.keeps fun b o e=>(e0.bs b o e).1
 have hkind:∀y∈ps.zip us,scope.names.lookup y.1=some .local∨(scope.names.lookup y.1=some .cell∧((cellsFrom (s.heap.objs.size+1) scope.names []).lookup y.1).isSome=true):=fun ⟨n,v⟩ hy=>by
  rcases S.par n (List.of_mem_zip hy).1 with q | q
  ·exact .inl q
  ·exact .inr ⟨q,PySem.W.cellsFrom_some _ _ _ (.inl q)⟩
 refine codeAny_call_function hr.depth (KX _ _ lk) rfl S.co S.gen rfl (PySem.W.codeRec_of KX hcd) (hb _ _ _ _ ?_)
 refine wpAny_newFunctionEnv_cells S.kind hkind fun env he s1 x=>?_
 subst he
 refine ⟨lim.keeps x.toInCall.keep,codeAny_func ?_⟩
 obtain ⟨t,ht,hq⟩:=hbody A outer s H vs Q E (hr.deeper _) hsp
 have I:Inv (W1 CX P w K mg base N qual scope f cdv A outer s H E) [] (start N vs) H s1:=AMA S hr.hd e0 hl r x
 refine wpAny_mono (ht [] s1 (start N vs) H _ I hq) (fun fl s' hs=>?_) fun e s' hs=>hs
 have fin:∀{σ':St} {H':Hp} {v:V} {u:Value},Inv (W1 CX P w K mg base N qual scope f cdv A outer s H E) [] σ' H' s'→RelV v u→Q v H'→CE outer P w H s Q u s' :=
  fun {σ' H' v u} J rv q=>⟨v,H',J.os,J.bare,J.base,J.hok,rv,q⟩
 cases fl with
 | ret u =>
  obtain ⟨v,σ',H',J,rv,q⟩:=hs
  exact fin J rv q
 | next =>
  obtain ⟨σ',H',J,q⟩:=hs
  exact fin (v:=V.non) (u:=Value.none) J rfl q
 | brk =>
  obtain ⟨_,_,_,q⟩:=hs
  exact False.elim q
 | cont =>
  obtain ⟨_,_,_,q⟩:=hs
  exact False.elim q
section
variable {X:Cx} {x:Str} {p pos:Pos} {e:Expr} {es:List Expr} {t:TA} {id T:String} {r:List V→Hp→VK→Prop}
def tCB (r:List V→Hp→VK→Prop) (t:TA):TE:=fun σ H Q=>t σ H fun vs H1=>r vs H1 Q
theorem AIU (hc:AAY X (.builtin id) r) (hg:Gl X x) (hm:X.mg x=none) (hv:bootBuiltins x=some (.builtin id)) (ha:PA X (e::es) t) (hn:x≠"__name__":=by decide) (hdb:(x == ("__debug__" : Str))=false:=by decide)
  (he:starEach (e::es) X.env=(false,eval e X.env)::starEach es X.env:=by rfl) (hpl:(backTo pos (starEach es X.env)).any (·.1)=false:=by rfl):PE X (.Call (.Name x p) (e::es) [] pos) (tCB r t):=by
 intro pins s σ H Q I h
 refine wpAny_Call_Name_kw (P9 I hg hm hv ?_ hn hdb)
 exact PyProof.Rows.callWith_builtin1 (thn (ha pos pins s σ H _ I h) fun us s1 ⟨vs,H1,I1,r1,q1⟩=>hc pins s1 σ H1 vs us Q I1 r1 q1) he hpl
theorem AP6 (hc:AAY X (.type T) r) (hg:Gl X x) (hm:X.mg x=none) (hv:bootBuiltins x=some (.type T)) (ha:PA X (e::es) t) (hn:x≠"__name__":=by decide) (hdb:(x == ("__debug__" : Str))=false:=by decide)
  (he:starEach (e::es) X.env=(false,eval e X.env)::starEach es X.env:=by rfl) (hpl:(backTo pos (starEach es X.env)).any (·.1)=false:=by rfl):PE X (.Call (.Name x p) (e::es) [] pos) (tCB r t):=by
 intro pins s σ H Q I h
 refine wpAny_Call_Name_kw (P9 I hg hm hv ?_ hn hdb)
 exact PyProof.Rows.callWith_type1 (thn (ha pos pins s σ H _ I h) fun us s1 ⟨vs,H1,I1,r1,q1⟩=>hc pins s1 σ H1 vs us Q I1 r1 q1) he hpl
end
end L2
namespace HT
open PySem PyProof.Rows
section
open PySem.SeqAt
open PySem.AutoSeq1 (wpAny_loadPart')
open PySem.MeetsSeq PySem.MeetsSeq2 PySem.MeetsSeq3
end
section
variable {prog:Program} {w:World} {A:Around} {E:Value→Shared→Prop} {s:Shared}
theorem cat_tup {t b:Addr} {vs ws:List Value} {Q:Value→Shared→Prop} (ht:IsTup s.heap t vs.toArray) (hb:IsTup s.heap b ws.toArray) (hv:vs≠[])
  (h1:ws=[]→Q (.ref t) s) (h2:ws≠[]→Q (.ref s.heap.objs.size) {s with heap:=s.heap.push {cls:=.type "tuple",data:=.seq (vs++ws).toArray} })
  (hsz:vs.length+ws.length≤sizeLine):wpAny (model prog w) A (binaryOp .Add (.ref t) (.ref b)) Q E s:=by
 obtain ⟨⟨cls,dd,data,sl⟩,ho,hc,n,hd⟩:=id ht
 obtain ⟨⟨cls2,dd2,data2,sl2⟩,ho2,hc2,n2,hd2⟩:=id hb
 simp only at hc hd hc2 hd2
 subst hc hd hc2 hd2
 have e:vs.toArray++ws.toArray=(vs++ws).toArray:=by simp
 by_cases hw:ws=[]
 ·exact concat_meets ⟨_,ho,rfl⟩ ⟨_,ho2,rfl⟩ noFill_tuple_add seq_tuple_add PySem.F.slot_tuple_add PySem.F.entry_tuple_add (PySem.F.args_tuple_add_2 _ _)
   (tuple_addW1 t b vs.toArray ws.toArray n n2 dd dd2 sl sl2 (by simpa using hv) (by simp[hw])) ⟨ho,ho2,h1 hw⟩
 ·refine concat_meets ⟨_,ho,rfl⟩ ⟨_,ho2,rfl⟩ noFill_tuple_add seq_tuple_add PySem.F.slot_tuple_add PySem.F.entry_tuple_add (PySem.F.args_tuple_add_2 _ _)
   (tuple_addW2 t b vs.toArray ws.toArray n n2 dd dd2 sl sl2 (by simpa using hv) (by simpa using hw) (by rw[List.size_toArray,List.size_toArray];exact hsz)) ⟨ho,ho2,?_⟩
  rw[e]
  exact h2 hw
def sIx (n d:Nat):Option Int→Nat
 | none=>d
 | some v=>if v<0 then (v+(n:Int)).toNat else min v.toNat n
theorem sIx_none (n d:Nat):sIx n d none=d:=rfl
theorem sIx_nat (n d k:Nat):sIx n d (some (k:Int))=min k n:=by
 show (if (k:Int)<0 then ((k:Int)+(n:Int)).toNat else min (k:Int).toNat n)=min k n
 rw[if_neg (by omega),Int.toNat_natCast]
theorem AYC (n d:Nat) (hd:d≤n) (o:Option Int):sIx n d o≤n:=by
 cases o with
 | none=>exact hd
 | some v =>
  show (if v<0 then (v+(n:Int)).toNat else min v.toNat n)≤n
  by_cases hv:v<0
  ·rw[if_pos hv];omega
  ·rw[if_neg hv];exact Nat.min_le_right _ _
theorem AOU (v:Int) (n d:Nat):(if v<0 then max (v+(n:Int)) 0 else min v (n:Int))=((sIx n d (some v):Nat):Int):=by
 show (if v<0 then max (v+(n:Int)) 0 else min v (n:Int))=(((if v<0 then (v+(n:Int)).toNat else min v.toNat n):Nat):Int)
 by_cases hv:v<0
 ·simp only[if_pos hv];omega
 ·simp only[if_neg hv];omega
theorem AKY (lo hi:Option Int) (n:Nat):Builtin.Slice.sliceAdjust lo hi 1 (n:Int)=(((sIx n 0 lo:Nat):Int),((sIx n n hi:Nat):Int)):=by
 have h1:¬((1:Int)<0):=by omega
 unfold Builtin.Slice.sliceAdjust
 simp only[h1,if_false]
 refine Prod.ext ?_ ?_
 ·cases lo with
  | none=>rfl
  | some v=>exact AOU v n 0
 ·cases hi with
  | none=>rfl
  | some v=>exact AOU v n n
theorem AKE (i j:Nat):Builtin.Slice.slicePlaces (i:Int) (j:Int) 1=j-i:=by
 unfold Builtin.Slice.slicePlaces
 have h1:(1:Int)>0:=by omega
 simp only[h1,if_true,Int.ediv_one]
 split<;>omega
theorem ADP {v:Value} {o:Option Int} {Q:Option Int→Shared→Prop} (p:IsPart v o) (h:Q o s):wpAny (model prog w) A (Builtin.Slice.slicePartIndex v) Q E s:=by
 cases p with
 | none=>exact slicePart_none h
 | int i t=>exact slicePart_int h
theorem sliceApplied_gen {sl:Addr} {vl vu:Value} {lo hi:Option Int} {n:Nat} {Q:Int × Int × Nat→Shared→Prop} (hs:s.heap.IsSliceOf sl vl vu .none) (pl:IsPart vl lo) (pu:IsPart vu hi)
  (h:Q (((sIx n 0 lo:Nat):Int),1,sIx n n hi-sIx n 0 lo) s):wpAny (model prog w) A (Builtin.Slice.sliceApplied (.ref sl) (pure (n:Int))) Q E s:=by
 obtain ⟨os,hos,hcs,hds⟩:=id hs
 unfold Builtin.Slice.sliceApplied Builtin.Slice.sliceFields
 refine wpAny_bind (wpAny_bind (wpAny_field hos hds (x:=vl) rfl (wpAny_bind (wpAny_field hos hds (x:=vu) rfl (wpAny_bind (wpAny_field hos hds (x:=.none) rfl (wpAny_pure ?_)))))))
 refine wpAny_bind (slicePart_none ?_)
 show wpAny _ _ (if ((1:Int) == 0)=true then _ else _) _ _ s
 rw[if_neg (by decide)]
 refine wpAny_bind (ADP pl (wpAny_bind (ADP pu (wpAny_bind (wpAny_pure ?_)))))
 show wpAny _ _ (match Builtin.Slice.sliceAdjust lo hi 1 (n:Int) with | (lo,hi)=>pure (lo,(1:Int),Builtin.Slice.slicePlaces lo hi 1)) _ _ s
 rw[AKY lo hi n]
 show wpAny _ _ (pure (((sIx n 0 lo:Nat):Int),(1:Int),Builtin.Slice.slicePlaces ((sIx n 0 lo:Nat):Int) ((sIx n n hi:Nat):Int) 1)) _ _ s
 rw[AKE]
 exact wpAny_pure h
theorem AR6 (xs:Array Value) (i k:Nat):((List.range k).filterMap fun (m:Nat)=>xs[((i:Int)+(m:Int)*1).toNat]?).toArray=((xs.toList.drop i).take k).toArray:=by
 have e:(fun (m:Nat)=>xs[((i:Int)+(m:Int)*1).toNat]?)=fun m=>xs[i+m]?:=by
  funext m
  have:((i:Int)+(m:Int)*1).toNat=i+m:=by omega
  rw[this]
 rw[e]
 have:=pick_run xs i k
 rw[List.filterMap_map]at this
 have e2:((fun x=>xs[x]?)∘fun x=>i+x)=fun m=>xs[i+m]?:=rfl
 rw[e2]at this
 rw[this]
theorem getItem_tuple_cut {t sl:Addr} {items:Array Value} {vl vu:Value} {lo hi:Option Int} {Q:Value→Shared→Prop} (ht:IsTup s.heap t items) (hs:s.heap.IsSliceOf sl vl vu .none) (pl:IsPart vl lo) (pu:IsPart vu hi)
  (hw:¬(sIx items.size 0 lo=0∧sIx items.size items.size hi=items.size))
  (h:Q (.ref s.heap.objs.size) {s with heap:=s.heap.push {cls:=.type "tuple",data:=.seq ((items.toList.drop (sIx items.size 0 lo)).take (sIx items.size items.size hi-sIx items.size 0 lo)).toArray} })
  (hsz:items.size≤sizeLine):wpAny (model prog w) A (getItem (.ref t) (.ref sl)) Q E s:=by
 have htake:sizeOk (.seq ((items.toList.drop (sIx items.size 0 lo)).take (sIx items.size items.size hi-sIx items.size 0 lo)).toArray):=by
  show ((items.toList.drop (sIx items.size 0 lo)).take (sIx items.size items.size hi-sIx items.size 0 lo)).toArray.size≤sizeLine
  rw[List.size_toArray,List.length_take,List.length_drop,Array.length_toList]
  omega
 have hj:sIx items.size items.size hi≤items.size:=AYC _ _ (Nat.le_refl _) hi
 obtain ⟨os,hos,hcs,hds⟩:=id hs
 have hTs:s.TypeIs (.ref sl) "slice":=⟨os,hos,hcs⟩
 unfold getItem
 try with_reducible refine wpAny_holding ?_
 first | refine wpAny_bind (wpAny_pure ?_) | skip
 refine wpAny_bind (wpAny_sequenceKey ht.typeIs (by decide) ?_)
 refine wpAny_bind (wpAny_callSpecial?_slot (name:=Str.ofString "__getitem__") ht.typeIs PyProof.Rows.slot_tuple_getitem
  (wpAny_call_entry PyProof.Rows.slot_tuple_getitem ht.typeIs entry_tuple_getitem ?_ (args_tuple_getitem _ _)))
 show wpAny _ _ (Builtin.Tuple.tupleItemsOf (.ref t) >>= _) _ _ s
 refine wpAny_bind (tupleItemsOf_ ht ?_)
 refine wpAny_bind (wpAny_typeOf hTs ?_)
 rw[if_pos (by decide)]
 refine wpAny_bind (sliceApplied_gen hs pl pu ?_)
 have hno:¬((((sIx items.size 0 lo:Nat):Int) == 0&&(1:Int) == 1&&(sIx items.size items.size hi-sIx items.size 0 lo) == items.size)=true):=by
  intro q
  rw[Bool.and_eq_true,Bool.and_eq_true]at q
  have q1:((sIx items.size 0 lo:Nat):Int)=0:=eq_of_beq q.1.1
  have q2:sIx items.size items.size hi-sIx items.size 0 lo=items.size:=eq_of_beq q.2
  exact hw ⟨by omega,by omega⟩
 show wpAny _ _ (if (((sIx items.size 0 lo:Nat):Int) == 0&&(1:Int) == 1&&(sIx items.size items.size hi-sIx items.size 0 lo) == items.size)=true then _ else _) _ _ s
 rw[if_neg hno,AR6]
 first
  | exact wpAny_bind (m:=Builtin.Tuple.tupleExact _) (wpAny_newObj_type (wpAny_pure ⟨_,rfl,wpAny_pure h⟩) htake)
  | exact wpAny_bind (m:=Builtin.Tuple.tupleExact _) (wpAny_newObj_type (wpAny_bind (wpAny_pure (wpAny_pure ⟨_,rfl,wpAny_pure h⟩))) htake)
  | exact wpAny_bind (wpAny_bind (m:=Builtin.Tuple.tupleExact _) (wpAny_newObj_type (wpAny_pure (wpAny_pure ⟨_,rfl,wpAny_pure h⟩)) htake))
  | exact wpAny_bind (wpAny_bind (m:=Builtin.Tuple.tupleExact _) (wpAny_newObj_type (wpAny_pure ⟨_,rfl,wpAny_pure h⟩) htake))
end
end HT
namespace L2
open PySem PySem.Spec PyProof.Rows
abbrev TO:=St→Hp→(Option Int→Hp→Prop)→Prop
def PO (X:Cx) (e:Option Expr) (t:TO):Prop :=
 ∀(pins:List (Addr × Obj)) (s:Shared) (σ:St) (H:Hp) (Q:Option Int→Hp→Prop),Inv X pins σ H s→t σ H Q →
  wpAny (model X.prog X.w) X.A (evalPart e X.env) (fun u s'=>∃o H',Inv X pins σ H' s'∧IsPart u o∧Q o H') X.xe s
def AV8:TO:=fun _ H Q=>Q none H
def AcH (t:TE):TO:=fun σ H Q=>t σ H fun x H1=>∃i,x=.int i∧Q (some i) H1
section
variable {X:Cx} {e:Expr} {te:TE} {lo hi:Option Expr} {tl th:TO} {pos p2:Pos}
theorem AVE:PO X none AV8:=by
 intro pins s σ H Q I h
 rw[evalPart_none]
 exact wpAny_pure ⟨none,H,I,.none,h⟩
theorem AU6 (h:PE X e te):PO X (some e) (AcH te):=by
 intro pins s σ H Q I hw
 rw[evalPart_some]
 refine thn (h pins s σ H _ I hw) fun u s1 ⟨x,H1,I1,r1,q1⟩=>?_
 obtain ⟨i,rfl,q⟩:=q1
 obtain ⟨t,rfl⟩:=r1
 exact ⟨some i,H1,I1,.int i t,q⟩
def SlR (X:Cx) (r:V→Option Int→Option Int→Hp→VK→Prop):Prop :=
 ∀(pins:List (Addr × Obj)) (s:Shared) (σ:St) (H:Hp) (x:V) (v vl vu:Value) (lo hi:Option Int) (sl:Addr) (Q:VK),Inv X pins σ H s→RelV x v→s.heap.IsSliceOf sl vl vu .none→IsPart vl lo→IsPart vu hi→r x lo hi H Q →
  ∃T id,typeLookup (.type T) "__getitem__" = pure (some (.builtin id))∧s.TypeIs v T∧wpAny (model X.prog X.w) X.A (getItem v (.ref sl)) (EP X pins σ Q) X.xe s
theorem SlR.or {r r':V→Option Int→Option Int→Hp→VK→Prop} (h:SlR X r) (h':SlR X r'):SlR X (fun x lo hi H Q=>r x lo hi H Q∨r' x lo hi H Q):=by
 intro pins s σ H x v vl vu lo hi sl Q I rx hs pl pu q
 rcases q with q | q
 ·exact h pins s σ H x v vl vu lo hi sl Q I rx hs pl pu q
 ·exact h' pins s σ H x v vl vu lo hi sl Q I rx hs pl pu q
def tSl (r:V→Option Int→Option Int→Hp→VK→Prop) (te:TE) (tl th:TO):TE:=fun σ H Q=>te σ H fun x H1=>tl σ H1 fun l H2=>th σ H2 fun u H3=>r x l u H3 Q
theorem AK3 {r:V→Option Int→Option Int→Hp→VK→Prop} (hr:SlR X r) (he:PE X e te) (hl:PO X lo tl) (hu:PO X hi th):PE X (.Subscript e (.Slice lo hi none p2) pos) (tSl r te tl th):=by
 intro pins s σ H Q I h
 refine Subscript_ (thn (he pins s σ H _ I h) fun v s1 ⟨x,H1,I1,r1,q1⟩=>?_)
 refine wpAny_Slice (thn (hl pins s1 σ H1 _ I1 q1) fun vl s2 ⟨l,H2,I2,pl,q2⟩=>thn (hu pins s2 σ H2 _ I2 q2) fun vu s3 ⟨u,H3,I3,pu,q3⟩=>?_)
 rw[evalPart_none]
 refine wpAny_pure ?_
 have I4:Inv X pins σ H3 {s3 with heap:=s3.heap.push {cls:=.type "slice",data:=.fields #[vl,vu,.none] } }:=I3.kept (t':=s3.toks) fun b ob q=>Heap.get?_push_of_some _ q
 obtain ⟨T,id,hT,ht,hg⟩:=hr pins {s3 with heap:=s3.heap.push {cls:=.type "slice",data:=.fields #[vl,vu,.none] } } σ H3 x v vl vu l u s3.heap.objs.size Q I4 r1 (Heap.IsSliceOf.new ..) pl pu q3
 show wpAny (model X.prog X.w) X.A (subscriptTail e (.Slice lo hi none p2) v (.ref s3.heap.objs.size)) (EP X pins σ Q) X.xe {s3 with heap:=s3.heap.push {cls:=.type "slice",data:=.fields #[vl,vu,.none] } }
 exact tail_any (ops:=[.ref s3.heap.objs.size,v]) ht hT hg (by with_unfolding_all rfl)
def ASL (xs:List V) (lo hi:Option Int):List V:=(xs.drop (HT.sIx xs.length 0 lo)).take (HT.sIx xs.length xs.length hi-HT.sIx xs.length 0 lo)
theorem ABF (xs:List V) (lo hi:Option Int):(ASL xs lo hi).length≤xs.length:=by
 unfold ASL
 rw[List.length_take,List.length_drop]
 omega
def AfQ (K:PySem.W.Frag):V→Option Int→Option Int→Hp→VK→Prop:=fun x lo hi H Q=>∃a xs,x=.ref a∧SqT K H a xs ∧
 ¬(HT.sIx xs.length 0 lo=0∧HT.sIx xs.length xs.length hi=xs.length)∧∀p,H p=none→Q (.ref p) (upd H p (.tup (ASL xs lo hi)))
theorem sl_tup:SlR X (AfQ X.K):=by
 intro pins s σ H x v vl vu lo hi sl Q I rx hs pl pu h
 obtain ⟨a,xs,rfl,hx,hw,q⟩:=h
 cases rx
 obtain ⟨its,r,ht,hz⟩:=I.tuple hx
 have hlen:its.toArray.size=xs.length:=by rw[List.size_toArray];exact r.length.symm
 refine ⟨"tuple",_,PyProof.Rows.slot_tuple_getitem.lookup,ht.typeIs,?_⟩
 refine HT.getItem_tuple_cut ht hs pl pu (by rw[hlen];exact hw) ?_ (by rw[hlen];exact hz)
 rw[hlen]
 refine ⟨.ref s.heap.objs.size,_,I.laid (t':=s.toks) (o:=.tup (ASL xs lo hi)) (fun b ob q=>Heap.get?_push_of_some _ q) (Nat.le_refl _) ?_,rfl,q _ (I.hok.fresh (Nat.le_refl _))⟩
 exact ⟨Nat.le_trans (ABF xs lo hi) hz,_,(r.drop (HT.sIx xs.length 0 lo)).take (HT.sIx xs.length xs.length hi-HT.sIx xs.length 0 lo),IsTup.new _ _⟩
def AXW (K:PySem.W.Frag):R2:=fun x y H Q=>∃a b xs ys,x=.ref a∧y=.ref b∧SqT K H a xs∧SqT K H b ys∧xs≠[]∧xs.length+ys.length≤sizeLine ∧
 (ys=[]→Q (.ref a) H)∧(ys≠[]→∀p,H p=none→Q (.ref p) (upd H p (.tup (xs++ys))))
theorem Vals.nil_iff {xs:List V} {us:List Value} (r:Vals xs us):us=[]↔xs=[]:=by
 cases r with
 | nil=>simp
 | cons _ _=>simp
theorem AUZ:OpR X (binaryOp .Add) (AXW X.K):=by
 intro pins s σ H x y v u Q I rx ry h
 obtain ⟨a,b,xs,ys,rfl,rfl,ha,hb,hx,hz,q1,q2⟩:=h
 cases rx
 cases ry
 obtain ⟨its,r1,p1,_⟩:=I.tuple ha
 obtain ⟨its2,r2,p2,_⟩:=I.tuple hb
 refine HT.cat_tup p1 p2 (fun z=>hx (r1.nil_iff.mp z)) (fun z=>⟨.ref a,H,I,rfl,q1 (r2.nil_iff.mp z)⟩) (fun z=>?_) (by rw[←r1.length,←r2.length];exact hz)
 refine ⟨.ref s.heap.objs.size,_,I.laid (t':=s.toks) (o:=.tup (xs++ys)) (fun b ob q=>Heap.get?_push_of_some _ q) (Nat.le_refl _) ?_,rfl,q2 (fun w=>z (r2.nil_iff.mpr w)) _ (I.hok.fresh (Nat.le_refl _))⟩
 exact ⟨by rw[List.length_append];exact hz,_,r1.append r2,IsTup.new _ _⟩
end
def ixN (n:Nat) (i:Int):Option Nat:=if 0≤i then (if i<n then some i.toNat else none) else if -(n:Int)≤i then some (i+n).toNat else none
def atI {α:Type} (xs:List α) (i:Int):Option α:=(ixN xs.length i).bind fun j=>xs[j]?
theorem APB {n:Nat} {i:Int} {j:Nat} (h:ixN n i=some j):seqIndex? i n=some j∧j<n∧-(n:Int)≤i∧i<n:=by
 unfold ixN at h
 by_cases h0:0≤i
 ·rw[if_pos h0]at h
  by_cases h1:i<n
  ·rw[if_pos h1]at h
   have e:i.toNat=j:=Option.some.inj h
   exact ⟨by rw[seqIndex_of h0 h1,e],by omega,by omega,h1⟩
  ·rw[if_neg h1]at h;cases h
 ·rw[if_neg h0]at h
  by_cases h1:-(n:Int)≤i
  ·rw[if_pos h1]at h
   have e:(i+n).toNat=j:=Option.some.inj h
   exact ⟨by rw[seqIndex_neg (by omega) h1,e],by omega,h1,by omega⟩
  ·rw[if_neg h1]at h;cases h
theorem AHV {α:Type} {xs:List α} {i:Int} {v:α} (h:atI xs i=some v):∃j,seqIndex? i xs.length=some j∧xs[j]?=some v∧j<xs.length∧-(xs.length:Int)≤i∧i<xs.length:=by
 unfold atI at h
 cases e:ixN xs.length i with
 | none=>rw[e]at h;cases h
 | some j =>
  rw[e]at h
  obtain ⟨h1,h2,h3,h4⟩:=APB e
  exact ⟨j,h1,h,h2,h3,h4⟩
theorem AEM {α:Type} {xs:List α} {j:Nat} {v:α} (h:xs[j]?=some v):atI xs (j:Int)=some v:=by
 have hj:j<xs.length:=(List.getElem?_eq_some_iff.mp h).1
 have e:ixN xs.length (j:Int)=some j:=by
  unfold ixN
  rw[if_pos (by omega),if_pos (by omega)];simp
 unfold atI;rw[e];exact h
def ALQ (b:Expr):Prop:=∀o i,subscripted b false o i=operate [o,i] (getItem o i)
def IxR (X:Cx) (r:R2):Prop :=
 ∀(value slice:Expr) (pins:List (Addr × Obj)) (s:Shared) (σ:St) (H:Hp) (x y:V) (v u:Value) (Q:VK),Inv X pins σ H s→RelV x v→RelV y u→r x y H Q →
  subscripted slice false v u=operate [v,u] (getItem v u)→wpAny (model X.prog X.w) X.A (subscriptTail value slice v u) (EP X pins σ Q) X.xe s
def MtR (X:Cx) (id:String) (r:V→List V→Hp→VK→Prop):Prop :=
 ∀(pins:List (Addr × Obj)) (s:Shared) (σ:St) (H:Hp) (x:V) (xs:List V) (v:Value) (us:List Value) (Q:VK),Inv X pins σ H s→RelV x v→Vals xs us→r x xs H Q →
  wpAny (model X.prog X.w) X.A (call (.builtin id) (v::us)) (EP X pins σ Q) X.xe s
section
variable {X:Cx} {a b:Expr} {ta tb:TE} {pos:Pos}
theorem IxR.or {r r':R2} (h:IxR X r) (h':IxR X r'):IxR X (fun x y H Q=>r x y H Q∨r' x y H Q):=by
 intro value slice pins s σ H x y v u Q I rx ry q hs
 rcases q with q | q
 ·exact h value slice pins s σ H x y v u Q I rx ry q hs
 ·exact h' value slice pins s σ H x y v u Q I rx ry q hs
theorem AdY {r:R2} (hr:IxR X r) (ha:PE X a ta) (hb:PE X b tb) (hs:ALQ b):PE X (.Subscript a b pos) (tOp r ta tb):=by
 intro pins s σ H Q I h
 exact Subscript_ (Ae6 ha hb I h fun v u s2 x y H2 I2 rx ry q=>hr a b pins s2 σ H2 x y v u Q I2 rx ry q (hs _ _))
def AeH (K:PySem.W.Frag):R2:=fun x y H Q=>∃p xs i v,x=.ref p∧y=.int i∧SqL K H p xs∧atI xs i=some v∧Q v H
def AeJ (K:PySem.W.Frag):R2:=fun x y H Q=>∃p xs i v,x=.ref p∧y=.int i∧SqT K H p xs∧atI xs i=some v∧Q v H
def AeO:R2:=fun x y H Q=>∃z i c,x=.str z∧y=.int i∧z.length≤sizeLine∧atI z.cps.toList i=some c∧Q (.str ⟨#[c]⟩) H
theorem ix_list:IxR X (AeH X.K):=by
 intro value slice pins s σ H x y v u Q I rx ry h hs
 obtain ⟨p,xs,i,z,rfl,rfl,hq,he,q⟩:=h
 cases rx
 obtain ⟨t,rfl⟩:=ry
 obtain ⟨its,r,pl,hz⟩:=I.list hq
 obtain ⟨j,h1,h2,h3,h4,h5⟩:=AHV he
 obtain ⟨w,ew,rw'⟩:=r.get h2
 have hl:=r.length
 have hn:=ADM
 have fin:EP X pins σ Q w s:=⟨z,H,I,rw',q⟩
 by_cases h0:0≤i
 ·have hj:i.toNat=j:=by
   rw[seqIndex_of h0 h5]at h1
   exact Option.some.inj h1
  exact item_listR pl.isList h0 (by omega) (by rw[hj];simpa using ew) fin hs
 ·have hj:(i+(its.toArray.size:Int)).toNat=j:=by
   rw[seqIndex_neg (by omega) h4]at h1
   rw[List.size_toArray,←hl]
   exact Option.some.inj h1
  exact subscriptTail_builtinR (x:=w) pl.isList.typeIs slot_list_getitem.lookup
   (wpAny_getItem_list_neg (Q:=fun r s'=>r=w∧EP X pins σ Q r s') pl.isList (by omega) (by rw[List.size_toArray]<;>omega) (by omega) (by rw[hj];simpa using ew) ⟨rfl,fin⟩) hs
theorem ix_tup:IxR X (AeJ X.K):=by
 intro value slice pins s σ H x y v u Q I rx ry h hs
 obtain ⟨p,xs,i,z,rfl,rfl,hq,he,q⟩:=h
 cases rx
 obtain ⟨t,rfl⟩:=ry
 obtain ⟨its,r,pl,hz⟩:=I.tuple hq
 obtain ⟨j,h1,h2,h3,h4,h5⟩:=AHV he
 obtain ⟨w,ew,rw'⟩:=r.get h2
 have hl:=r.length
 have hn:=ADM
 have fin:EP X pins σ Q w s:=⟨z,H,I,rw',q⟩
 exact subscriptTail_builtinR (x:=w) pl.typeIs slot_tuple_getitem.lookup
  (getItem_tuple (j:=j) (Q:=fun r s'=>r=w∧EP X pins σ Q r s') pl (by omega) (by omega) (by rw[List.size_toArray,←hl];exact h1) (by simpa using ew) ⟨rfl,fin⟩) hs
theorem AYZ:IxR X AeO:=by
 intro value slice pins s σ H x y v u Q I rx ry h hs
 obtain ⟨z,i,c,rfl,rfl,hz,he,q⟩:=h
 obtain ⟨t,rfl⟩:=rx
 obtain ⟨t',rfl⟩:=ry
 obtain ⟨j,h1,h2,h3,h4,h5⟩:=AHV he
 have hl:z.cps.toList.length=z.length:=by simp[Str.length]
 rw[hl]at h1 h4 h5
 have hn:=ADM
 exact tail_any (typeIs_str s z t) slot_str_getitem.lookup (getItem_str (c:=c) (by
  have e1:decide (i < -(2 ^ 63:Int))=false:=decide_eq_false (by omega)
  have e2:decide (i ≥ 2 ^ 63)=false:=decide_eq_false (by omega)
  rw[e1,e2,Bool.or_false]) (by rw[h1];simpa using h2) ⟨.str ⟨#[c]⟩,H,I.tok _,⟨_,rfl⟩,q⟩) hs
def rIx (K:PySem.W.Frag):R2:=fun x y H Q=>AeH K x y H Q∨AeJ K x y H Q∨AeO x y H Q
theorem AXV:IxR X (rIx X.K):=ix_list.or (ix_tup.or AYZ)
theorem ALL (its:List Value) (n j:Nat) (u:Value):Obj.mapSeq (·.setIfInBounds j u) {cls:=.type "list",data:=.seq its.toArray n}={cls:=.type "list",data:=.seq (its.set j u).toArray n}:=by
 simp[Obj.mapSeq]
theorem Inv.lst {pins:List (Addr × Obj)} {σ:St} {H:Hp} {s:Shared} {p:Addr} {xs:List V} (I:Inv X pins σ H s) (h:H p=some (.lst xs)) :
  ∃(its:List Value) (n:Nat),Vals xs its∧s.heap.get? p=some {cls:=.type "list",data:=.seq its.toArray n}∧xs.length≤sizeLine:=by
 obtain ⟨z,its,n,r,e⟩:=I.hok p _ h
 exact ⟨its,n,r,e,z⟩
theorem Inv.lstUpd {pins:List (Addr × Obj)} {σ:St} {H:Hp} {s:Shared} {p:Addr} {xs ys:List V} {its its':List Value} {n n':Nat} {f:Obj→Obj} (I:Inv X pins σ H s) (h:H p=some (.lst xs))
  (ho:s.heap.get? p=some {cls:=.type "list",data:=.seq its.toArray n}) (hf:f {cls:=.type "list",data:=.seq its.toArray n}={cls:=.type "list",data:=.seq its'.toArray n'}) (r:Vals ys its') (hz:ys.length≤sizeLine) (t:Nat) :
  Inv X pins σ (upd H p (.lst ys)) {s with heap:=s.heap.update p f,toks:=t}:=by
 have e:(s.heap.update p f).get? p=some {cls:=.type "list",data:=.seq its'.toArray n'}:=by
  rw[Heap.get?_update_self f ho (by rw[hf]<;>rfl),hf]
 refine I.write (x:=p) (e:=p) (by rw[h];trivial) (.inl rfl) (fun b u hb q=>(Heap.get?_update_other _ _ (Ne.symm hb)).trans q) ⟨_,e⟩ ?_
 exact ⟨hz,its',n',r,e⟩
def Ae8:V→V→V→Hp→(Hp→Prop)→Prop:=fun o i v H Q=>∃p xs k j,o=.ref p∧i=.int k∧H p=some (.lst xs)∧ixN xs.length k=some j∧Q (upd H p (.lst (xs.set j v)))
theorem AQO:AeY X Ae8:=by
 intro pins s σ H o i v ov iv u Q I ro ri rv h
 obtain ⟨p,xs,k,j,rfl,rfl,hp,hj,q⟩:=h
 cases ro
 obtain ⟨t,rfl⟩:=ri
 obtain ⟨its,n,r,ho,hz⟩:=I.lst hp
 obtain ⟨h1,h2,h3,h4⟩:=APB hj
 have hl:=r.length
 have hn:=ADM
 have I':Inv X pins σ (upd H p (.lst (xs.set j v))) {s with heap:=s.heap.update p (Obj.mapSeq (·.setIfInBounds j u))} :=
  I.lstUpd hp ho (ALL its n j u) (r.set rv j) (by rw[List.length_set];exact hz) s.toks
 by_cases h0:0≤k
 ·have hk:k.toNat=j:=by
   rw[seqIndex_of h0 h4]at h1
   exact Option.some.inj h1
  exact PySem.W.ki_setAt ho h0 (by omega) (by rw[List.size_toArray,←hl];exact h4) (by rw[hk];exact ⟨_,I',q⟩)
 ·have hk:(k+(its.toArray.size:Int)).toNat=j:=by
   rw[seqIndex_neg (by omega) h3]at h1
   rw[List.size_toArray,←hl]
   exact Option.some.inj h1
  exact PySem.W.ki_setBack ho (by omega) (by rw[List.size_toArray,←hl];exact h3) (by omega) (by rw[hk];exact ⟨_,I',q⟩)
theorem AFX (lo hi:Option Int) (n:Nat):(sliceBounds lo hi none n).1=((HT.sIx n 0 lo:Nat):Int)∧(sliceBounds lo hi none n).2.1=((HT.sIx n n hi:Nat):Int)∧(sliceBounds lo hi none n).2.2=1:=by
 refine ⟨?_,?_,rfl⟩
 ·cases lo with
  | none=>simp[sliceBounds,HT.sIx]
  | some i =>
   simp only[sliceBounds,HT.sIx,Option.getD_none,show (1:Int)>0 by decide,if_true]
   by_cases h:i<0
   ·simp only[h,if_true]<;>omega
   ·simp only[h,if_false]<;>omega
 ·cases hi with
  | none=>simp[sliceBounds,HT.sIx]
  | some i =>
   simp only[sliceBounds,HT.sIx,Option.getD_none,show (1:Int)>0 by decide,if_true]
   by_cases h:i<0
   ·simp only[h,if_true]<;>omega
   ·simp only[h,if_false]<;>omega
theorem AEU (its:List Value) (lo hi:Option Int):slicePick its.toArray lo hi none=((its.drop (HT.sIx its.length 0 lo)).take (HT.sIx its.length its.length hi-HT.sIx its.length 0 lo)).toArray:=by
 obtain ⟨h1,h2,h3⟩:=AFX lo hi its.toArray.size
 unfold slicePick
 rw[h1,h2,h3]
 simp only[sliceRange_one,pick_run,List.size_toArray]<;>rfl
def AfN (K:PySem.W.Frag):V→Option Int→Option Int→Hp→VK→Prop:=fun x lo hi H Q=>∃a xs,x=.ref a∧SqL K H a xs∧∀p,H p=none→Q (.ref p) (upd H p (.lst (ASL xs lo hi)))
theorem AUW:SlR X (AfN X.K):=by
 intro pins s σ H x v vl vu lo hi sl Q I rx hs pl pu h
 obtain ⟨a,xs,rfl,hx,q⟩:=h
 cases rx
 obtain ⟨its,r,ht,hz⟩:=I.list hx
 have hlen:=r.length
 refine ⟨"list",_,slot_list_getitem.lookup,ht.isList.typeIs,?_⟩
 refine wpAny_getItem_list_slice ht.isList hs pl pu .none (by simp) ?_ (by rw[List.size_toArray]<;>omega)
 rw[AEU,←hlen]
 refine ⟨.ref s.heap.objs.size,_,I.laid (t':=s.toks) (o:=.lst (ASL xs lo hi)) (fun b ob q=>Heap.get?_push_of_some _ q) (Nat.le_refl _) ?_,rfl,q _ (I.hok.fresh (Nat.le_refl _))⟩
 exact ⟨Nat.le_trans (ABF xs lo hi) hz,_,0,(r.drop (HT.sIx xs.length 0 lo)).take (HT.sIx xs.length xs.length hi-HT.sIx xs.length 0 lo),Heap.get?_push_size _ rfl⟩
theorem AE8:AAY X (.type "tuple") (fun xs H Q=>∃p ys,xs=[.ref p]∧((SqL X.K H p ys∧∀l,H l=none→Q (.ref l) (upd H l (.tup ys)))∨(SqT X.K H p ys∧Q (.ref p) H))):=by
 intro pins s σ H xs us Q I r h
 obtain ⟨p,ys,rfl,h⟩:=h
 obtain ⟨u,rfl,rx⟩:=AQU r
 cases rx
 rcases h with ⟨hq,q⟩ | ⟨hq,q⟩
 ·obtain ⟨its,r',pl,hz⟩:=I.list hq
  have hlen:=r'.length
  refine call_tuple_list pl.isList (fun h' kp=>?_) (by simp only[List.size_toArray]<;>omega)
  have I1:Inv X pins σ H {s with heap:=h'}:=I.kept (t':=s.toks) kp
  have I2:Inv X pins σ (upd H h'.objs.size (.tup ys)) {s with heap:=h'.push {cls:=.type "tuple",data:=.seq its.toArray} } :=
   I1.laid (t':=s.toks) (fun b o e=>Heap.get?_push_of_some _ e) (Nat.le_refl _) (show ObjOk X.prog X.w _ _ _ (.tup ys) from ⟨hz,its,r',IsTup.new _ _⟩)
  exact ⟨.ref h'.objs.size,_,I2,rfl,q _ (I1.hok.fresh (Nat.le_refl _))⟩
 ·obtain ⟨its,r',pl,hz⟩:=I.tuple hq
  exact call_tuple_same pl ⟨.ref p,H,I,rfl,q⟩
def tyV (K:PySem.W.Frag) (T:String) (x:V) (H:Hp):Prop:=match x with
 | .str _=>T = "str"
 | .int _=>T = "int"
 | .ref p=>(T = "list"∧∃xs,SqL K H p xs)∨(T = "tuple"∧∃o,K.lookup p=some o∧o.cls=.type "tuple"∧o.dict=none) ∨
   (T = "dict"∧((∃kvs,H p=some (.dK kvs))∨∃kvs,H p=some (.dT kvs)))∨(T = "set"∧∃S n,H p=some (.set S n))
 | _=>False
theorem Ab0 {pins:List (Addr × Obj)} {σ:St} {H:Hp} {s:Shared} {T:String} {x:V} {v:Value} (I:Inv X pins σ H s) (r:RelV x v) (ty:tyV X.K T x H) :
  s.TypeIs v T∧∀a,v=.ref a→∃ob,s.heap.get? a=some ob∧ob.dict=none:=by
 cases x with
 | str z =>
  obtain ⟨t,rfl⟩:=r
  cases (show T = "str" from ty)
  exact ⟨typeIs_str s z t,fun _ e=>nomatch e⟩
 | int i =>
  obtain ⟨t,rfl⟩:=r
  cases (show T = "int" from ty)
  exact ⟨typeIs_int s i t,fun _ e=>nomatch e⟩
 | ref p =>
  cases r
  rcases ty with ⟨rfl,xs,hq⟩ | ⟨rfl,o,hk,hc,hd⟩ | ⟨rfl,hk⟩ | ⟨rfl,S,n,hk⟩
  ·obtain ⟨its,_,pl,_⟩:=I.list hq
   refine ⟨pl.isList.typeIs,fun a e=>?_⟩
   cases e
   obtain ⟨o,n,e,c,hd,_⟩:=pl
   exact ⟨o,e,hd⟩
  ·refine ⟨⟨o,I.kIn p o hk,hc⟩,fun a e=>?_⟩
   cases e
   exact ⟨o,I.kIn _ o hk,hd⟩
  ·have z:∃o,s.heap.get? p=some o∧o.ExactDict:=by
    rcases hk with ⟨kvs,hk⟩ | ⟨kvs,hk⟩
    ·obtain ⟨_,_,_,_,o,_,_,e,ex,_⟩:=I.hok p _ hk
     exact ⟨o,e,ex⟩
    ·obtain ⟨_,_,_,_,o,_,_,e,ex,_⟩:=I.hok p _ hk
     exact ⟨o,e,ex⟩
   obtain ⟨o,e,ex⟩:=z
   refine ⟨⟨o,e,ex.1⟩,fun a e2=>?_⟩
   cases e2
   exact ⟨o,e,ex.2.1⟩
  ·obtain ⟨o,_,_,_,e,ex,_⟩:=I.hok p _ hk
   refine ⟨⟨o,e,ex.1⟩,fun a e2=>?_⟩
   cases e2
   exact ⟨o,e,ex.2.1⟩
 | _=>exact False.elim ty
def tBM (K:PySem.W.Frag) (T:String) (r:V→List V→Hp→VK→Prop) (to:TE) (t:TA):TE:=fun σ H Q=>to σ H fun x H1=>tyV K T x H1∧t σ H1 fun xs H2=>r x xs H2 Q
variable {o e:Expr} {es:List Expr} {to:TE} {t:TA} {name:Str} {apos cpos:Pos} {T id:String} {r:V→List V→Hp→VK→Prop}
theorem Ae7 (pa:PlainAttrs T) (slot:Slot T name id) (hty:typeOf (.builtin id)=pure (.type "method_descriptor")) (hm:MtR X id r) (ho:PE X o to) (ha:PA X (e::es) t)
  (hbase:attributeBase o name X.env (eval o X.env)=eval o X.env:=by rfl)
  (hfew:((backTo cpos (starEach (e::es) X.env)).all (fun x=>!x.1)&&(backToKw cpos (keywordEach [] X.env)).all (fun x=>x.1.isSome)
   && decide ((e::es).length+([]:List Keyword).length+(if ([]:List Keyword).isEmpty then 0 else 1)<30))=true:=by rfl)
  (hline:(apos.endLine == cpos.line)=true:=by rfl) (hs:starEach (e::es) X.env=(false,eval e X.env)::starEach es X.env:=by rfl) (hplain:(backTo cpos (starEach es X.env)).any (·.1)=false:=by rfl) :
  PE X (.Call (.Attribute o name apos) (e::es) [] cpos) (tBM X.K T r to t):=by
 intro pins s σ H Q I h
 refine wpAny_Call_method_late hbase hfew hline rfl (thn (ho pins s σ H _ I h) fun v s1 ⟨x,H1,I1,r1,ty,q1⟩=>?_)
 obtain ⟨h1,h2⟩:=Ab0 I1 r1 ty
 refine ⟨T,id,pa,slot,hty,h1,h2,?_⟩
 have hA:=ha cpos pins s1 σ H1 _ I1 q1
 rw[hs]at hA ⊢
 refine Calls.callWith_builtin (by show (false||(backTo cpos (starEach es X.env)).any (·.1))=false;rw[hplain]<;>rfl) (Calls.evalArgs_plain ?_)
 exact thn hA fun us s2 ⟨vs,H2,I2,r2,q2⟩=>hm pins s2 σ H2 x vs v us Q I2 r1 r2 q2
end
def MtM (X:Cx) (id:String) (r:V→List V→Hp→VK→Prop):Prop :=
 ∀(pins:List (Addr × Obj)) (s:Shared) (σ:St) (H:Hp) (x:V) (xs:List V) (v:Value) (us:List Value) (Q:VK),Inv X pins σ H s→RelV x v→Vals xs us→r x xs H Q →
  wpAny (model X.prog X.w) X.A (call (.builtin id) (v::us)) (EP X pins σ Q) X.xe s
theorem Vals.one:∀{x:V} {us:List Value},Vals [x] us→∃u,us=[u]∧RelV x u
 | _,_,.cons r .nil=>⟨_,rfl,r⟩
theorem Vals.two:∀{x y:V} {us:List Value},Vals [x,y] us→∃u v,us=[u,v]∧RelV x u∧RelV y v
 | _,_,_,.cons r (.cons q .nil)=>⟨_,_,rfl,r,q⟩
section
variable {X:Cx} {pins:List (Addr × Obj)} {σ:St} {H:Hp} {s:Shared} {l b:Addr} {xs ys zs:List V}
theorem Inv.lset {its its':List Value} {n:Nat} {f:Array Value→Array Value} {t':Nat} (I:Inv X pins σ H s) (hH:H l=some (.lst xs))
  (e:s.heap.get? l=some {cls:=.type "list",data:=.seq its.toArray n}) (hf:f its.toArray=its'.toArray) (hv:Vals ys its') (hz:ys.length≤sizeLine) :
  Inv X pins σ (upd H l (.lst ys)) {s with heap:=s.heap.update l (Obj.mapSeq f),toks:=t'}:=by
 have q:=PySem.IsL.update e f
 rw[hf]at q
 refine I.write (x:=l) (e:=l) (by rw[hH];exact trivial) (.inl rfl) (fun b' u hb hu=>(Heap.get?_update_other s.heap (Obj.mapSeq f) (Ne.symm hb)).trans hu) ⟨_,q⟩ ?_
 exact ⟨hz,its',_,hv,q⟩
theorem Inv.lnew {its:List Value} {t':Nat} (I:Inv X pins σ H s) (hv:Vals ys its) (hz:ys.length≤sizeLine) :
  Inv X pins σ (upd H s.heap.objs.size (.lst ys)) {s with heap:=s.heap.push {cls:=.type "list",data:=.seq its.toArray},toks:=t'} :=
 I.laid (fun _ _ q=>Heap.get?_push_of_some _ q) (Nat.le_refl _) ⟨hz,its,0,hv,Heap.get?_push_size _ rfl⟩
theorem Inv.fresh (I:Inv X pins σ H s):H s.heap.objs.size=none:=I.hok.fresh (Nat.le_refl _)
theorem Inv.lstM (I:Inv X pins σ H s) (hH:H l=some (.lst xs)):xs.length≤sizeLine∧∃(its:List Value) (n:Nat),Vals xs its∧xs.length=its.length∧s.heap.get? l=some {cls:=.type "list",data:=.seq its.toArray n}:=by
 obtain ⟨z,its,n,r,e⟩:=I.hok l _ hH
 exact ⟨z,its,n,r,r.length,e⟩
end
section
variable {X:Cx}
def AVW:V→List V→Hp→VK→Prop:=fun x vs H Q=>∃l xs y,x=.ref l∧vs=[y]∧H l=some (.lst xs)∧xs.length<sizeLine∧Q .non (upd H l (.lst (xs++[y])))
theorem AMB:MtM X "list.append" AVW:=by
 intro pins s σ H x vs v us Q I rx rv h
 obtain ⟨l,xs,y,rfl,rfl,hH,hz,q⟩:=h
 cases rx
 obtain ⟨u,rfl,ru⟩:=rv.one
 obtain ⟨z,its,n,r,hl,e⟩:=I.lstM hH
 refine call_meets F.slot_list_append ⟨_,e,rfl⟩ F.entry_list_append (F.args_list_append_2 _ _) (PySem.list_append l its.toArray n u (by rw[List.size_toArray];omega)) ⟨e,?_⟩
 refine ⟨.non,_,I.lset (its':=its++[u]) hH e (by simp) (r.append (.cons ru .nil)) ?_,rfl,q⟩
 rw[List.length_append,List.length_singleton]
 omega
end
end L2
namespace Att
open PySem PySem.W PySem.Calls PyProof.Rows
theorem ABQ {P:Params} {h:Heap}:∀(ns:List Int) (vs:List Value),WellAll P h vs (ns.map WData.int)→IntsAre vs ns:=by
 intro ns
 induction ns with
 | nil =>
  intro vs w
  rw[List.map_nil]at w
  cases w
  exact .nil
 | cons n ns ih =>
  intro vs w
  rw[List.map_cons]at w
  cases w with
  | cons a b =>
   cases a
   exact .cons _ _ (ih _ b)
theorem AMN {l:OpenLaw} {n:Nat} (hn:l.most=some n) {P:Params} {h:Heap} {args:List WData} {vals:List Value}
  (hpre:l.row.toRowW.claim.pre args=true) (hwl:WellAll P h vals args) :
  ∃a vs ns,vals=[Value.ref a]∧args=[WData.list (ns.map WData.int)]∧h.get? a=some {cls:=.type "list",data:=.seq vs.toArray}∧IntsAre vs ns∧ns.length≤n:=by
 have hsh:WShape.hasAll [] args [.list .int]=true:=(pre_splitW hpre).1
 have hc:l.pre.holds [] {args:=args}=true:=(pre_splitW hpre).2
 obtain ⟨d,r,rfl,h1,h2⟩:=hasAllW_cons hsh
 obtain rfl:=hasAllW_nil h2
 obtain ⟨xs,rfl,h3⟩:=hasW_list h1
 obtain ⟨ns,rfl⟩:=items_int h3
 have hlen:ns.length≤n:=by
  unfold OpenLaw.pre at hc
  have h4:(WTm.not (.lt (.lit (.int (n:Int))) (.len (.arg 0)))).holds [] {args:=[.list (ns.map .int)] }=true:=by
   have h4:=(holds_andW hc).1
   rw[hn]at h4
   exact h4
  have h5:=condW_of h4 (w_not (w_lt w_lit (w_len_list (w_arg rfl))))
  rw[List.length_map]at h5
  refine Nat.le_of_not_lt fun q=>?_
  have q':(n:Int)<((ns.length:Nat):Int):=by omega
  first
   | (rw[decide_eq_true q']at h5;exact absurd h5 (by decide))
   | (simp at h5;omega)
 cases hwl with
 | cons w1 w2 =>
  cases w2
  cases w1 with
  | list ho hall=>exact ⟨_,_,ns,rfl,rfl,ho,ABQ ns _ hall,hlen⟩
theorem AMS (l:OpenLaw) (args:List WData):l.row.toRowW.claim.post args (.bool true) args=true :=
 postW_of (r:=l.row.toRowW) (X:=(true == true))
  (show WShape.has [] (.bool true) .bool=true by first | rfl | decide | simp[WShape.has,WShape.arms,WShape.armsAll])
  (show (WTm.eq .res (.lit (.bool true))).value [] {args:=args,res:=some (.bool true),after:=args}=some (.bool (true == true)) from w_eq_bool (w_res rfl) w_lit) rfl
theorem attach_call {l:OpenLaw} {n:Nat} {q:Program} {loose:List Str} {XP:(Str→Option Value)→Heap→Prop} {YP:World→Heap→Prop} {d:DefRec}
  (hn:l.most=some n) (hdf:d.params.defaults=[])
  (call:∀(w:World) (s₀ s₁:Shared) (mg mb:Str→Option Value) (fa:Addr) (o:Obj) (pm cd doc:Value) (a:Addr) (vs:List Value) (ns:List Int),
   Ground q loose [] XP w s₀ mg mb s₁.heap→YP w s₁.heap →
   s₁.heap.get? fa=some o→o.data=.func (docDef d.name d.params d.body d.scope pm cd doc)→s₁.heap.CodeRec cd d.name→mg d.name=some (.ref fa) →
   s₁.heap.get? a=some {cls:=.type "list",data:=.seq vs.toArray}→IntsAre vs ns→ns.length≤n→s₁.gens=#[] →
   codeAny (model l.prog w) callerA (.call (.ref fa) ⟨[.ref a],[]⟩) (fun r s'=>r=.ok (.ret (.bool true))∧OldK s₁.heap s'.heap∧s'.os=s₁.os∧AllBare s'.gens) s₁) :
  WalkO q loose XP YP l.row.toRowW d [] (fun f vs=>PySem.call f vs):=by
 intro w s₀ s₁ mg mb G Y fa o pm cd doc dV kV ho hd hcd hD hmg hg args vals as hpre hlay hrd hwl hlo
 obtain rfl:dV=.none:=Dflts.none hD hdf
 obtain rfl:kV=.none:=Dflts.noKw hD
 obtain ⟨a,vs,ns,rfl,rfl,hobj,hints,hlen⟩:=AMN hn hpre hwl
 refine enter_call (codeAny_mono (call w s₀ s₁ mg mb fa o pm cd doc a vs ns G Y ho (fd_plain hd) hcd hmg hobj hints hlen hg) fun r s' hq=>?_)
 obtain ⟨rfl,h2,h3,h4⟩:=hq
 exact ⟨.inl ⟨.bool true,.bool true,[],rfl,fun _=>rfl,.bool true,AMS l _,fun _=>⟨List.Pairwise.nil,fun _ hm=>(nomatch hm)⟩⟩,h2,h3,h4⟩
end Att
namespace L2
open PySem PySem.Spec PyProof.Rows
theorem Y8:∀{vs:List Value} {ns:List Int},IntsAre vs ns→Vals (ns.map V.int) vs
 | _,_,.nil=>.nil
 | _,_,.cons n t h=>.cons ⟨t,rfl⟩ (Y8 h)
def Only (H:Hp):Prop:=∀b,H b=none∨∃o xs,H b=some (.frz o (.lst xs))
theorem ARP {P:Program} {w:World} {K:PySem.W.Frag} {mg mb:Str→Option Value} {CX:CXT} {k:Nat} {fa a:Addr} {fd:FuncData} {x:Str} {sp:Sp} {s₁:Shared} {vs:List Value} {ns:List Int}
  (KX:K.In s₁.heap) (hns:s₁.heap.Ns mainGlobals mg) (hb:s₁.heap.Ns builtinsNs mb) (hbb:∀x:Str,x≠"__name__"→mb x=bootBuiltins x) (hlim:s₁.heap.NoLimit) (hg:s₁.gens=#[])
  (ha:s₁.heap.get? a=some {cls:=.type "list",data:=.seq vs.toArray}) (hi:IntsAre vs ns) (hl:ns.length≤sizeLine) (hr:Room k callerA)
  (F:∀base:Heap,K.In base→base.Ns mainGlobals mg→FnOk P w K mg base CX k fa fd [x] sp) (hbind:∀(s:Shared) (u:Value),BindsTo s fd ⟨[u],[]⟩ [(x,u)])
  (hsp:∀H:Hp,Only H→SqL K H a (ns.map V.int)→sp [.ref a] H (fun v _=>v=.bl true) fun _ _ _=>False)
  (hCX:∀H e s',CX [] H s₁ (fun _ _ _=>False) e s'→False) :
  codeAny (model P w) callerA (.call (.ref fa) ⟨[.ref a],[]⟩) (fun r s'=>r=.ok (.ret (.bool true))∧OldK s₁.heap s'.heap∧s'.os=s₁.os∧AllBare s'.gens) s₁:=by
 have rv:=Y8 hi
 have lenV:=hi.length
 have core:∀H:Hp,Only H→SqL K H a (ns.map V.int)→HOk P w H s₁.heap→(∀b,H b≠none→b=a)→(H a≠none→K.lookup a=none) →
   codeAny (model P w) callerA (.call (.ref fa) ⟨[.ref a],[]⟩) (fun r s'=>r=.ok (.ret (.bool true))∧OldK s₁.heap s'.heap∧s'.os=s₁.os∧AllBare s'.gens) s₁:=by
  intro H hO hS hok hA hK
  have base_of:∀{b:Addr} {o:Obj},s₁.heap.get? b=some o→H b=none→(APL s₁.heap H).get? b=some o:=fun e n=>AQH e n
  have noA:∀{b:Addr} {o:Obj} {es:Array DictEntry} {ep:Nat},s₁.heap.get? b=some o→o.data=.dict es ep→H b=none:=fun {b o es ep} e d=>by
   cases q:H b with
   | none=>rfl
   | some u =>
    have e':b=a:=hA b (by rw[q];simp)
    subst e'
    rw[ha]at e;cases e
    have d':Data.seq vs.toArray _=Data.dict es ep:=d
    cases d'
  have nsK:∀{b:Addr} {m:Str→Option Value},s₁.heap.Ns b m→(APL s₁.heap H).Ns b m:=fun {b m} ⟨o,es,ep,e,d,r⟩=>⟨o,es,ep,base_of e (noA e d),d,r⟩
  have hKb:K.In (APL s₁.heap H):=fun b o e=>base_of (KX b o e) (by
   cases q:H b with
   | none=>rfl
   | some u =>
    have e':b=a:=hA b (by rw[q];simp)
    subst e'
    rw[hK (by rw[q];simp)]at e;cases e)
  have hM:Mod K mg (APL s₁.heap H):=⟨hKb,nsK hns,⟨mb,nsK hb,hbb⟩,let ⟨mc,h1,h2⟩:=hlim;⟨mc,nsK h1,h2⟩⟩
  have e0:Env0 P w K mg (APL s₁.heap H) callerA [] s₁ H:=⟨rfl,hM,fun b o e=>AX1 e,Nat.le_of_eq (ANC _ _),trivial,fun b hb=>absurd (show b∈([]:List Addr) from hb) (by simp),hok,.of_eq hg⟩
  refine codeAny_mono ((F _ hKb (nsK hns)).run callerA [] s₁ H ⟨[.ref a],[]⟩ [.ref a] [.ref a] _ _ hr e0 (hbind s₁ (.ref a)) (.cons rfl .nil) (hsp H hO hS)) fun r s' h=>?_
  cases r with
  | error e=>exact (hCX H e s' h).elim
  | ok fl =>
   cases fl with
   | next=>exact False.elim h
   | brk=>exact False.elim h
   | cont=>exact False.elim h
   | ret u =>
    obtain ⟨v,H',os,bare,un,hok',r',q⟩:=h
    have q':v=.bl true:=q
    subst q'
    obtain rfl:u=Value.bool true:=r'
    refine ⟨rfl,OldK.of_keep fun b o e=>?_,os,bare⟩
    cases q:H b with
    | none=>exact un.keep b o e q (by intro z;exact absurd (show b∈([]:List Addr) from z) (by simp)) (by simp)
    | some u =>
     rcases hO b with z | ⟨ob,xs,z⟩
     ·rw[q]at z;cases z
     ·have z2:=un.frzs b ob _ z
      obtain ⟨e1,_⟩:=hok b _ z
      obtain ⟨e2,_⟩:=hok' b _ z2
      rw[e]at e1;cases e1
      exact e2
 cases hk:K.lookup a with
 | some o =>
  have e:=KX a o hk
  rw[ha]at e
  cases e
  refine core (fun _=>none) (fun _=>.inl rfl) (.inr ⟨_,vs.toArray,_,hk,rfl,rfl,rfl,by rw[List.size_toArray,lenV];exact hl,by simpa using rv⟩) (fun b u z=>by have z':(none:Option HO)=some u:=z;cases z') (fun b z=>absurd rfl z) fun z=>absurd rfl z
 | none =>
  refine core (fun b=>if b=a then some (.frz {cls:=.type "list",data:=.seq vs.toArray} (.lst (ns.map V.int))) else none) (fun b=>?_) (.inl (.inr ⟨{cls:=.type "list",data:=.seq vs.toArray},if_pos rfl⟩)) (fun b u z=>?_) (fun b z=>?_) fun _=>hk
  ·by_cases hb:b=a
   ·exact .inr ⟨_,_,if_pos hb⟩
   ·exact .inl (if_neg hb)
  ·by_cases hb:b=a
   ·have z':=(if_pos hb).symm.trans z
    cases z'
    subst hb
    exact ⟨ha,by rw[List.length_map];exact hl,vs,_,rv,ha⟩
   ·have z':=(if_neg hb).symm.trans z
    cases z'
  ·by_cases hb:b=a
   ·exact hb
   ·exact absurd (if_neg hb) z
theorem walk_of {l:PySem.W.OpenLaw} {n k:Nat} {q:Program} {loose:List Str} {XP:(Str→Option Value)→Heap→Prop} {YP:World→Heap→Prop} {d:DefRec} {K:Params→PySem.W.Frag} {CX:World→CXT} {sp:World→Sp} {x:Str}
  (hn:l.most=some n) (hn2:n≤sizeLine) (hdf:d.params.defaults=[]) (hr:Room k callerA)
  (hY:∀(w:World) (h:Heap),YP w h→(K w.params).In h)
  (F:∀(w:World) (mg:Str→Option Value) (fa:Addr) (h:Heap),(K w.params).In h→h.Ns mainGlobals mg→mg d.name=some (.ref fa) →
   ∃fd:FuncData,(∀(s:Shared) (u:Value),BindsTo s fd ⟨[u],[]⟩ [(x,u)]) ∧
    ∀base:Heap,(K w.params).In base→base.Ns mainGlobals mg→FnOk l.prog w (K w.params) mg base (CX w) k fa fd [x] (sp w))
  (hsp:∀(w:World) (H:Hp) (a:Addr) (ns:List Int),ns.length≤n→Only H→SqL (K w.params) H a (ns.map V.int)→sp w [.ref a] H (fun v _=>v=.bl true) fun _ _ _=>False)
  (hCX:∀(w:World) (H:Hp) (s:Shared) (e:Value) (s':Shared),CX w [] H s (fun _ _ _=>False) e s'→False) :
  PySem.W.WalkO q loose XP YP l.row.toRowW d [] (fun f vs=>PySem.call f vs):=by
 refine Att.attach_call hn hdf fun w s₀ s₁ mg mb fa o pm cd doc a vs ns G Y ho hd hcd hmg hobj hints hlen hg=>?_
 have KX:=hY w _ Y
 obtain ⟨fd,hb,hF⟩:=F w mg fa _ KX G.T.g hmg
 exact ARP KX G.T.g G.T.b G.T.builtins G.T.nolimit hg hobj hints (Nat.le_trans hlen hn2) hr hF hb (fun H hO hS=>hsp w H a ns hlen hO hS) fun H e s'=>hCX w H s₁ e s'
def S5 (s:Stmt):Arguments:=match s with
 | .FunctionDef _ a _ _ _ _ _ _ _ _=>a
 | _=>{posonlyargs:=[],args:=[],vararg:=none,kwonlyargs:=[],kw_defaults:=[],kwarg:=none,defaults:=[] }
def L7 (s:Stmt):List Stmt:=match s with
 | .FunctionDef _ _ b _ _ _ _ _ _ _=>b
 | _=>[]
def C6 (s:Stmt):Scope:=match s with
 | .FunctionDef _ _ _ _ _ _ sc _ _ _=>sc
 | _=>{kind:=.function,names:=[],isGenerator:=false,isCoroutine:=false}
abbrev CX0:CXT:=fun _ _ _ _ _ _=>False
abbrev E0:XK:=fun _ _ _=>False
structure Fun (K:PySem.W.Frag) (x qual:Str) (st:Stmt) (f:Addr) (fd:FuncData):Prop where
 ex:∃(oc:Value) (od:Option Addr) (kV doc pm:Value) (an:Option Addr) (cdv ct:Value) (osl:Array (Option Value)),
  fd=PySem.W.fnOf x qual (S5 st) (L7 st) (C6 st) .none kV doc pm an cdv ct∧K.lookup f=some ⟨oc,od,.func fd,osl⟩∧PySem.W.codeIn K cdv qual=true
 kp:PySem.W.keepIn K (.ref f)=true
section
variable {P:Program} {w:World} {K:PySem.W.Frag} {mg:Str→Option Value} {base:Heap}
theorem Fun.binds {x qual:Str} {st:Stmt} {f:Addr} {fd:FuncData} {ps:List Str} (F:Fun K x qual st f fd)
  (h:∀(kV doc pm:Value) (an:Option Addr) (cdv ct:Value) (us:List Value),us.length=ps.length→bindArgs (PySem.W.fnOf x qual (S5 st) (L7 st) (C6 st) .none kV doc pm an cdv ct) ⟨us,[]⟩=pure (ps.zip us)):Binds K fd ps []:=by
 obtain ⟨oc,od,kV,doc,pm,an,cdv,ct,osl,rfl,lk,hcd⟩:=F.ex
 exact .all (h kV doc pm an cdv ct)
theorem B7 {x qual:Str} {st:Stmt} {f:Addr} {oc:Value} {od an:Option Addr} {osl:Array (Option Value)} {kV doc pm cdv ct:Value} (l:K.lookup f=some ⟨oc,od,.func (PySem.W.fnOf x qual (S5 st) (L7 st) (C6 st) .none kV doc pm an cdv ct),osl⟩)
  (c:PySem.W.codeIn K cdv qual=true) (k:PySem.W.keepIn K (.ref f)=true):Fun K x qual st f (PySem.W.fnOf x qual (S5 st) (L7 st) (C6 st) .none kV doc pm an cdv ct):=⟨⟨oc,od,kV,doc,pm,an,cdv,ct,osl,rfl,l,c⟩,k⟩
end
def Same (H H':Hp):Prop:=∀b o,H b=some o→H' b=some o
theorem Same.refl (H:Hp):Same H H:=fun _ _ h=>h
theorem Same.trans {H H1 H2:Hp} (a:Same H H1) (b:Same H1 H2):Same H H2:=fun c o h=>b c o (a c o h)
end L2
end
section
namespace Tr
open PySem
abbrev T:=PyData
inductive R (α:Type) where
 | ok (a:α)
 | ex (c:Str) (fs:List (Str × T))
 | bad
@[inline] def R.bind {α β:Type} (r:R α) (f:α→R β):R β:=match r with
 | .ok a=>f a
 | .ex c fs=>.ex c fs
 | .bad=>.bad
def R.of {α:Type}:Option α→R α
 | some a=>.ok a
 | none=>.bad
abbrev Ev:=List (Option T)
abbrev FE:=Ev→R T
abbrev FT:=Ev→R Bool
abbrev FA:=Ev→R (List T)
abbrev FG:=T→Ev→Option Ev
inductive SR where
 | nx (ρ:Ev)
 | rt (t:T)
 | bk (ρ:Ev)
 | ct (ρ:Ev)
 | ex (c:Str) (fs:List (Str × T))
 | bad
abbrev FS:=Ev→SR
def A1 (i:Nat):FE:=fun ρ=>match ρ[i]? with
 | some (some t)=>.ok t
 | _=>.bad
def eC (t:T):FE:=fun _=>.ok t
def e1 (f:T→Option T) (a:FE):FE:=fun ρ=>(a ρ).bind fun x=>.of (f x)
def e2 (f:T→T→Option T) (a b:FE):FE:=fun ρ=>(a ρ).bind fun x=>(b ρ).bind fun y=>.of (f x y)
def A2:FA:=fun _=>.ok []
def A0 (a:FE) (r:FA):FA:=fun ρ=>(a ρ).bind fun x=>(r ρ).bind fun xs=>.ok (x::xs)
def eN (f:List T→Option T) (a:FA):FE:=fun ρ=>(a ρ).bind fun xs=>.of (f xs)
def eF (f:List T→R T) (a:FA):FE:=fun ρ=>(a ρ).bind f
def eIf (c:FT) (a b:FE):FE:=fun ρ=>(c ρ).bind fun k=>if k=true then a ρ else b ρ
def N9:T→Option Bool
 | .none=>some false
 | .bool b=>some b
 | .int i=>some (decide (i≠0))
 | .str x=>some (decide (x.length≠0))
 | .list xs=>some (!xs.isEmpty)
 | .tuple xs=>some (!xs.isEmpty)
 | .dict _=>none
def bV (a:FE):FT:=fun ρ=>(a ρ).bind fun x=>.of (N9 x)
def AB2 (a b:FT):FT:=fun ρ=>(a ρ).bind fun k=>if k=true then b ρ else .ok false
def bOr (a b:FT):FT:=fun ρ=>(a ρ).bind fun k=>if k=true then .ok true else b ρ
def P5 (a:FT):FT:=fun ρ=>(a ρ).bind fun k=>.ok (!k)
def Y3 (a b:FE):FE:=fun ρ=>(a ρ).bind fun x=>match x with
 | .bool true=>b ρ
 | .bool false=>.ok (.bool false)
 | _=>.bad
def eOr (a b:FE):FE:=fun ρ=>(a ρ).bind fun x=>match x with
 | .bool true=>.ok (.bool true)
 | .bool false=>b ρ
 | _=>.bad
def j9 (f g:T→T→Option T) (a b c:FE):FE:=fun ρ=>(a ρ).bind fun x=>(b ρ).bind fun y=>(R.of (f x y)).bind fun z=>match z with
 | .bool true=>(c ρ).bind fun w=>.of (g y w)
 | .bool false=>.ok (.bool false)
 | _=>.bad
def B9:FS:=.nx
def B2 (s u:FS):FS:=fun ρ=>match s ρ with
 | .nx ρ'=>u ρ'
 | r=>r
def N3 {α:Type} (r:R α) (f:α→SR):SR:=match r with
 | .ok a=>f a
 | .ex c fs=>.ex c fs
 | .bad=>.bad
def sIf (c:FT) (s u:FS):FS:=fun ρ=>N3 (c ρ) fun k=>if k=true then s ρ else u ρ
def C0 (g:FG) (e:FE):FS:=fun ρ=>N3 (e ρ) fun t=>match g t ρ with
 | some ρ'=>.nx ρ'
 | none=>.bad
def D2 (e:FE):FS:=fun ρ=>N3 (e ρ) .rt
def V2:FS:=fun _=>.rt .none
def ACX (e:FE):FS:=fun ρ=>N3 (e ρ) fun _=>.nx ρ
def N1:FS:=fun _=>.bad
def gName (i:Nat):FG:=fun t ρ=>some (ρ.set i (some t))
def AP3:List FG→List T→Ev→Option Ev
 | [],[],ρ=>some ρ
 | g::gs,t::ts,ρ=>(g t ρ).bind fun ρ'=>AP3 gs ts ρ'
 | _,_,_=>none
def gTup (gs:List FG):FG:=fun t ρ=>match t with
 | .tuple ts=>AP3 gs ts ρ
 | _=>none
def AD5 (g:FG) (body:FS):List T→Ev→SR
 | [],ρ=>.nx ρ
 | t::ts,ρ=>match g t ρ with
  | none=>.bad
  | some ρ1=>match body ρ1 with
   | .nx ρ2=>AD5 g body ts ρ2
   | .ct ρ2=>AD5 g body ts ρ2
   | .bk ρ2=>.nx ρ2
   | r=>r
def E5 (c:FT) (body:FS):Nat→Ev→Option SR
 | 0,_=>none
 | n+1,ρ=>match c ρ with
  | .ok true=>match body ρ with
   | .nx ρ2=>E5 c body n ρ2
   | .ct ρ2=>E5 c body n ρ2
   | .bk ρ2=>some (.nx ρ2)
   | r=>some r
  | .ok false=>some (.nx ρ)
  | .ex c fs=>some (.ex c fs)
  | .bad=>some .bad
theorem n5 {c:FT} {b:FS}:∀{n:Nat} {ρ:Ev} {r:SR},E5 c b n ρ=some r→E5 c b (n+1) ρ=some r
 | 0,_,_,h=>by simp[E5]at h
 | n+1,ρ,r,h=>by
  rw[E5]at h ⊢
  cases hc:c ρ with
  | ok k =>
   cases k with
   | true =>
    simp only[hc]at h ⊢
    cases hb:b ρ with
    | nx ρ2=>simp only[hb]at h ⊢;exact n5 h
    | ct ρ2=>simp only[hb]at h ⊢;exact n5 h
    | bk ρ2=>simp only[hb]at h ⊢;exact h
    | rt t=>simp only[hb]at h ⊢;exact h
    | ex c fs=>simp only[hb]at h ⊢;exact h
    | bad=>simp only[hb]at h ⊢;exact h
   | false=>simp only[hc]at h ⊢;exact h
  | ex c fs=>simp only[hc]at h ⊢;exact h
  | bad=>simp only[hc]at h ⊢;exact h
theorem AGO {c:FT} {b:FS} {ρ:Ev} {r:SR} {n m:Nat} (hnm:n≤m) (h:E5 c b n ρ=some r):E5 c b m ρ=some r:=by
 induction hnm with
 | refl=>exact h
 | step _ ih=>exact n5 ih
open Classical in
noncomputable def Y6 (c:FT) (b:FS):FS:=fun ρ=>if h:∃r n,E5 c b n ρ=some r then Classical.choose h else .bad
theorem y8 {c:FT} {b:FS} {ρ:Ev} {r:SR} {n:Nat} (h:E5 c b n ρ=some r):Y6 c b ρ=r:=by
 have hh:∃r n,E5 c b n ρ=some r:=⟨r,n,h⟩
 unfold Y6
 rw[dif_pos hh]
 obtain ⟨m,hm⟩:=Classical.choose_spec hh
 have h1:=AGO (Nat.le_max_left n m) h
 have h2:=AGO (Nat.le_max_right n m) hm
 rw[h1]at h2
 exact (Option.some.inj h2).symm
theorem AKC {c:FT} {b:FS} {ρ:Ev} (h:∀r n,E5 c b n ρ≠some r):Y6 c b ρ=.bad:=by
 unfold Y6
 rw[dif_neg (fun ⟨r,n,e⟩=>h r n e)]
def fin:SR→R T
 | .nx _=>.ok .none
 | .rt t=>.ok t
 | .ex c fs=>.ex c fs
 | _=>.bad
def T0 (n:Nat) (ts:List T):Ev:=ts.map some++List.replicate (n-ts.length) none
def run (n:Nat) (b:FS) (ts:List T):R T:=fin (b (T0 n ts))
def C4 (g:FG) (test:FT) (elt:FE) (ρ:Ev):List T→R (List T)
 | []=>.ok []
 | t::ts=>match g t ρ with
  | none=>.bad
  | some ρ1=>match test ρ1 with
   | .ok true=>match elt ρ1 with
    | .ok x=>(C4 g test elt ρ ts).bind fun xs=>.ok (x::xs)
    | _=>.bad
   | .ok false=>C4 g test elt ρ ts
   | _=>.bad
end Tr
end
section
namespace Tr
open PySem hiding start
def AXF:Option Int→Value→Bool
 | none,.none=>true
 | some i,v=>Value.isInt i v
 | _,_=>false
def AOJ:Int:=0xFCA86420
def okH:Option Int→Int
 | none=>AOJ
 | some i=>hashInt i
theorem K9 {k:Option Int} {v:Value} (h:AXF k v=true):(k=none∧v=.none)∨∃i t,k=some i∧v=.int i t:=by
 cases k with
 | none=>cases v<;>first | exact .inl ⟨rfl,rfl⟩ | cases h
 | some i =>
  obtain ⟨t,e⟩:=Value.isInt_shape (k:=i) (v:=v) h
  exact .inr ⟨i,t,rfl,e⟩
section
variable {prog:Program} {w:World} {A:Around} {E:Value→Shared→Prop} {s:Shared}
theorem x9 {Q:Int→Shared→Prop} (h:Q AOJ {s with toks:=s.toks+1}):wpAny (model prog w) A (pyHash .none) Q E s:=by
 unfold pyHash
 have hT:s.TypeIs .none "NoneType":=rfl
 have hv:[Value.none].any Value.onHeap=false:=rfl
 refine wpAny_bind ?_
 rw[cRoomFor,if_neg (by rw[hv];exact Bool.false_ne_true)];refine wpAny_pure ?_
 refine wpAny_bind (wpAny_specialOf hT F.slot_NoneType_hash.lookup ?_)
 show wpAny _ _ (if (some (Value.builtin "NoneType.__hash__") == some Value.none)=true then _ else _) Q E s
 rw[if_neg (by rw[beq_builtin_none];exact Bool.false_ne_true)]
 refine wpAny_bind (wpAny_specialOf hT F.slot_NoneType_hash.lookup ?_)
 show wpAny _ _ (callSpecialIfBoundUnlessNone? .none "__hash__" _ >>= _) Q E s
 refine wpAny_bind (wpAny_callSpecialIfBoundUnlessNone?_slot hT F.slot_NoneType_hash
  (wpAny_call_entry F.slot_NoneType_hash hT F.entry_NoneType_hash
   (show wpAny _ _ (do ret (←mkInt AOJ)) _ _ s from wpAny_ret_mkInt ?_) (F.args_NoneType_hash_1 _)))
 show wpAny _ _ (if (decide (-(2:Int) ^ 63≤AOJ)&&decide (AOJ<2 ^ 63))=true then _ else _) Q E _
 rw[if_pos (by decide)]
 exact wpAny_pure h
end
def AEA (prog:Program) (w:World):PySem.KeyKind prog w (Option Int) where
 is:=AXF
 hash:=okH
 inj:=fun v a b ha hb=>by
  rcases K9 ha with ⟨rfl,rfl⟩ | ⟨i,t,rfl,rfl⟩
  ·rcases K9 hb with ⟨rfl,_⟩ | ⟨j,u,rfl,e⟩
   ·rfl
   ·exact nomatch e
  ·rcases K9 hb with ⟨rfl,e⟩ | ⟨j,u,rfl,e⟩
   ·exact nomatch e
   ·injection e with e1 _;rw[e1]
 byValue:=fun k v h=>by
  rcases K9 h with ⟨rfl,rfl⟩ | ⟨i,t,rfl,rfl⟩<;>rfl
 pyHash:=fun hv h=>by
  rcases K9 hv with ⟨rfl,rfl⟩ | ⟨i,t,rfl,rfl⟩
  ·exact x9 h
  ·exact wpAny_pyHash_int h
 eqBool:=fun {A E s a b u v Q} hu hv h=>by
  rcases K9 hu with ⟨rfl,rfl⟩ | ⟨i,t,rfl,rfl⟩
  ·rcases K9 hv with ⟨rfl,rfl⟩ | ⟨j,u',rfl,rfl⟩
   ·exact SeqAt.EqAt.same .none _ _ _ _ h
   ·exact SeqAt.EqAt.none_int j u' _ _ _ _ h
  ·rcases K9 hv with ⟨rfl,rfl⟩ | ⟨j,u',rfl,rfl⟩
   ·exact SeqAt.EqAt.int_none i t _ _ _ _ h
   ·have:decide ((some i:Option Int)=some j)=(i == j):=by
     by_cases e:i=j
     ·subst e;simp
     ·rw[decide_eq_false (fun z=>e (Option.some.inj z))];exact (beq_eq_false_iff_ne.mpr e).symm
    rw[this]at h
    exact wpAny_eqBool_int h
 «strs»:=fun k x t v h=>by
  rcases K9 h with ⟨_,e⟩ | ⟨i,u,_,e⟩<;>exact nomatch e
end Tr
end
section
namespace Tr
open PySem hiding start
open PyProof.Rows hiding St
open L2 PySem.Spec
section
variable {α:Type} {P:List α→Prop}
theorem AXG (h:P []):∀us:List α,us.length=0→P us
 | [],_=>h
theorem ACY {n:Nat} (h:∀a us,us.length=n→P (a::us)):∀us:List α,us.length=n+1→P us
 | a::us,e=>h a us (Nat.succ.inj e)
theorem AH9 (h:∀a,P [a]):∀us:List α,us.length=1→P us:=ACY fun a=>AXG (h a)
theorem AHC (h:∀a b,P [a,b]):∀us:List α,us.length=2→P us:=ACY fun a=>ACY fun b=>AXG (h a b)
theorem AQG (h:∀a b c,P [a,b,c]):∀us:List α,us.length=3→P us:=ACY fun a=>ACY fun b=>ACY fun c=>AXG (h a b c)
theorem AdT (h:∀a b c d,P [a,b,c,d]):∀us:List α,us.length=4→P us:=ACY fun a=>ACY fun b=>ACY fun c=>ACY fun d=>AXG (h a b c d)
theorem AgB (h:∀a b c d e,P [a,b,c,d,e]):∀us:List α,us.length=5→P us:=ACY fun a=>ACY fun b=>ACY fun c=>ACY fun d=>ACY fun e=>AXG (h a b c d e)
end
def okR {α:Type}:R α→Bool
 | .ex _ _=>false
 | _=>true
theorem ATM {r:R T} (k:okR r=true) {c:Str} {fs:List (Str × T)} (e:r=.ex c fs):fs=[]:=by
 rw[e]at k
 cases k
def Ag8 (C a:Addr):HO:=HO.ext fun h=>∃oe vs,h.get? a=some oe∧oe.cls=.ref C∧oe.dict=none∧oe.data=.fields vs
def AKI (K:PySem.W.Frag) (c:Str) (C:Addr):Prop:=PySem.W.nsIn K mainGlobals c=some (some (.ref C))
def AD2:Option Int→T
 | none=>.none
 | some i=>.int i
def AaA (h:Heap) (a:Addr) (f:Option Int→Option Value):Prop:=∃o es ep,h.get? a=some o∧o.ExactDict∧o.data=.dict es ep∧(∀e∈es,∃k,AXF k e.key=true∧e.hash=okH k)∧∀k,findBy AXF es k=f k
def AT2 (ks:List T) (a:Addr):HO:=HO.ext fun h=>(a == sysModules)=false∧∃f,AaA h a f∧∀k,(f k).isSome=true↔AD2 k∈ks
def AbI (K:PySem.W.Frag) (H:Hp) (kvs:List (PyData × PyData)) (v:V):Prop :=
 (∃c a C,kvs=[(.str c,.none)]∧v=.ref a∧AKI K c C∧H a=some (Ag8 C a))∨(∃a:Nat,kvs=[(.int a,.none)]∧v=.ref a)∨∃a ks,kvs=[(.none,.list ks)]∧v=.ref a∧H a=some (AT2 ks a)
mutual
def Rep (K:PySem.W.Frag) (H:Hp):T→V→Prop
 | .none,v=>v=.non
 | .bool b,v=>v=.bl b
 | .int i,v=>v=.int i
 | .str x,v=>v=.str x∧x.length≤sizeLine
 | .list ts,v=>∃a vs,v=.ref a∧SqL K H a vs∧RepL K H ts vs
 | .tuple ts,v=>∃a vs,v=.ref a∧SqT K H a vs∧RepL K H ts vs
 | .dict kvs,v=>AbI K H kvs v
def RepL (K:PySem.W.Frag) (H:Hp):List T→List V→Prop
 | [],vs=>vs=[]
 | t::ts,vs=>∃v r,vs=v::r∧Rep K H t v∧RepL K H ts r
end
theorem AO8 {H H':Hp} (e:Same H H') {a:Addr} {u:HO} (h:Rd H a u):Rd H' a u:=by
 rcases h with h | ⟨o,h⟩
 ·exact .inl (e _ _ h)
 ·exact .inr ⟨o,e _ _ h⟩
theorem K6 {K:PySem.W.Frag} {H H':Hp} (e:Same H H') {a:Addr} {xs:List V} (h:SqL K H a xs):SqL K H' a xs:=by
 rcases h with h | h
 ·exact .inl (AO8 e h)
 ·exact .inr h
theorem L6 {K:PySem.W.Frag} {H H':Hp} (e:Same H H') {a:Addr} {xs:List V} (h:SqT K H a xs):SqT K H' a xs:=by
 rcases h with h | h
 ·exact .inl (AO8 e h)
 ·exact .inr h
mutual
theorem Rep.mono {K:PySem.W.Frag} {H H':Hp} (e:Same H H'):∀(t:T) (v:V),Rep K H t v→Rep K H' t v
 | .none,_,h=>by unfold Rep at h ⊢;exact h
 | .bool _,_,h=>by unfold Rep at h ⊢;exact h
 | .int _,_,h=>by unfold Rep at h ⊢;exact h
 | .str _,_,h=>by unfold Rep at h ⊢;exact h
 | .list ts,_,h=>by
  unfold Rep at h ⊢
  obtain ⟨a,vs,r,q,l⟩:=h
  exact ⟨a,vs,r,K6 e q,RepL.mono e ts vs l⟩
 | .tuple ts,_,h=>by
  unfold Rep at h ⊢
  obtain ⟨a,vs,r,q,l⟩:=h
  exact ⟨a,vs,r,L6 e q,RepL.mono e ts vs l⟩
 | .dict _,_,h=>by
  unfold Rep at h ⊢
  rcases h with ⟨c,a,C,h1,h2,h3,h4⟩ | h | ⟨a,ks,h1,h2,h3⟩
  ·exact .inl ⟨c,a,C,h1,h2,h3,e _ _ h4⟩
  ·exact .inr (.inl h)
  ·exact .inr (.inr ⟨a,ks,h1,h2,e _ _ h3⟩)
theorem RepL.mono {K:PySem.W.Frag} {H H':Hp} (e:Same H H'):∀(ts:List T) (vs:List V),RepL K H ts vs→RepL K H' ts vs
 | [],_,h=>by unfold RepL at h ⊢;exact h
 | t::ts,_,h=>by
  unfold RepL at h ⊢
  obtain ⟨v,r,h1,h2,h3⟩:=h
  exact ⟨v,r,h1,Rep.mono e t v h2,RepL.mono e ts r h3⟩
end
theorem RepL.length {K:PySem.W.Frag} {H:Hp}:∀{ts:List T} {vs:List V},RepL K H ts vs→vs.length=ts.length
 | [],_,h=>by unfold RepL at h;subst h;rfl
 | t::ts,_,h=>by
  unfold RepL at h
  obtain ⟨v,r,rfl,_,h3⟩:=h
  rw[List.length_cons,List.length_cons,RepL.length h3]
theorem RepL.get {K:PySem.W.Frag} {H:Hp}:∀{ts:List T} {vs:List V} {i:Nat} {t:T},RepL K H ts vs→ts[i]?=some t→∃v,vs[i]?=some v∧Rep K H t v
 | [],_,_,_,_,e=>by simp at e
 | x::xs,_,0,t,h,e=>by
  unfold RepL at h
  obtain ⟨v,r,rfl,h2,_⟩:=h
  simp at e;subst e
  exact ⟨v,rfl,h2⟩
 | x::xs,_,i+1,t,h,e=>by
  unfold RepL at h
  obtain ⟨v,r,rfl,_,h3⟩:=h
  obtain ⟨u,e1,e2⟩:=RepL.get (i:=i) h3 (by simpa using e)
  exact ⟨u,by simpa using e1,e2⟩
theorem RepL.append {K:PySem.W.Frag} {H:Hp}:∀{ts us:List T} {vs ws:List V},RepL K H ts vs→RepL K H us ws→RepL K H (ts++us) (vs++ws)
 | [],_,_,_,h,q=>by unfold RepL at h;subst h;exact q
 | t::ts,us,_,ws,h,q=>by
  unfold RepL at h
  obtain ⟨v,r,rfl,h2,h3⟩:=h
  show RepL K H (t::(ts++us)) (v::(r++ws))
  unfold RepL
  exact ⟨v,r++ws,rfl,h2,RepL.append h3 q⟩
theorem C5 {K:PySem.W.Frag} {H:Hp}:RepL K H [] []:=by unfold RepL;rfl
theorem B6 {K:PySem.W.Frag} {H:Hp} {t:T} {v:V} {ts:List T} {vs:List V} (h:Rep K H t v) (q:RepL K H ts vs):RepL K H (t::ts) (v::vs):=by
 unfold RepL;exact ⟨v,vs,rfl,h,q⟩
theorem C3 {K:PySem.W.Frag} {H:Hp} {i:Int}:Rep K H (.int i) (.int i):=by unfold Rep;rfl
theorem D9 {K:PySem.W.Frag} {H:Hp} {b:Bool}:Rep K H (.bool b) (.bl b):=by unfold Rep;rfl
theorem AB8 {K:PySem.W.Frag} {H:Hp}:Rep K H .none .non:=by unfold Rep;rfl
theorem t9 {K:PySem.W.Frag} {H:Hp} {x:Str} (h:x.length≤sizeLine):Rep K H (.str x) (.str x):=by unfold Rep;exact ⟨rfl,h⟩
def E8 (a:Nat):T:=.dict [(.int a,.none)]
theorem ABE {K:PySem.W.Frag} {H:Hp} {a:Nat} {v:V} (h:Rep K H (E8 a) v):v=.ref a:=by
 unfold E8 Rep at h
 rcases h with ⟨c,a',C,h1,_⟩ | ⟨a',h1,h2⟩ | ⟨a',ks,h1,_⟩
 ·cases h1
 rotate_left
 ·cases h1
 ·have h3:(a:Int)=(a':Int):=by injection h1 with h1 _;injection h1 with h1 _;injection h1
  have h4:a=a':=Int.ofNat.inj h3
  rw[h4];exact h2
theorem AK5 {K:PySem.W.Frag} {H:Hp} {a:Nat}:Rep K H (E8 a) (.ref a):=by
 unfold E8 Rep
 exact .inr (.inl ⟨a,rfl,rfl⟩)
def z9 (ks:List T):T:=.dict [(.none,.list ks)]
theorem ARJ {K:PySem.W.Frag} {H:Hp} {ks:List T} {v:V} (h:Rep K H (z9 ks) v):∃a,v=.ref a∧H a=some (AT2 ks a):=by
 unfold z9 Rep at h
 rcases h with ⟨c,a',C,h1,_⟩ | ⟨a',h1,h2⟩ | ⟨a',ks',h1,h2,h3⟩
 ·cases h1
 ·cases h1
 ·have h4:ks=ks':=by injection h1 with h1 _;injection h1 with _ h1;injection h1
  subst h4
  exact ⟨a',h2,h3⟩
theorem ANA {K:PySem.W.Frag} {H:Hp} {ks:List T} {a:Addr} (h:H a=some (AT2 ks a)):Rep K H (z9 ks) (.ref a):=by
 unfold z9 Rep
 exact .inr (.inr ⟨a,ks,rfl,rfl,h⟩)
structure RepEnv (K:PySem.W.Frag) (H:Hp) (ρ:Ev) (σ:St):Prop where
 len:ρ.length=σ.length
 get:∀(i:Nat) (t:T),ρ[i]?=some (some t)→∃v,σ[i]?=some (some v)∧Rep K H t v
theorem RepEnv.mono {K:PySem.W.Frag} {H H':Hp} (e:Same H H') {ρ:Ev} {σ:St} (h:RepEnv K H ρ σ):RepEnv K H' ρ σ :=
 ⟨h.len,fun i t q=>let ⟨v,e1,e2⟩:=h.get i t q;⟨v,e1,Rep.mono e t v e2⟩⟩
theorem RepEnv.set {K:PySem.W.Frag} {H:Hp} {ρ:Ev} {σ:St} (h:RepEnv K H ρ σ) (i:Nat) {t:T} {v:V} (r:Rep K H t v):RepEnv K H (ρ.set i (some t)) (σ.set i (some v)):=by
 refine ⟨by rw[List.length_set,List.length_set,h.len],fun j u q=>?_⟩
 by_cases hj:i=j
 ·subst hj
  by_cases hl:i<ρ.length
  ·rw[List.getElem?_set_self hl]at q
   have q':=Option.some.inj (Option.some.inj q)
   subst q'
   exact ⟨v,List.getElem?_set_self (by rw[←h.len];exact hl),r⟩
  ·rw[List.getElem?_eq_none (by rw[List.length_set];omega)]at q;cases q
 ·rw[List.getElem?_set_ne hj]at q ⊢
  exact h.get j u q
theorem X3 {K:PySem.W.Frag} {H:Hp} {ts:List T} {vs:List V} (N:List Str) (h:RepL K H ts vs):RepEnv K H (T0 N.length ts) (start N vs):=by
 have hl:=h.length
 refine ⟨by unfold T0 start;simp only[List.length_append,List.length_map,List.length_replicate];omega,fun i t q=>?_⟩
 unfold T0 at q
 by_cases hi:i<ts.length
 ·rw[List.getElem?_append_left (by simpa using hi),List.getElem?_map]at q
  cases e:ts[i]? with
  | none=>rw[e]at q;cases q
  | some u =>
   rw[e]at q
   have q':u=t:=Option.some.inj (Option.some.inj q)
   subst q'
   obtain ⟨v,e1,e2⟩:=h.get e
   refine ⟨v,?_,e2⟩
   unfold start
   rw[List.getElem?_append_left (by simp;omega),List.getElem?_map,e1];rfl
 ·rw[List.getElem?_append_right (by simpa using hi),List.getElem?_replicate]at q
  split at q<;>cases q
abbrev EK:=Str→List (Str × T)→Hp→Prop
def wR {α:Type} (Ek:EK) (H:Hp) (r:R α) (k:α→Prop):Prop:=match r with
 | .ok a=>k a
 | .ex c fs=>∀H',Same H H'→Ek c fs H'
 | .bad=>False
theorem A5 {α β:Type} {Ek:EK} {H:Hp} {r:R α} {f:α→R β} {k:β→Prop} (h:wR Ek H (r.bind f) k):wR Ek H r fun a=>wR Ek H (f a) k:=by
 cases r<;>exact h
theorem A7 {α:Type} {Ek:EK} {H H':Hp} {r:R α} {k k':α→Prop} (e:Same H H') (i:∀a,k a→k' a) (h:wR Ek H r k):wR Ek H' r k':=by
 cases r with
 | ok a=>exact i a h
 | ex c fs=>exact fun H2 q=>h H2 (e.trans q)
 | bad=>exact h
theorem Q5 {α:Type} {Ek:EK} {H:Hp} {o:Option α} {k:α→Prop} (h:wR Ek H (R.of o) k):∃a,o=some a∧k a:=by
 cases o with
 | none=>exact h.elim
 | some a=>exact ⟨a,rfl,h⟩
def lE (K:PySem.W.Frag) (Ek:EK) (t:FE):TE:=fun σ H Q=>∃ρ,RepEnv K H ρ σ∧wR Ek H (t ρ) fun a=>∀v H',Same H H'→Rep K H' a v→Q v H'
def lT (K:PySem.W.Frag) (Ek:EK) (t:FT):TT:=fun σ H Q=>∃ρ,RepEnv K H ρ σ∧wR Ek H (t ρ) fun b=>∀H',Same H H'→Q b H'
def lA (K:PySem.W.Frag) (Ek:EK) (t:FA):TA:=fun σ H Q=>∃ρ,RepEnv K H ρ σ∧wR Ek H (t ρ) fun ts=>∀vs H',Same H H'→RepL K H' ts vs→Q vs H'
def lSR (K:PySem.W.Frag) (Ek:EK) (D:Ends) (H:Hp):SR→Prop
 | .nx ρ=>∀σ H',Same H H'→RepEnv K H' ρ σ→D.nx σ H'
 | .rt a=>∀v H',Same H H'→Rep K H' a v→D.rt v H'
 | .bk ρ=>∀σ H',Same H H'→RepEnv K H' ρ σ→D.bk σ H'
 | .ct ρ=>∀σ H',Same H H'→RepEnv K H' ρ σ→D.ct σ H'
 | .ex c fs=>∀H',Same H H'→Ek c fs H'
 | .bad=>False
def lS (K:PySem.W.Frag) (Ek:EK) (t:FS):TS:=fun D σ H=>∃ρ,RepEnv K H ρ σ∧lSR K Ek D H (t ρ)
def lG (K:PySem.W.Frag) (g:FG):TG:=fun v σ H Q=>∃t ρ ρ',Rep K H t v∧RepEnv K H ρ σ∧g t ρ=some ρ'∧∀σ',RepEnv K H ρ' σ'→Q σ' H
def lGs (K:PySem.W.Frag) (gs:List FG):TGs:=fun vs σ H Q=>∃ts ρ ρ',RepL K H ts vs∧RepEnv K H ρ σ∧AP3 gs ts ρ=some ρ'∧∀σ',RepEnv K H ρ' σ'→Q σ' H
theorem K5 {K:PySem.W.Frag} {Ek:EK} {D:Ends} {H H':Hp} (e:Same H H'):∀{r:SR},lSR K Ek D H r→lSR K Ek D H' r
 | .nx _,h=>fun σ H2 q=>h σ H2 (e.trans q)
 | .rt _,h=>fun σ H2 q=>h σ H2 (e.trans q)
 | .bk _,h=>fun σ H2 q=>h σ H2 (e.trans q)
 | .ct _,h=>fun σ H2 q=>h σ H2 (e.trans q)
 | .ex _ _,h=>fun H2 q=>h H2 (e.trans q)
 | .bad,h=>h
theorem Q2 {α:Type} {K:PySem.W.Frag} {Ek:EK} {D:Ends} {H:Hp} {r:R α} {f:α→SR} (h:lSR K Ek D H (N3 r f)):wR Ek H r fun a=>lSR K Ek D H (f a):=by
 cases r<;>exact h
section
variable {X:Cx} {Ek:EK}
abbrev JE (X:Cx) (Ek:EK) (e:Expr) (t:FE):Prop:=PE X e (lE X.K Ek t)
abbrev JT (X:Cx) (Ek:EK) (e:Expr) (t:FT):Prop:=PT X e (lT X.K Ek t)
abbrev JW (X:Cx) (Ek:EK) (e:Expr) (t:FT):Prop:=PW X e (lT X.K Ek t)
abbrev JA (X:Cx) (Ek:EK) (es:List Expr) (t:FA):Prop:=PA X es (lA X.K Ek t)
abbrev JS (X:Cx) (Ek:EK) (s:Stmt) (t:FS):Prop:=PS X s (lS X.K Ek t)
abbrev JSs (X:Cx) (Ek:EK) (s:List Stmt) (t:FS):Prop:=PSs X s (lS X.K Ek t)
abbrev JG (X:Cx) (e:Expr) (g:FG):Prop:=PG X e (lG X.K g)
abbrev JGs (X:Cx) (es:List Expr) (gs:List FG):Prop:=PGs X es (lGs X.K gs)
theorem PE.weak {e:Expr} {t t':TE} (h:PE X e t) (w:∀σ H Q,t' σ H Q→t σ H Q):PE X e t':=fun pins s σ H Q I q=>h pins s σ H Q I (w σ H Q q)
theorem PT.weak {e:Expr} {t t':TT} (h:PT X e t) (w:∀σ H Q,t' σ H Q→t σ H Q):PT X e t':=fun pins s σ H Q I q=>h pins s σ H Q I (w σ H Q q)
theorem PW.weak {e:Expr} {t t':TT} (h:PW X e t) (w:∀σ H Q,t' σ H Q→t σ H Q):PW X e t':=fun wh pins s σ H Q I q=>h wh pins s σ H Q I (w σ H Q q)
theorem PA.weak {e:List Expr} {t t':TA} (h:PA X e t) (w:∀σ H Q,t' σ H Q→t σ H Q):PA X e t':=fun pos pins s σ H Q I q=>h pos pins s σ H Q I (w σ H Q q)
theorem PS.weak {e:Stmt} {t t':TS} (h:PS X e t) (w:∀D σ H,t' D σ H→t D σ H):PS X e t':=fun pins s σ H D I q=>h pins s σ H D I (w D σ H q)
theorem PSs.weak {e:List Stmt} {t t':TS} (h:PSs X e t) (w:∀D σ H,t' D σ H→t D σ H):PSs X e t':=fun pins s σ H D I q=>h pins s σ H D I (w D σ H q)
theorem PG.weak {e:Expr} {t t':TG} (h:PG X e t) (w:∀v σ H Q,t' v σ H Q→t v σ H Q):PG X e t':=fun pins s σ H v u Q I r q=>h pins s σ H v u Q I r (w v σ H Q q)
theorem PGs.weak {e:List Expr} {t t':TGs} (h:PGs X e t) (w:∀v σ H Q,t' v σ H Q→t v σ H Q):PGs X e t':=fun pins s σ H v u Q I r q=>h pins s σ H v u Q I r (w v σ H Q q)
theorem AZF (i:Nat) {x:Str} {pos:Pos} (hN:X.N[i]?=some x) (hv:Vis X.env.scope x) (hd:(x == ("__debug__" : Str))=false) (hcd:(x == ("__classdict__" : Str))=false):JE X Ek (.Name x pos) (A1 i):=by
 refine PE.weak (AO4 hN hv hd hcd) fun σ H Q h=>?_
 obtain ⟨ρ,r,h⟩:=h
 unfold A1 at h
 cases e:ρ[i]? with
 | none=>rw[e]at h;exact h.elim
 | some o =>
  rw[e]at h
  cases o with
  | none=>exact h.elim
  | some t =>
   obtain ⟨v,e1,e2⟩:=r.get i t e
   exact ⟨v,e1,h v H (Same.refl H) e2⟩
theorem y6 {t:T} {v:V} (hr:∀H,Rep X.K H t v):∀(σ:St) (H:Hp) (Q:VK),lE X.K Ek (eC t) σ H Q→tC v σ H Q:=fun σ H Q h=>by
 obtain ⟨ρ,r,h⟩:=h
 exact h v H (Same.refl H) (hr H)
theorem AT6 {i j pos}:JE X Ek (.Constant (.int i) j pos) (eC (.int i)):=PE.weak AXM (y6 fun _=>C3)
theorem ANE {b j pos}:JE X Ek (.Constant (.bool b) j pos) (eC (.bool b)):=PE.weak AbY (y6 fun _=>D9)
theorem AON {j pos}:JE X Ek (.Constant .none j pos) (eC .none):=PE.weak Ab2 (y6 fun _=>AB8)
theorem ASO {x j pos} (h:x.length≤sizeLine):JE X Ek (.Constant (.str x) j pos) (eC (.str x)):=PE.weak AaO (y6 fun _=>t9 h)
theorem AVQ {x:Str} {t:T} {v:V} {u:Value} {pos:Pos} (hg:Gl X x) (hm:X.mg x=some u) (r:RelV v u) (hr:∀H,Rep X.K H t v) (hd:(x == ("__debug__" : Str))=false):JE X Ek (.Name x pos) (eC t) :=
 PE.weak (AUB hg hm r hd) (y6 hr)
def Z7 (K:PySem.W.Frag) (r:R2) (f:T→T→Option T):Prop:=∀(x y:V) (tx ty a:T) (H:Hp) (Q:VK),Rep K H tx x→Rep K H ty y→f tx ty=some a→(∀v H',Same H H'→Rep K H' a v→Q v H')→r x y H Q
def AeR (K:PySem.W.Frag) (r:V→Hp→VK→Prop) (f:T→Option T):Prop:=∀(x:V) (tx a:T) (H:Hp) (Q:VK),Rep K H tx x→f tx=some a→(∀v H',Same H H'→Rep K H' a v→Q v H')→r x H Q
def APK (K:PySem.W.Frag) (r:List V→Hp→VK→Prop) (f:List T→Option T):Prop:=∀(xs:List V) (ts:List T) (a:T) (H:Hp) (Q:VK),RepL K H ts xs→f ts=some a→(∀v H',Same H H'→Rep K H' a v→Q v H')→r xs H Q
theorem AJD {K:PySem.W.Frag} {r:R2} {f:T→T→Option T} (hr:Z7 K r f) {ta tb:FE} (σ:St) (H:Hp) (Q:VK) (h:lE K Ek (e2 f ta tb) σ H Q):tOp r (lE K Ek ta) (lE K Ek tb) σ H Q:=by
 obtain ⟨ρ,R,h⟩:=h
 refine ⟨ρ,R,A7 (Same.refl H) (fun x hx=>?_) (A5 h)⟩
 intro v H1 s1 rx
 refine ⟨ρ,R.mono s1,A7 s1 (fun y hy=>?_) (A5 hx)⟩
 intro u H2 s2 ry
 obtain ⟨a,ha,q⟩:=Q5 hy
 exact hr v u x y a H2 Q (Rep.mono s2 x v rx) ry ha fun w' H3 s3=>q w' H3 (s1.trans (s2.trans s3))
theorem AE5 {op:Operator} {r:R2} {f:T→T→Option T} {a b:Expr} {ta tb:FE} {pos:Pos} (ho:OpR X (binaryOp op) r) (hr:Z7 X.K r f) (ha:JE X Ek a ta) (hb:JE X Ek b tb):JE X Ek (.BinOp a op b pos) (e2 f ta tb) :=
 PE.weak (AZZ ho ha hb) (AJD hr)
theorem ABL {op:CmpOp} {r:R2} {f:T→T→Option T} {a b:Expr} {ta tb:FE} {pos:Pos} (ho:OpR X (compareOp op) r) (hr:Z7 X.K r f) (ha:JE X Ek a ta) (hb:JE X Ek b tb) (hm:behindInMarks op b=false):JE X Ek (.Compare a [op] [b] pos) (e2 f ta tb) :=
 PE.weak (AVR ho ha hb hm) (AJD hr)
theorem AA0 {op:CmpOp} {r:R2} {f:T→T→Option T} {a b:Expr} {ta tb:FE} {pos:Pos} (ho:OpR X (compareOp op) r) (hr:Z7 X.K r f) (hf:∀x y c,f x y=some c→∃k,c=.bool k) (ha:JE X Ek a ta) (hb:JE X Ek b tb) (hm:behindInMarks op b=false):JT X Ek (.Compare a [op] [b] pos) (bV (e2 f ta tb)):=by
 refine PT.weak (AVC ho ha hb hm) fun σ H Q h=>?_
 obtain ⟨ρ,R,h⟩:=h
 refine AJD (Ek:=Ek) hr σ H _ ⟨ρ,R,?_⟩
 have h':=A5 h
 cases e:e2 f ta tb ρ with
 | bad=>rw[e]at h';exact h'
 | ex c fs=>rw[e]at h';exact h'
 | ok c =>
  rw[e]at h'
  have hb:∃k,c=.bool k:=by
   unfold e2 at e
   cases e1:ta ρ with
   | bad=>rw[e1]at e;cases e
   | ex c fs=>rw[e1]at e;cases e
   | ok x =>
    rw[e1]at e
    cases e2:tb ρ with
    | bad=>rw[e2]at e;cases e
    | ex c fs=>rw[e2]at e;cases e
    | ok y =>
     rw[e2]at e
     cases e3:f x y with
     | none =>
      have e':Tr.R.of (f x y)=Tr.R.ok c:=e
      rw[e3]at e';cases e'
     | some d =>
      have e':Tr.R.of (f x y)=Tr.R.ok c:=e
      rw[e3]at e'
      have e'':d=c:=by cases e';rfl
      subst e''
      exact hf x y d e3
  obtain ⟨k,rfl⟩:=hb
  intro v H1 s1 rv
  unfold Rep at rv
  subst rv
  have h2:∀H',Same H H'→Q k H':=h'
  exact ⟨k,rfl,h2 H1 s1⟩
theorem AZJ {op:UnaryOp} {r:V→Hp→VK→Prop} {f:T→Option T} {a:Expr} {ta:FE} {pos:Pos} (ho:UnR X (unaryOp op) r) (hr:AeR X.K r f) (ha:JE X Ek a ta):JE X Ek (.UnaryOp op a pos) (e1 f ta):=by
 refine PE.weak (AdP ho ha) fun σ H Q h=>?_
 obtain ⟨ρ,R,h⟩:=h
 refine ⟨ρ,R,A7 (Same.refl H) (fun x hx=>?_) (A5 h)⟩
 intro v H1 s1 rx
 obtain ⟨a,ha,q⟩:=Q5 hx
 exact hr v x a H1 Q rx ha fun w' H3 s3=>q w' H3 (s1.trans s3)
theorem ALY:JA X Ek [] A2:=PA.weak AGS fun σ H Q h=>by
 obtain ⟨ρ,R,h⟩:=h
 exact h [] H (Same.refl H) C5
theorem ABO {e:Expr} {es:List Expr} {t:FE} {ts:FA} (ha:JE X Ek e t) (hr:JA X Ek es ts) (hs:starEach (e::es) X.env=(false,eval e X.env)::starEach es X.env):JA X Ek (e::es) (A0 t ts):=by
 refine PA.weak (ABP ha hr hs) fun σ H Q h=>?_
 obtain ⟨ρ,R,h⟩:=h
 refine ⟨ρ,R,A7 (Same.refl H) (fun x hx=>?_) (A5 h)⟩
 intro v H1 s1 rx
 refine ⟨ρ,R.mono s1,A7 s1 (fun y hy=>?_) (A5 hx)⟩
 intro vs H2 s2 ry
 exact hy (v::vs) H2 (s1.trans s2) (B6 (Rep.mono s2 x v rx) ry)
end
section
variable {X:Cx} {Ek:EK}
theorem B0 {H:Hp} {p:Addr} (h:H p=none) (o:HO):Same H (upd H p o):=fun b u q=>by rw[A6 (C2 q h)];exact q
def J4 (n:Nat):Bool:=decide (n≤1000)
theorem ABB {n:Nat} (h:J4 n=true):n≤sizeLine:=Nat.le_trans (of_decide_eq_true h) (by decide)
def D4 (a:FA):FE:=fun ρ=>(a ρ).bind fun xs=>if J4 xs.length then .ok (.tuple xs) else .bad
def S7 (a:FA):FE:=fun ρ=>(a ρ).bind fun xs=>if J4 xs.length then .ok (.list xs) else .bad
theorem AT4 {es:List Expr} {k:Nat} {t:FA} {pos:Pos} (h:JA X Ek es t):JE X Ek (.Tuple es k pos) (D4 t):=by
 refine PE.weak (AaP h) fun σ H Q h=>?_
 obtain ⟨ρ,R,h⟩:=h
 refine ⟨ρ,R,A7 (Same.refl H) (fun xs hx=>?_) (A5 h)⟩
 intro vs H1 s1 rx
 by_cases hs:J4 xs.length=true
 ·rw[if_pos hs]at hx
  have hx':∀v H',Same H H'→Rep X.K H' (.tuple xs) v→Q v H':=hx
  refine ⟨by rw[rx.length];exact ABB hs,fun p hp=>hx' _ _ (s1.trans (B0 hp _)) ?_⟩
  unfold Rep
  exact ⟨p,vs,rfl,SqT.of A8,RepL.mono (B0 hp _) xs vs rx⟩
 ·rw[if_neg hs]at hx;exact hx.elim
theorem ATE {es:List Expr} {t:FA} {pos:Pos} (h:JA X Ek es t):JE X Ek (.List es pos) (S7 t):=by
 refine PE.weak (AM6 h) fun σ H Q h=>?_
 obtain ⟨ρ,R,h⟩:=h
 refine ⟨ρ,R,A7 (Same.refl H) (fun xs hx=>?_) (A5 h)⟩
 intro vs H1 s1 rx
 by_cases hs:J4 xs.length=true
 ·rw[if_pos hs]at hx
  have hx':∀v H',Same H H'→Rep X.K H' (.list xs) v→Q v H':=hx
  refine ⟨by rw[rx.length];exact ABB hs,fun p hp=>hx' _ _ (s1.trans (B0 hp _)) ?_⟩
  unfold Rep
  exact ⟨p,vs,rfl,SqL.of A8,RepL.mono (B0 hp _) xs vs rx⟩
 ·rw[if_neg hs]at hx;exact hx.elim
theorem AUG {K:PySem.W.Frag} {H:Hp}:∀{t:T} {v:V} {k:Bool},Rep K H t v→N9 t=some k→AdU K v H k
 | .none,v,k,r,e=>by unfold Rep at r;subst r;cases e;rfl
 | .bool b,v,k,r,e=>by unfold Rep at r;subst r;cases e;rfl
 | .int i,v,k,r,e=>by
  unfold Rep at r;subst r
  have e':decide (i≠0)=k:=Option.some.inj e
  show k=(i != 0)
  rw[←e']
  by_cases h:i=0<;>simp[h]
 | .str x,v,k,r,e=>by
  unfold Rep at r;obtain ⟨rfl,hz⟩:=r
  have e':decide (x.length≠0)=k:=Option.some.inj e
  refine ⟨hz,?_⟩
  rw[←e']
  by_cases h:x.length=0
  ·simp[h]
  ·have h2:((x.length:Nat):Int)≠0:=by omega
   rw[decide_eq_true h]
   exact (bne_iff_ne.mpr h2).symm
 | .list ts,v,k,r,e=>by
  unfold Rep at r;obtain ⟨a,vs,rfl,q,l⟩:=r
  have e':(!ts.isEmpty)=k:=Option.some.inj e
  refine .inl ⟨vs,q,?_⟩
  rw[←e']
  have hl:=l.length
  cases ts<;>cases vs<;>first | rfl | simp at hl
 | .tuple ts,v,k,r,e=>by
  unfold Rep at r;obtain ⟨a,vs,rfl,q,l⟩:=r
  have e':(!ts.isEmpty)=k:=Option.some.inj e
  refine .inr (.inl ⟨vs,q,?_⟩)
  rw[←e']
  have hl:=l.length
  cases ts<;>cases vs<;>first | rfl | simp at hl
 | .dict _,_,_,_,e=>by cases e
theorem ARY {a:Expr} {t:FE} (ha:JE X Ek a t) (he:∀whole,isTrue a X.env whole=(do let v←whole;standAt a.pos;holding [v] (truthy v))):JT X Ek a (bV t):=by
 refine PT.weak (AQN ha he) fun σ H Q h=>?_
 obtain ⟨ρ,R,h⟩:=h
 refine ⟨ρ,R,A7 (Same.refl H) (fun x hx=>?_) (A5 h)⟩
 intro v H1 s1 rx
 obtain ⟨k,hk,q⟩:=Q5 hx
 exact ⟨k,AUG rx hk,q H1 s1⟩
theorem AfK {e:Expr} {t:FT} (h:JW X Ek e t):JT X Ek e t:=PW.pt h
theorem AUM {a:Expr} {t:FT} {pos:Pos} (h:JT X Ek a t):JW X Ek (.BoolOp .And [a] pos) t:=AV0 h
theorem AaJ {a:Expr} {t:FT} {pos:Pos} (h:JT X Ek a t):JW X Ek (.BoolOp .Or [a] pos) t:=AbH h
theorem AbD {a b:Expr} {rest:List Expr} {t u:FT} {pos:Pos} (h1:JT X Ek a t) (h2:JW X Ek (.BoolOp .And (b::rest) pos) u):JW X Ek (.BoolOp .And (a::b::rest) pos) (AB2 t u):=by
 refine PW.weak (AZ1 h1 h2) fun σ H Q h=>?_
 obtain ⟨ρ,R,h⟩:=h
 refine ⟨ρ,R,A7 (Same.refl H) (fun k hk=>?_) (A5 h)⟩
 intro H1 s1
 cases k with
 | true=>exact ⟨ρ,R.mono s1,A7 s1 (fun b hb H2 s2=>hb H2 (s1.trans s2)) hk⟩
 | false=>exact hk H1 s1
theorem AcB {a b:Expr} {rest:List Expr} {t u:FT} {pos:Pos} (h1:JT X Ek a t) (h2:JW X Ek (.BoolOp .Or (b::rest) pos) u):JW X Ek (.BoolOp .Or (a::b::rest) pos) (bOr t u):=by
 refine PW.weak (Ac4 h1 h2) fun σ H Q h=>?_
 obtain ⟨ρ,R,h⟩:=h
 refine ⟨ρ,R,A7 (Same.refl H) (fun k hk=>?_) (A5 h)⟩
 intro H1 s1
 cases k with
 | false=>exact ⟨ρ,R.mono s1,A7 s1 (fun b hb H2 s2=>hb H2 (s1.trans s2)) hk⟩
 | true=>exact hk H1 s1
theorem AaV {a:Expr} {t:FT} {pos:Pos} (h1:JT X Ek a t):JT X Ek (.UnaryOp .Not a pos) (P5 t):=by
 refine PT.weak (AXI h1) fun σ H Q h=>?_
 obtain ⟨ρ,R,h⟩:=h
 exact ⟨ρ,R,A7 (Same.refl H) (fun k hk H1 s1=>hk H1 s1) (A5 h)⟩
theorem APW {c a b:Expr} {tc:FT} {ta tb:FE} {pos:Pos} (hc:JT X Ek c tc) (ha:JE X Ek a ta) (hb:JE X Ek b tb):JE X Ek (.IfExp c a b pos) (eIf tc ta tb):=by
 refine PE.weak (ASH hc ha hb) fun σ H Q h=>?_
 obtain ⟨ρ,R,h⟩:=h
 refine ⟨ρ,R,A7 (Same.refl H) (fun k hk=>?_) (A5 h)⟩
 intro H1 s1
 cases k with
 | true=>exact ⟨ρ,R.mono s1,A7 s1 (fun x hx v H2 s2=>hx v H2 (s1.trans s2)) hk⟩
 | false=>exact ⟨ρ,R.mono s1,A7 s1 (fun x hx v H2 s2=>hx v H2 (s1.trans s2)) hk⟩
theorem AXL {op} {a:Expr} {t:FE} {pos:Pos} (h:JE X Ek a t):JE X Ek (.BoolOp op [a] pos) t:=Aa9 h
theorem AZ2 {a b:Expr} {rest:List Expr} {t u:FE} {pos:Pos} (h1:JE X Ek a t) (h2:JE X Ek (.BoolOp .And (b::rest) pos) u):JE X Ek (.BoolOp .And (a::b::rest) pos) (Y3 t u):=by
 refine PE.weak (AYY h1 h2) fun σ H Q h=>?_
 obtain ⟨ρ,R,h⟩:=h
 refine ⟨ρ,R,A7 (Same.refl H) (fun x hx=>?_) (A5 h)⟩
 intro v H1 s1 rx
 cases x with
 | bool k =>
  unfold Rep at rx;subst rx
  refine ⟨k,rfl,?_⟩
  cases k with
  | true=>exact ⟨ρ,R.mono s1,A7 s1 (fun x hx v H2 s2=>hx v H2 (s1.trans s2)) hx⟩
  | false=>exact hx _ H1 s1 D9
 | _=>exact hx.elim
def AeW:T→Option T
 | .bool b=>some (.bool (!b))
 | _=>none
theorem AY7 {a:Expr} {t:FE} {pos:Pos} (h1:JE X Ek a t):JE X Ek (.UnaryOp .Not a pos) (e1 AeW t):=by
 refine PE.weak (AYS h1) fun σ H Q h=>?_
 obtain ⟨ρ,R,h⟩:=h
 refine ⟨ρ,R,A7 (Same.refl H) (fun x hx=>?_) (A5 h)⟩
 intro v H1 s1 rx
 obtain ⟨a,ha,q⟩:=Q5 hx
 cases x with
 | bool k =>
  unfold Rep at rx;subst rx
  cases ha
  exact ⟨k,rfl,q _ H1 s1 D9⟩
 | _=>cases ha
theorem ASC {op op':CmpOp} {r r':R2} {f g:T→T→Option T} {a b c:Expr} {ta tb tc:FE} {pos:Pos} (ho:OpR X (compareOp op) r) (ho':OpR X (compareOp op') r') (hr:Z7 X.K r f) (hr':Z7 X.K r' g)
  (hf:∀x y c,f x y=some c→∃k,c=.bool k) (ha:JE X Ek a ta) (hb:JE X Ek b tb) (hc:JE X Ek c tc)
  (pr:PE X (.Compare a [op,op'] [b,c] pos) (AJA r r' (lE X.K Ek ta) (lE X.K Ek tb) (lE X.K Ek tc))):JE X Ek (.Compare a [op,op'] [b,c] pos) (j9 f g ta tb tc):=by
 refine PE.weak pr fun σ H Q h=>?_
 obtain ⟨ρ,R,h⟩:=h
 refine ⟨ρ,R,A7 (Same.refl H) (fun x hx=>?_) (A5 h)⟩
 intro v H1 s1 rx
 refine ⟨ρ,R.mono s1,A7 s1 (fun y hy=>?_) (A5 hx)⟩
 intro u H2 s2 ry
 obtain ⟨z,hz,q⟩:=Q5 (A5 hy)
 obtain ⟨k,rfl⟩:=hf x y z hz
 refine hr v u x y _ H2 _ (Rep.mono s2 x v rx) ry hz fun w' H3 s3 rz=>?_
 unfold Rep at rz;subst rz
 refine ⟨k,rfl,?_⟩
 cases k with
 | true =>
  rw[if_pos rfl]
  refine ⟨ρ,R.mono (s1.trans (s2.trans s3)),A7 (s1.trans (s2.trans s3)) (fun w2 hw=>?_) (A5 q)⟩
  intro v4 H4 s4 r4
  obtain ⟨a,ha,q'⟩:=Q5 hw
  exact hr' u v4 y w2 a H4 Q (Rep.mono (s3.trans s4) y u ry) r4 ha fun v5 H5 s5=>q' v5 H5 (s1.trans (s2.trans (s3.trans (s4.trans s5))))
 | false =>
  rw[if_neg Bool.false_ne_true]
  exact q _ H3 (s1.trans (s2.trans s3)) D9
theorem AeI {K:PySem.W.Frag} {r:List V→Hp→VK→Prop} {f:List T→Option T} (hr:APK K r f) {ta:FA} (σ:St) (H:Hp) (Q:VK) (h:lE K Ek (eN f ta) σ H Q):tCB r (lA K Ek ta) σ H Q:=by
 obtain ⟨ρ,R,h⟩:=h
 refine ⟨ρ,R,A7 (Same.refl H) (fun x hx=>?_) (A5 h)⟩
 intro v H1 s1 rx
 obtain ⟨a,ha,q⟩:=Q5 hx
 exact hr v x a H1 Q rx ha fun w' H3 s3=>q w' H3 (s1.trans s3)
def spM (K:PySem.W.Frag) (n:Nat) (m:List T→R T):Sp:=fun vs H Q E=>∃ts,RepL K H ts vs∧ts.length=n∧match m ts with
 | .ok a=>∀v H',Same H H'→Rep K H' a v→Q v H'
 | .ex c _=>∀H' C,Same H H'→AKI K c C→E (.ref C) none H'
 | .bad=>False
def AQA (K:PySem.W.Frag) (Ek:EK):XK:=fun cv dx H=>∃c C,cv=.ref C∧dx=none∧AKI K c C∧Ek c [] H
def A3 (n:Nat) (ds:List T) (m:List T→R T):List T→R T:=fun ts=>if ts.length+ds.length=n then m (ts++ds) else .bad
theorem AeS {K:PySem.W.Frag} {n:Nat} {m:List T→R T} {ds:List T} {dvs:List V} (hd:∀H,RepL K H ds dvs) (hex:∀ts c fs,m ts=.ex c fs→fs=[]) {ta:FA} (σ:St) (H:Hp) (Q:VK) (h:lE K Ek (eF (A3 n ds m) ta) σ H Q):AZY (spM K n m) dvs (AQA K Ek) (lA K Ek ta) σ H Q:=by
 obtain ⟨ρ,R,h⟩:=h
 refine ⟨ρ,R,A7 (Same.refl H) (fun x hx=>?_) (A5 h)⟩
 intro v H1 s1 rx
 unfold A3 at hx
 by_cases hl:x.length+ds.length=n
 ·rw[if_pos hl]at hx
  refine ⟨x++ds,rx.append (hd H1),by rw[List.length_append];exact hl,?_⟩
  cases e:m (x++ds) with
  | ok a=>rw[e]at hx;exact fun w' H3 s3=>hx w' H3 (s1.trans s3)
  | bad=>rw[e]at hx;exact hx
  | ex c fs =>
   rw[e]at hx
   have hf:=hex _ _ _ e
   subst hf
   exact fun H' C s3 hC=>⟨c,C,rfl,rfl,hC,hx H' (s1.trans s3)⟩
 ·rw[if_neg hl]at hx;exact hx.elim
theorem AUP:JSs X Ek [] B9:=PSs.weak ATJ fun D σ H h=>by
 obtain ⟨ρ,R,h⟩:=h
 exact h σ H (Same.refl H) R
theorem AQ4 {st:Stmt} {rest:List Stmt} {t u:FS} (h1:JS X Ek st t) (h2:JSs X Ek rest u):JSs X Ek (st::rest) (B2 t u):=by
 refine PSs.weak (V5 h1 h2) fun D σ H h=>?_
 obtain ⟨ρ,R,h⟩:=h
 refine ⟨ρ,R,?_⟩
 unfold B2 at h
 cases e:t ρ with
 | nx ρ' =>
  rw[e]at h
  exact fun σ' H' s' R'=>⟨ρ',R',K5 s' h⟩
 | rt a=>rw[e]at h;exact h
 | bk ρ'=>rw[e]at h;exact h
 | ct ρ'=>rw[e]at h;exact h
 | ex c fs=>rw[e]at h;exact h
 | bad=>rw[e]at h;exact h
theorem AUH {st:Stmt} {t:FS} (h1:JS X Ek st t):JSs X Ek [st] t:=AOH h1
theorem Ae4 {c:Expr} {a b:List Stmt} {tc:FT} {t u:FS} {pos:Pos} (hc:JT X Ek c tc) (ha:JSs X Ek a t) (hb:JSs X Ek b u):JS X Ek (.If c a b pos) (sIf tc t u):=by
 refine PS.weak (Ad8 hc ha hb) fun D σ H h=>?_
 obtain ⟨ρ,R,h⟩:=h
 refine ⟨ρ,R,A7 (Same.refl H) (fun k hk=>?_) (Q2 h)⟩
 intro H1 s1
 cases k with
 | true=>rw[if_pos rfl];exact ⟨ρ,R.mono s1,K5 s1 hk⟩
 | false=>rw[if_neg Bool.false_ne_true];exact ⟨ρ,R.mono s1,K5 s1 hk⟩
theorem AYD {e:Expr} {t:FE} {pos:Pos} (he:JE X Ek e t):JS X Ek (.Return (some e) pos) (D2 t):=by
 refine PS.weak (AaQ he) fun D σ H h=>?_
 obtain ⟨ρ,R,h⟩:=h
 exact ⟨ρ,R,A7 (Same.refl H) (fun a ha=>ha) (Q2 h)⟩
theorem AU3 {e:Expr} {t:FE} {pos:Pos} (he:JE X Ek e t) (hs:swapsWith e none pos.line X.env=pure false):JS X Ek (.Expr e pos) (ACX t):=by
 refine PS.weak (AM7 he hs) fun D σ H h=>?_
 obtain ⟨ρ,R,h⟩:=h
 exact ⟨ρ,R,A7 (Same.refl H) (fun a ha v H1 s1 _=>ha σ H1 s1 (R.mono s1)) (Q2 h)⟩
theorem ATU {i:Nat} {x:Str} {pos:Pos} (hN:X.N.Nodup) (hi:X.N[i]?=some x) (hx:Loc X.env.scope x) (hf:X.fn x=true∨X.env.scope.names.lookup x=some .local):JG X (.Name x pos) (gName i):=by
 refine PG.weak (AV2 hN hi hx hf) fun v σ H Q h=>?_
 obtain ⟨t,ρ,ρ',r,R,e,q⟩:=h
 have e':ρ.set i (some t)=ρ':=Option.some.inj e
 subst e'
 exact q _ (R.set i r)
theorem AW7:JGs X [] []:=by
 refine PGs.weak AWM fun vs σ H Q h=>?_
 obtain ⟨ts,ρ,ρ',r,R,e,q⟩:=h
 cases ts with
 | nil =>
  unfold RepL at r
  have e':ρ=ρ':=Option.some.inj e
  subst e'
  exact ⟨r,q σ R⟩
 | cons a b=>cases e
theorem ARU {e:Expr} {es:List Expr} {g:FG} {gs:List FG} (h1:JG X e g) (h2:JGs X es gs) (hs:(assignEach (e::es) X.env).map (·.2)=assign e X.env::(assignEach es X.env).map (·.2)):JGs X (e::es) (g::gs):=by
 refine PGs.weak (AS5 h1 h2 hs) fun vs σ H Q h=>?_
 obtain ⟨ts,ρ,ρ',r,R,e,q⟩:=h
 cases ts with
 | nil=>cases e
 | cons a b =>
  unfold RepL at r
  obtain ⟨v,vr,rfl,r1,r2⟩:=r
  have e':(g a ρ).bind (fun ρ1=>AP3 gs b ρ1)=some ρ':=e
  cases e1:g a ρ with
  | none=>rw[e1]at e';cases e'
  | some ρ1 =>
   rw[e1]at e'
   exact ⟨v,vr,rfl,a,ρ,ρ1,r1,R,e1,fun σ1 R1=>⟨b,ρ1,ρ',r2,R1,e',q⟩⟩
theorem AC2:∀{gs:List FG} {ts:List T} {ρ ρ':Ev},AP3 gs ts ρ=some ρ'→ts.length=gs.length
 | [],[],_,_,_=>rfl
 | [],_::_,_,_,e=>by cases e
 | _::_,[],_,_,e=>by cases e
 | g::gs,t::ts,ρ,ρ',e=>by
  have e':(g t ρ).bind (fun ρ1=>AP3 gs ts ρ1)=some ρ':=e
  cases e1:g t ρ with
  | none=>rw[e1]at e';cases e'
  | some ρ1 =>
   rw[e1]at e'
   rw[List.length_cons,List.length_cons,AC2 e']
theorem AbK {es:List Expr} {k:Nat} {gs:List FG} {pos:Pos} (hc:X.calm=true) (h:JGs X es gs) (hn:(assignEach es X.env).length=gs.length) (hst:(assignEach es X.env).findIdx? (·.1)=none):JG X (.Tuple es k pos) (Tr.gTup gs):=by
 refine PG.weak (AXK hc h hn hst) fun v σ H Q h=>?_
 obtain ⟨t,ρ,ρ',r,R,e,q⟩:=h
 cases t with
 | tuple ts =>
  unfold Rep at r
  obtain ⟨a,vs,rfl,hq,l⟩:=r
  have e':AP3 gs ts ρ=some ρ':=e
  exact ⟨a,vs,rfl,hq,by rw[l.length];exact AC2 e',ts,ρ,ρ',l,R,e',q⟩
 | _=>cases e
theorem AZS {tg e:Expr} {t:FE} {g:FG} {pos:Pos} (he:JE X Ek e t) (hg:JG X tg g) (hs:swapsWithSole [tg] e pos.line X.env=pure false) (hw:swappedStores [tg] e X.env=pure none)
  (h1:(assignEach [tg] X.env).map (·.2)=[assign tg X.env]):JS X Ek (.Assign [tg] e pos) (C0 g t):=by
 refine PS.weak (ATH he hg hs hw h1) fun D σ H h=>?_
 obtain ⟨ρ,R,h⟩:=h
 refine ⟨ρ,R,A7 (Same.refl H) (fun a ha=>?_) (Q2 h)⟩
 intro v H1 s1 ra
 cases e1:g a ρ with
 | none=>rw[e1]at ha;exact ha.elim
 | some ρ' =>
  rw[e1]at ha
  exact ⟨a,ρ,ρ',ra,R.mono s1,e1,fun σ' R'=>ha σ' H1 s1 R'⟩
theorem AZK {i:Nat} {x:Str} {e:Expr} {t:FE} {pos pos':Pos} (hN:X.N.Nodup) (hi:X.N[i]?=some x) (hx:Loc X.env.scope x) (he:JE X Ek e t) (hs:swapsWith e (some (.Name x pos')) pos.line X.env=pure false) (hf:X.fn x=true∨X.env.scope.names.lookup x=some .local) :
  JS X Ek (.Assign [.Name x pos'] e pos) (C0 (gName i) t):=by
 refine PS.weak (AP0 hN hi hx he hs hf) fun D σ H h=>?_
 obtain ⟨ρ,R,h⟩:=h
 refine ⟨ρ,R,A7 (Same.refl H) (fun a ha=>?_) (Q2 h)⟩
 intro v H1 s1 ra
 exact ha _ H1 s1 ((R.mono s1).set i ra)
def u6 (i j:Nat) (a:FA):FS:=fun ρ=>N3 (a ρ) fun ts=>match ts with
 | [x,y]=>.nx ((ρ.set i (some x)).set j (some y))
 | _=>.bad
theorem AXN {i j:Nat} {x y:Str} {a b:Expr} {ta:FA} {px py pt pos:Pos} {kt k2 pt2} (hc:X.calm=true) (hN:X.N.Nodup) (hi:X.N[i]?=some x) (hj:X.N[j]?=some y) (hij:i≠j)
  (hx:X.env.scope.names.lookup x=some .local) (hy:X.env.scope.names.lookup y=some .local) (ha:JA X Ek [a,b] ta)
  (hw:swappedStores [.Tuple [.Name x px,.Name y py] kt pt] (.Tuple [a,b] k2 pt2) X.env=pure (some [x,y]))
  (hs:swapsWithSole [.Tuple [.Name x px,.Name y py] kt pt] (.Tuple [a,b] k2 pt2) pos.line X.env=pure false) :
  JS X Ek (.Assign [.Tuple [.Name x px,.Name y py] kt pt] (.Tuple [a,b] k2 pt2) pos) (u6 i j ta):=by
 refine PS.weak (AYE hc hN hi hj hij hx hy ha hw hs) fun D σ H h=>?_
 obtain ⟨ρ,R,h⟩:=h
 refine ⟨ρ,R,A7 (Same.refl H) (fun ts hts=>?_) (Q2 h)⟩
 intro vs H1 s1 rl
 match ts,hts,rl with
 | [p,q],hts,rl =>
  unfold RepL at rl
  obtain ⟨v,r,rfl,r1,rl⟩:=rl
  unfold RepL at rl
  obtain ⟨u,r',rfl,r2,rl⟩:=rl
  unfold RepL at rl
  subst rl
  exact ⟨v,u,rfl,hts _ H1 s1 (((R.mono s1).set i r1).set j r2)⟩
theorem ARW {c:Expr} {body:List Stmt} {tc:FT} {tb:FS} {pos:Pos} (hp:PassesOwn (model X.prog X.w) X.A X.env X.xe) (hc:JT X Ek c tc) (hb:JSs X Ek body tb):JS X Ek (.While c body [] pos) (Y6 tc tb):=by
 refine PS.weak (APX hp hc hb) fun D σ H h=>?_
 obtain ⟨ρ,R,h⟩:=h
 have ex:∃r n,E5 tc tb n ρ=some r:=by
  by_cases q:∃r n,E5 tc tb n ρ=some r
  ·exact q
  ·rw[AKC (fun r n e=>q ⟨r,n,e⟩)]at h;exact h.elim
 obtain ⟨r,n,e⟩:=ex
 rw[y8 e]at h
 refine ⟨fun m σ H=>∃ρ r,RepEnv X.K H ρ σ∧E5 tc tb m ρ=some r∧lSR X.K Ek D H r,⟨n,ρ,r,R,e,h⟩,?_⟩
 rintro m σ H ⟨ρ,r,R,e,h⟩
 cases m with
 | zero=>simp[E5]at e
 | succ m =>
  refine ⟨ρ,R,?_⟩
  rw[E5]at e
  cases ec:tc ρ with
  | bad =>
   simp only[ec]at e
   cases e
   exact h
  | ex c fs =>
   simp only[ec]at e
   cases e
   exact h
  | ok k =>
   intro H1 s1
   cases k with
   | false =>
    simp only[ec]at e
    cases e
    rw[if_neg Bool.false_ne_true]
    exact h σ H1 s1 (R.mono s1)
   | true =>
    simp only[ec]at e
    rw[if_pos rfl]
    refine ⟨fun σ' H'=>∃ρ',RepEnv X.K H' ρ' σ'∧E5 tc tb m ρ'=some r∧lSR X.K Ek D H' r,fun σ' H' ⟨ρ',R',e',h'⟩=>⟨m,Nat.lt_succ_self m,ρ',r,R',e',h'⟩,ρ,R.mono s1,?_⟩
    cases eb:tb ρ with
    | nx ρ2 =>
     simp only[eb]at e
     exact fun σ2 H2 s2 R2=>⟨ρ2,R2,e,K5 (s1.trans s2) h⟩
    | ct ρ2 =>
     simp only[eb]at e
     exact fun σ2 H2 s2 R2=>⟨ρ2,R2,e,K5 (s1.trans s2) h⟩
    | bk ρ2 =>
     simp only[eb]at e
     cases e
     exact fun σ2 H2 s2 R2=>h σ2 H2 (s1.trans s2) R2
    | rt a =>
     simp only[eb]at e
     cases e
     exact fun σ2 H2 s2 R2=>h σ2 H2 (s1.trans s2) R2
    | ex c fs =>
     simp only[eb]at e
     cases e
     exact fun H2 s2=>h H2 (s1.trans s2)
    | bad =>
     simp only[eb]at e
     cases e
     exact h
end
abbrev FI:=Ev→R (List T)
def w9 (K:PySem.W.Frag) (J:It) (ts:List T) (H:Hp):Prop :=
 ∀(i:Nat) (H2:Hp),Same H H2→(∀t,ts[i]?=some t→J.go i H2∧∀x H3,J.yld i H2 x H3→Same H2 H3∧Rep K H3 t x)∧(ts.length≤i→J.stop i H2)
def lI (K:PySem.W.Frag) (Ek:EK) (t:FI):TI:=fun σ H R=>∃ρ,RepEnv K H ρ σ∧wR Ek H (t ρ) fun ts=>∀J H',Same H H'→w9 K J ts H'→R J H'
abbrev JI (X:Cx) (Ek:EK) (tg iter:Expr) (t:FI):Prop:=PI X tg iter (lI X.K Ek t)
theorem PI.weak {X:Cx} {tg e:Expr} {t t':TI} (h:PI X tg e t) (w:∀σ H Q,t' σ H Q→t σ H Q):PI X tg e t':=fun pins s σ H Q I q=>h pins s σ H Q I (w σ H Q q)
section
variable {X:Cx} {Ek:EK} {tg:Expr}
def A9:T→Option (List T)
 | .list ts=>some ts
 | _=>none
def L4:T→Option (List T)
 | .tuple ts=>some ts
 | _=>none
def iOf (f:T→Option (List T)) (e:FE):FI:=fun ρ=>(e ρ).bind fun t=>.of (f t)
theorem AWK {l:Expr} {t:FE} (hl:JE X Ek l t):JI X Ek tg l (iOf A9 t):=by
 refine PI.weak (ANI hl) fun σ H Q h=>?_
 obtain ⟨ρ,R,h⟩:=h
 refine ⟨ρ,R,A7 (Same.refl H) (fun x hx=>?_) (A5 h)⟩
 intro v H1 s1 rx
 obtain ⟨ts,e,q⟩:=Q5 hx
 cases x with
 | list xs =>
  have e':xs=ts:=Option.some.inj e
  subst e'
  unfold Rep at rx
  obtain ⟨a,vs,rfl,hq,l⟩:=rx
  refine ⟨a,rfl,⟨vs,hq⟩,q _ H1 s1 fun i H2 s2=>⟨fun t ht=>?_,fun hi=>⟨vs,K6 s2 hq,by rw[l.length];exact hi⟩⟩⟩
  obtain ⟨v,e1,e2⟩:=l.get ht
  refine ⟨⟨vs,v,K6 s2 hq,e1⟩,fun x H3 y=>?_⟩
  obtain ⟨y1,y2⟩:=y
  have y3:=y2 vs (K6 s2 hq)
  rw[e1]at y3
  have y4:v=x:=Option.some.inj y3
  subst y4
  subst y1
  exact ⟨Same.refl _,Rep.mono s2 t v e2⟩
 | _=>cases e
theorem AZ6 {l:Expr} {t:FE} (hl:JE X Ek l t):JI X Ek tg l (iOf L4 t):=by
 refine PI.weak (AT0 hl) fun σ H Q h=>?_
 obtain ⟨ρ,R,h⟩:=h
 refine ⟨ρ,R,A7 (Same.refl H) (fun x hx=>?_) (A5 h)⟩
 intro v H1 s1 rx
 obtain ⟨ts,e,q⟩:=Q5 hx
 cases x with
 | tuple xs =>
  have e':xs=ts:=Option.some.inj e
  subst e'
  unfold Rep at rx
  obtain ⟨a,vs,rfl,hq,l⟩:=rx
  refine ⟨a,rfl,⟨vs,hq⟩,q _ H1 s1 fun i H2 s2=>⟨fun t ht=>?_,fun hi=>⟨vs,L6 s2 hq,by rw[l.length];exact hi⟩⟩⟩
  obtain ⟨v,e1,e2⟩:=l.get ht
  refine ⟨⟨vs,v,L6 s2 hq,e1⟩,fun x H3 y=>?_⟩
  obtain ⟨y1,y2⟩:=y
  have y3:=y2 vs (L6 s2 hq)
  rw[e1]at y3
  have y4:v=x:=Option.some.inj y3
  subst y4
  subst y1
  exact ⟨Same.refl _,Rep.mono s2 t v e2⟩
 | _=>cases e
def L1 (lo:Int) (n:Nat):List T:=(List.range n).map fun (i:Nat)=>PyData.int (lo+(i:Int))
def AKS:List T→Option (List T)
 | [.int j]=>if -100000<j∧j<100000 then some (L1 0 j.toNat) else none
 | _=>none
def iN (f:List T→Option (List T)) (a:FA):FI:=fun ρ=>(a ρ).bind fun t=>.of (f t)
theorem Z3 {K:PySem.W.Frag} {lo:Int} {n:Nat} {H:Hp}:w9 K (Itr lo n) (L1 lo n) H:=by
 intro i H2 _
 refine ⟨fun t ht=>?_,fun hi=>?_⟩
 ·unfold L1 at ht
  rw[List.getElem?_map]at ht
  by_cases hi:i<n
  ·rw[List.getElem?_range hi]at ht
   have ht':PyData.int (lo+(i:Int))=t:=Option.some.inj ht
   subst ht'
   refine ⟨hi,fun x H3 y=>?_⟩
   obtain ⟨y1,rfl⟩:=y
   subst y1
   exact ⟨Same.refl _,C3⟩
  ·rw[List.getElem?_eq_none (by simpa using hi)]at ht;cases ht
 ·unfold L1 at hi
  rw[List.length_map,List.length_range]at hi
  exact hi
theorem AO2 {a:Expr} {t:FA} {p pos:Pos} (hg:Gl X "range") (hm:X.mg "range" = none) (ha:JA X Ek [a] t) (hs:starEach [a] X.env=[(false,eval a X.env)]):JI X Ek tg (.Call (.Name "range" p) [a] [] pos) (iN AKS t):=by
 refine PI.weak (AGU hg hm ha hs) fun σ H Q h=>?_
 obtain ⟨ρ,R,h⟩:=h
 refine ⟨ρ,R,A7 (Same.refl H) (fun x hx=>?_) (A5 h)⟩
 intro vs H1 s1 rx
 obtain ⟨ts,e,q⟩:=Q5 hx
 match x,e,rx with
 | [.int j],e,rx =>
  unfold RepL at rx
  obtain ⟨v,r,rfl,r1,rx⟩:=rx
  unfold RepL at rx
  subst rx
  unfold Rep at r1
  subst r1
  have e':(if -100000<j∧j<100000 then some (L1 0 j.toNat) else none)=some ts:=e
  by_cases hj:-100000<j∧j<100000
  ·rw[if_pos hj]at e'
   have e'':=Option.some.inj e'
   subst e''
   exact ⟨j,rfl,by omega,by omega,q _ H1 s1 Z3⟩
  ·rw[if_neg hj]at e';cases e'
def AGA (it:FI) (g:FG) (body:FS):FS:=fun ρ=>N3 (it ρ) fun ts=>AD5 g body ts ρ
theorem AZ0 {iter:Expr} {body:List Stmt} {it:FI} {g:FG} {tb:FS} {pos:Pos} (hp:PassesOwn (model X.prog X.w) X.A X.env X.xe) (hc:X.calm=true) (hi:JI X Ek tg iter it) (hg:JG X tg g) (hb:JSs X Ek body tb)
  (hs:∀x,foldedSetIterable iter X.env x=pure x):JS X Ek (.For tg iter body [] pos) (AGA it g tb):=by
 refine PS.weak (ATF hp hc hi hg hb hs) fun D σ H h=>?_
 obtain ⟨ρ,R,h⟩:=h
 refine ⟨ρ,R,A7 (Same.refl H) (fun ts hts=>?_) (Q2 h)⟩
 intro J H1 s1 it
 refine ⟨fun i m σ H=>m=ts.length-i∧i≤ts.length∧Same H1 H∧∃ρ,RepEnv X.K H ρ σ∧lSR X.K Ek D H (AD5 g tb (ts.drop i) ρ),⟨ts.length,by simp,Nat.zero_le _,Same.refl H1,ρ,R.mono s1,by rw[List.drop_zero];exact K5 s1 hts⟩,?_⟩
 rintro i m σ H ⟨rfl,hi,sH,ρ,R,h⟩
 by_cases hlt:i<ts.length
 ·refine .inr ?_
  have ht:ts[i]?=some ts[i]:=List.getElem?_eq_getElem hlt
  obtain ⟨go,yl⟩:=(it i H sH).1 _ ht
  refine ⟨go,fun σ' H'=>Same H1 H'∧∃ρ',RepEnv X.K H' ρ' σ'∧lSR X.K Ek D H' (AD5 g tb (ts.drop (i+1)) ρ'),fun σ' H' ⟨q1,q2⟩=>⟨ts.length-(i+1),by omega,rfl,hlt,q1,q2⟩,fun x H' y=>?_⟩
  obtain ⟨sy,rx⟩:=yl x H' y
  rw[List.drop_eq_getElem_cons hlt]at h
  rw[AD5]at h
  cases e:g ts[i] ρ with
  | none=>simp only[e]at h;exact h.elim
  | some ρ1 =>
   simp only[e]at h
   refine ⟨ts[i],ρ,ρ1,rx,R.mono sy,e,fun σ1 R1=>⟨ρ1,R1,?_⟩⟩
   cases eb:tb ρ1 with
   | nx ρ2=>simp only[eb]at h;exact fun σ2 H2 s2 R2=>⟨sH.trans (sy.trans s2),ρ2,R2,K5 (sy.trans s2) h⟩
   | ct ρ2=>simp only[eb]at h;exact fun σ2 H2 s2 R2=>⟨sH.trans (sy.trans s2),ρ2,R2,K5 (sy.trans s2) h⟩
   | bk ρ2=>simp only[eb]at h;exact K5 sy h
   | rt a=>simp only[eb]at h;exact K5 sy h
   | ex c fs=>simp only[eb]at h;exact K5 sy h
   | bad=>simp only[eb]at h;exact h
 ·refine .inl ⟨(it i H sH).2 (by omega),?_⟩
  rw[List.drop_eq_nil_of_le (by omega)]at h
  exact h σ H (Same.refl H) R
end
theorem n8 {env:Env}:∀(names:List (Str × NameKind)) (acc:List (Str × Addr)),(∀x,(x,NameKind.free)∈names→∃c,env.cells.lookup x=some c) →
  ∃cl,(forIn (m:=Sem) names acc fun y r=>if (y.2 == NameKind.free)=true then (do let c←cellOf env y.1;pure (ForInStep.yield ((y.1,c)::r))) else pure (ForInStep.yield r))=pure cl ∧
   (∀x c,cl.lookup x=some c→acc.lookup x=some c∨env.cells.lookup x=some c)∧(∀x,(x,NameKind.free)∈names→∃c,cl.lookup x=some c)∧∀x c,acc.lookup x=some c→∃d,cl.lookup x=some d
 | [],acc,_=>⟨acc,rfl,fun _ _ h=>.inl h,fun x h=>by simp at h,fun x c h=>⟨c,h⟩⟩
 | (n,k)::r,acc,h=>by
  by_cases hk:k=NameKind.free
  ·subst hk
   obtain ⟨c,hc⟩:=h n List.mem_cons_self
   obtain ⟨cl,e,h1,h2,h3⟩:=n8 r ((n,c)::acc) fun x hx=>h x (List.mem_cons_of_mem _ hx)
   refine ⟨cl,?_,fun x d q=>?_,fun x hx=>?_,fun x d q=>?_⟩
   ·rw[List.forIn_cons,←e]
    simp only[beq_self_eq_true,if_true,cellOf,hc]
    rfl
   ·rcases h1 x d q with z | z
    ·rw[List.lookup_cons]at z
     by_cases hx:x == n
     ·rw[hx]at z
      have z':c=d:=Option.some.inj z
      subst z'
      rw[eq_of_beq hx]
      exact .inr hc
     ·simp only[hx]at z
      exact .inl z
    ·exact .inr z
   ·rcases List.mem_cons.mp hx with z | z
    ·have z':x=n:=by cases z;rfl
     subst z'
     exact h3 x c (by simp[List.lookup_cons])
    ·exact h2 x z
   ·by_cases hx:x == n
    ·exact h3 x c (by rw[List.lookup_cons,hx])
    ·exact h3 x d (by rw[List.lookup_cons];simp only[hx];exact q)
  ·obtain ⟨cl,e,h1,h2,h3⟩:=n8 r acc fun x hx=>h x (List.mem_cons_of_mem _ hx)
   have hk':(k == NameKind.free)=false:=by simpa using hk
   refine ⟨cl,?_,h1,fun x hx=>?_,h3⟩
   ·rw[List.forIn_cons,←e]
    simp only[hk',Bool.false_eq_true,if_false]
    rfl
   ·rcases List.mem_cons.mp hx with z | z
    ·exact absurd (by cases z;rfl) hk
    ·exact h2 x z
theorem ADU {scope:Scope} {env:Env} (h:∀x,(x,NameKind.free)∈scope.names→∃c,env.cells.lookup x=some c) :
  ∃cl,closureFor scope env=pure cl∧(∀x c,cl.lookup x=some c→env.cells.lookup x=some c)∧∀x,(x,NameKind.free)∈scope.names→∃c,cl.lookup x=some c:=by
 obtain ⟨cl,e,h1,h2,_⟩:=n8 scope.names [] h
 refine ⟨cl,?_,fun x c q=>(h1 x c q).elim (fun z=>by simp at z) id,h2⟩
 unfold closureFor
 simp only[bind_pure]
 exact e
def B8 (X:Cx) (scope:Scope) (cl:List (Str × Addr)) (C:Addr) (Nc:List Str) (s:Shared) (H:Hp) (fp:List Addr):Cx :=
 {X with N:=Nc,s₀:=s,H₀:=H,env:=compEnvC scope cl C X.env,outer:=X.stack,ex:=fp,fn:=fun _=>false,calm:=true,pn:=[],xe:=fun _ _=>False}
abbrev Ek0:EK:=fun _ _ _=>False
def G1 {α:Type} (sel:List (Option Nat)) (σ:List (Option α)):List (Option α):=sel.map fun o=>o.bind fun j=>(σ[j]?).join
def E2 (it:FI) (sel:List (Option Nat)) (g:FG) (test:FT) (te:FE):FE:=fun ρ=>(it ρ).bind fun ts =>
 if ts.length≤100000 then (C4 g test te (G1 sel ρ) ts).bind fun xs=>.ok (.list xs) else .bad
theorem X8 {env:Env}:∀{names:List (Str × NameKind)} {x:Str},names.lookup x=some .free →
  (names.map fun (n,k)=>if (k == NameKind.free&&env.scope.kind == .function&&env.kindOf n == some .cell) then (n,NameKind.cell) else (n,k)).lookup x=some .cell ∨
  (names.map fun (n,k)=>if (k == NameKind.free&&env.scope.kind == .function&&env.kindOf n == some .cell) then (n,NameKind.cell) else (n,k)).lookup x=some .free
 | [],_,h=>by simp at h
 | (n,k)::r,x,h=>by
  have ih:=@X8 env r x
  rw[List.map_cons]
  by_cases hx:(x == n)=true
  ·rw[List.lookup_cons,hx]at h
   have hk:k=.free:=Option.some.inj h
   subst hk
   dsimp only
   split
   ·exact .inl (by rw[List.lookup_cons,hx])
   ·exact .inr (by rw[List.lookup_cons,hx])
  ·have hx':(x == n)=false:=by simpa using hx
   rw[List.lookup_cons,hx']at h
   dsimp only
   split
   ·rw[List.lookup_cons,hx'];exact ih h
   ·rw[List.lookup_cons,hx'];exact ih h
theorem P3 {env:Env}:∀{names:List (Str × NameKind)} {x:Str} {k':NameKind},(k'=.cell∨k'=.free)→(names.map fun (n,k)=>if (k == NameKind.free&&env.scope.kind == .function&&env.kindOf n == some .cell) then (n,NameKind.cell) else (n,k)).lookup x=some k' →
  (x,NameKind.cell)∈names∨(x,NameKind.free)∈names
 | [],_,_,_,h=>by simp at h
 | (n,k)::r,x,k',hk,h=>by
  have ih:=@P3 env r x k' hk
  rw[List.map_cons]at h
  by_cases hx:(x == n)=true
  ·have hxn:x=n:=eq_of_beq hx
   subst hxn
   dsimp only at h
   split at h
   ·rename_i hc
    have:k=.free:=by
     have:=(Bool.and_eq_true_iff.mp (Bool.and_eq_true_iff.mp hc).1).1
     simpa using this
    subst this
    exact .inr List.mem_cons_self
   ·rw[List.lookup_cons,hx]at h
    have hk2:k=k':=Option.some.inj h
    subst hk2
    rcases hk with rfl | rfl
    ·exact .inl List.mem_cons_self
    ·exact .inr List.mem_cons_self
  ·have hx':(x == n)=false:=by simpa using hx
   have h':(r.map fun (n,k)=>if (k == NameKind.free&&env.scope.kind == .function&&env.kindOf n == some .cell) then (n,NameKind.cell) else (n,k)).lookup x=some k':=by
    dsimp only at h
    split at h
    ·rw[List.lookup_cons,hx']at h;exact h
    ·rw[List.lookup_cons,hx']at h;exact h
   exact (ih h').imp (List.mem_cons_of_mem _) (List.mem_cons_of_mem _)
theorem AD9 {fs ex:List Addr} {H H1:Hp} {h h1 h2:Heap} {C:Addr} (u:Un fs ex H H1 h h1) (hC:h.get? C=none) (k:∀b o,b≠C→h1.get? b=some o→h2.get? b=some o):Un fs ex H H1 h h2:=by
 have ne:∀b o,h.get? b=some o→b≠C:=fun b o e z=>by rw[z,hC]at e;cases e
 exact ⟨fun b o e n hb hx=>k b o (ne b o e) (u.keep b o e n hb hx),fun b o e n hb hx=>let ⟨sl,q⟩:=u.slot b o e n hb hx;⟨sl,k b _ (ne b o e) q⟩,u.free,fun b o e hx=>let ⟨o',q⟩:=u.there b o e hx;⟨o',k b o' (ne b o e) q⟩,u.tups,u.frzs,u.tbls⟩
def JTs (X:Cx) (Ek:EK) (ifs:List Expr) (t:FT):Prop :=
 ∀(pins:List (Addr × Obj)) (s:Shared) (σ:St) (H:Hp) (Q:Bool→Hp→Prop),Inv X pins σ H s→lT X.K Ek t σ H Q →
  wpAny (model X.prog X.w) X.A (forIn ifs true fun c r=>if r=true then do let ok←isTrue c X.env (eval c X.env);pure (ForInStep.yield ok) else pure (ForInStep.yield r)) (TP X pins σ Q) X.xe s
theorem AV7 {X:Cx} {Ek:EK}:JTs X Ek [] (fun _=>.ok true):=fun pins s σ H Q I h=>by
 obtain ⟨ρ,R,h⟩:=h
 exact wpAny_tests_nil ⟨H,I,h H (Same.refl H)⟩
theorem AUI {X:Cx} {Ek:EK} {c:Expr} {t:FT} (h:JT X Ek c t):JTs X Ek [c] t:=fun pins s σ H Q I q=>wpAny_tests_one (h pins s σ H Q I q)
theorem APC {prog:Program} {w:World} {A:Around} {R:Result→Shared→Prop} {s:Shared} {elt target iter:Expr} {ifs:List Expr} {scope:Scope} {pos:Pos} {it acc:Value} {env:Env} (I:Nat→Shared→Prop)
  (turn:∀n s,I n s→∃E0:Value→Shared→Prop,(∀e s',E0 e s'→False)∧wpAny (model prog w) A (pyNext it) (fun r s₁=>match r with
   | none=>R (.ok .next) s₁
   | some v=>wpAny (model prog w) A (letOwnedTupleGo target it v) (fun _ s₁'=>wpAny (model prog w) A (assign target env v) (fun _ s₂ =>
     wpAny (model prog w) A (forIn ifs true fun c r=>if r=true then do let ok←isTrue c env (eval c env);pure (ForInStep.yield ok) else pure (ForInStep.yield r)) (fun ok s₃ =>
      if ok=true then wpAny (model prog w) A (eval elt env) (fun x s₄=>wpAny (model prog w) A (call (.builtin "list.append") [acc,x]) (fun _ s₅=>∃m,m<n∧I m s₅) E0 s₄) E0 s₃
      else ∃m,m<n∧I m s₃) E0 s₂) E0 s₁') E0 s₁) E0 s)
  (n:Nat) (h:I n s):codeAny (model prog w) A (.compLoop (.ListComp elt [⟨target,iter,ifs,0⟩] scope pos) 0 it acc env) R s:=by
 refine codeAny_loop rfl I (fun n s hI=>?_) n h
 obtain ⟨E0,no,tn⟩:=turn n s hI
 show wpAny _ A ((compTurn (.ListComp elt [⟨target,iter,ifs,0⟩] scope pos) 0 it acc env).onRaise (fun x=>do noteFrame x env;theTreesLotGoes x)) _ _ s
 have fl:∀{E1:Value→Shared→Prop} (e:Value) (s':Shared),E0 e s'→E1 e s':=fun e s' z=>(no e s' z).elim
 refine wpAny_noted ?_
 rw[compTurn_list]
 refine wpAny_bind (wpAny_standAt (wpAny_bind (wpAny_mono tn (fun r s₁ h₁=>?_) fl)))
 cases r with
 | none=>exact wpAny_pure h₁
 | some v =>
  refine wpAny_bind (wpAny_mono h₁ (fun _ s₁' h₁'=>wpAny_bind (wpAny_mono h₁' (fun _ s₂ h₂=>wpAny_bind (wpAny_mono h₂ (fun ok s₃ h₃=>?_) fl)) fl)) fl)
  cases ok with
  | false=>exact wpAny_pure ⟨rfl,h₃⟩
  | true=>exact wpAny_bind (wpAny_bind (wpAny_mono h₃ (fun x s₄ h₄=>wpAny_bind (wpAny_mono h₄ (fun _ s₅ h₅=>wpAny_pure (wpAny_pure ⟨rfl,h₅⟩)) fl)) fl))
section
variable {X:Cx} {Ek:EK}
def AeF (X:Cx) (pins:List (Addr × Obj)) (σ:St) (Q:VK) (use:Option (Value→Sem Unit)) (QQ:Value→Shared→Prop):Prop :=
 ∀(acc:Value) (C:Addr) (s':Shared),X.env.locals≠C→(∀x c,X.env.cells.lookup x=some c→c≠C)→(∃m,s'.heap.Ns C m∧∀h',Heap.SameBut C s'.heap h'→EP X pins σ Q acc {s' with heap:=h'})→compPost (model X.prog X.w) X.A X.xe use QQ acc C (.ok .next) s'
def JCt (X:Cx) (elt:Expr) (gens:List Comprehension) (scope:Scope) (pos:Pos) (te:TE):Prop :=
 ∀(p0:Pos) (use:Option (Value→Sem Unit)) (QQ:Value→Shared→Prop) (pins:List (Addr × Obj)) (s:Shared) (σ:St) (H:Hp) (Q:VK),Inv X pins σ H s→te σ H Q→AeF X pins σ Q use QQ →
  wpAny (model X.prog X.w) X.A (comprehension (.ListComp elt gens scope pos) scope X.env p0 (newList []) (firstAsync gens) (firstIter gens X.env) use) QQ X.xe s
abbrev JC (X:Cx) (Ek:EK) (elt:Expr) (gens:List Comprehension) (scope:Scope) (pos:Pos) (t:FE):Prop:=JCt X elt gens scope pos (lE X.K Ek t)
def AVU (K:PySem.W.Frag) (H:Hp) (Q:VK):T→Prop
 | .list xs=>∀p H0 vs,Same H H0→H0 p=none→RepL K H0 xs vs→Q (.ref p) (upd H0 p (.lst vs))
 | _=>False
def lEF (K:PySem.W.Frag) (Ek:EK) (t:FE):TE:=fun σ H Q=>∃ρ,RepEnv K H ρ σ∧wR Ek H (t ρ) (AVU K H Q)
theorem Ad6 {elt:Expr} {gens:List Comprehension} {scope:Scope} {pos:Pos} {t:FE} (h:JCt X elt gens scope pos (lEF X.K Ek t)) (hl:∀ρ a,t ρ=.ok a→∃xs,a=.list xs):JC X Ek elt gens scope pos t:=fun p0 use QQ pins s σ H Q I q u=>by
 obtain ⟨ρ,R,q⟩:=q
 refine h p0 use QQ pins s σ H Q I ⟨ρ,R,?_⟩ u
 cases e:t ρ with
 | bad=>rw[e]at q;exact q
 | ex c fs=>rw[e]at q;exact q
 | ok a =>
  rw[e]at q
  obtain ⟨xs,rfl⟩:=hl ρ a e
  intro p H0 vs s0 n r
  have sm:=B0 n (.lst vs)
  refine q _ _ (s0.trans sm) ?_
  unfold Rep
  exact ⟨p,vs,rfl,SqL.of A8,RepL.mono sm xs vs r⟩
theorem AcE {elt:Expr} {gens:List Comprehension} {scope:Scope} {pos:Pos} {t:FE} (h:JC X Ek elt gens scope pos t):JE X Ek (.ListComp elt gens scope pos) t:=by
 intro pins s σ H Q I q
 rw[eval_ListComp]
 exact h _ none _ pins s σ H Q I q fun _ _ _ _ _ z=>z
inductive CLoop (Xc:Cx) (tn:Nat→Heap→Prop) (D:Addr) (fp:List Addr) (H2:Hp) (ρc:Ev) (len:Nat) (W:Nat→List T→Prop) (n:Nat) (s':Shared):Prop
 | mk (i:Nat) (Hs:Hp) (σs:St) (xs:List T) (ys:List V) (its:List Value) (hi:i≤len) (hn:n=len+1-i) (I:Inv Xc [] σs Hs s') (st:tn i s'.heap) (fr:∀b∈D::fp,Hs b=none)
   (pl:s'.heap.PlainList D its.toArray) (hv:Vals ys its) (rl:RepL Xc.K Hs xs ys) (sm:Same H2 Hs) (Rs:RepEnv Xc.K Hs ρc σs) (hw:W i xs):CLoop Xc tn D fp H2 ρc len W n s'
theorem ARI {elt tg iter:Expr} {ifs:List Expr} {scope:Scope} {pos:Pos} {Nc:List Str} {it:FI} {sel:List (Option Nat)} {g:FG} {test:FT} {te:FE}
  (hcalm:X.calm=true) (hi:JI X Ek tg iter it)
  (hfree:∀x,(x,NameKind.free)∈scope.names→X.env.kindOf x=some .cell∨X.env.kindOf x=some .free)
  (hcell:∀y∈scope.names,y.2≠.cell) (hkind:scope.kind=.function)
  (hnames:∀y∈scope.names,y.2=.local→scope.names.lookup y.1=some .local)
  (hlen:sel.length=Nc.length)
  (hsel:∀i j:Nat,sel[i]?=some (some j)→∃x,Nc[i]?=some x∧X.N[j]?=some x∧scope.names.lookup x=some .free)
  (hkeep:∀t ρ ρ1,g t ρ=some ρ1→ρ1.length=ρ.length∧∀i j:Nat,sel[i]?=some (some j)→ρ1[i]?=ρ[i]?)
  (hg:∀cl C s H fp,JG (B8 X scope cl C Nc s H fp) tg g)
  (ht:∀cl C s H fp,JTs (B8 X scope cl C Nc s H fp) Ek0 ifs test)
  (he:∀cl C s H fp,JE (B8 X scope cl C Nc s H fp) Ek0 elt te)
  (hs:∀x,foldedSetIterable iter X.env x=pure x) :
  JCt X elt [⟨tg,iter,ifs,0⟩] scope pos (lEF X.K Ek (E2 it sel g test te)):=by
 intro p0 use QQ pins s σ H Q I h hfin
 obtain ⟨ρ,R0,h⟩:=h
 have kindL:∀x,X.env.kindOf x=X.env.scope.names.lookup x:=fun x=>rfl
 obtain ⟨cl,hclos,hcl1,hcl2⟩:=ADU (scope:=scope) (env:=X.env) fun x hx=>I.ok.has x (hfree x hx)
 refine wpAny_comprehension_free (use:=use) rfl hs hclos hkind hnames ?_
 refine thn (hi pins s σ H _ I ⟨ρ,R0,A7 (Same.refl H) (fun ts hts J H' sH iO=>(⟨sH,ts,iO,hts⟩:Same H H'∧∃ts,w9 X.K J ts H'∧_)) (A5 h)⟩) fun v s1 h1=>thn h1 fun itv s2 h2=>?_
 obtain ⟨it',fp,tn,J,H2,rfl,I2,TT,st2,f2,sH,ts,iO,h⟩:=h2
 by_cases hts:ts.length≤100000
 ·rw[if_pos hts]at h
  have R2:RepEnv X.K H2 ρ σ:=R0.mono sH
  refine wpAny_newObj_type (wpAny_newFunctionEnv hcell (by intro y hy;simp at hy) (fun h₁ hns₁ hsb₁=>?_) hkind)
  dsimp only at hns₁ hsb₁ ⊢
  generalize hP:s2.heap.push {cls:=.type "list",dict:=none,data:=.seq ([]:List Value).toArray}=P2 at hns₁ hsb₁ ⊢
  have hC:P2.objs.size=s2.heap.objs.size+1:=by rw[←hP,Heap.size_push]
  have hDC:s2.heap.objs.size<P2.objs.size:=by rw[hC];exact Nat.lt_succ_self _
  have old:∀b o,s2.heap.get? b=some o→h₁.get? b=some o:=fun b o e=>by
   have hb:=Heap.lt_size e
   exact hsb₁.extBut b o (Nat.ne_of_lt (by rw[hC];exact Nat.lt_succ_of_lt hb)) (Heap.get?_push_of_some _ (hP▸Heap.get?_push_of_some _ e))
  have hD:h₁.get? s2.heap.objs.size=some {cls:=.type "list",dict:=none,data:=.seq ([]:List Value).toArray} :=
   hsb₁.extBut _ _ (Nat.ne_of_lt hDC) (Heap.get?_push_of_some _ (hP▸Heap.get?_push_size _ rfl))
  have freshD:H2 s2.heap.objs.size=none:=I2.hok.fresh (Nat.le_refl _)
  have freshC:H2 P2.objs.size=none:=I2.hok.fresh (by omega)
  have noC:s2.heap.get? P2.objs.size=none:=Heap.get?_none_of_le (by omega)
  let Xc:=B8 X scope cl P2.objs.size Nc s2 H2 fp
  have okc:Xc.Ok:=by
   refine ⟨I2.ok.mod,by show (relabel scope X.env).kind=_;exact hkind,I2.ok.glob,I2.ok.blt,by show s2.heap.objs.size≤P2.objs.size;omega,fun x y c h1 h2=>I2.ok.inj x y c (hcl1 x c h1) (hcl1 y c h2),fun x hx=>?_,fun x c h _=>(Bool.false_ne_true h).elim,fun _=>I2.ok.hd hcalm,I2.ok.frames,.inl rfl,fun b hb=>⟨?_,fun x c e z=>?_⟩,I2.bs,Nat.le_trans I2.ok.bsz I2.sz,fun b o e hb=>?_,fun b hb z=>?_,I2.stack,I2.stkFree⟩
   ·have hx':(relabel scope X.env).names.lookup x=some .cell∨(relabel scope X.env).names.lookup x=some .free:=hx
    have hm:(x,NameKind.cell)∈scope.names∨(x,NameKind.free)∈scope.names:=by
     rcases hx' with q | q
     ·exact P3 (.inl rfl) q
     ·exact P3 (.inr rfl) q
    rcases hm with q | q
    ·exact absurd rfl (hcell _ q)
    ·exact hcl2 x q
   ·obtain ⟨o,e,_⟩:=TT.obj 0 _ st2 b hb
    exact Nat.ne_of_lt (Nat.lt_trans (Heap.lt_size e) hDC)
   ·exact (f2 b hb).2.2.2.2.1 x c (hcl1 x c e) z
   ·rcases (f2 b hb).2.2.2.1 with z | z
    ·exact I2.ok.noex b o e z
    ·exact absurd (Nat.lt_of_lt_of_le (Heap.lt_size e) (Nat.le_trans I2.ok.bsz z)) (Nat.lt_irrefl _)
   ·rcases List.mem_cons.mp (I2.stkSub b z) with q | q
    ·exact (f2 b hb).2.1 q
    ·exact (f2 b hb).2.2.1 q
  have Ic:Inv Xc [] (G1 sel σ) H2 {s2 with heap:=h₁,toks:=s2.toks+([]:List (Str × Value)).length}:=by
   refine ⟨okc,rfl,I2.bare,Un.kept old,⟨_,hns₁,fun i x v e1 e2 e3=>?_⟩,fun x c e=>?_,?_,fun x c e=>?_,fun p hp=>absurd (show p∈([]:List (Addr × Obj)) from hp) (by simp),?_,?_⟩
   ·have e2':(sel[i]?).map (fun o=>o.bind fun j=>(σ[j]?).join)=some (some v):=by
     rw[←List.getElem?_map];exact e2
    cases es:sel[i]? with
    | none=>rw[es]at e2';cases e2'
    | some o =>
     rw[es]at e2'
     cases o with
     | none =>
      have:(none:Option V)=some v:=Option.some.inj e2'
      cases this
     | some j =>
      obtain ⟨x',n1,n2,n3⟩:=hsel i j es
      have hxx:x'=x:=by
       have e1':Nc[i]?=some x:=e1
       rw[n1]at e1';exact Option.some.inj e1'
      subst hxx
      have hσ:σ[j]?=some (some v):=by
       have q:(σ[j]?).join=some v:=Option.some.inj e2'
       cases z:σ[j]? with
       | none=>rw[z]at q;cases q
       | some w'=>rw[z]at q;have q':w'=some v:=q;rw[q']
      have kf:=hfree x' (PySem.mem_of_lookup n3)
      obtain ⟨m,hn,hl⟩:=I2.loc
      obtain ⟨u,ru,lk⟩:=hl j x' v n2 hσ (kf.elim (fun z=>.inr (.inl z)) fun z=>.inr (.inr z))
      refine ⟨u,ru,.inr ?_⟩
      rcases lk with ⟨kl,_⟩ | ⟨_,c,hc,hcc⟩
      ·rcases kf with z | z<;>(rw[z]at kl;cases kl)
      ·obtain ⟨d,hd⟩:=hcl2 x' (PySem.mem_of_lookup n3)
       have hd':=hcl1 x' d hd
       rw[hc]at hd'
       have hcd:c=d:=Option.some.inj hd'
       subst hcd
       refine ⟨?_,c,hd,?_⟩
       ·exact X8 n3
       ·obtain ⟨o,e,q⟩:=hcc
        exact ⟨o,old c o e,q⟩
   ·obtain ⟨v,o,e',q⟩:=I2.cell x c (hcl1 x c e)
    exact ⟨v,o,old c o e',q⟩
   ·exact freshC
   ·exact I2.freeC x c (hcl1 x c e)
   ·exact I2.hok.kept old
   ·show (G1 sel σ).length=Nc.length
    unfold G1
    rw[List.length_map];exact hlen
  have Rc:RepEnv X.K H2 (G1 sel ρ) (G1 sel σ):=by
   refine ⟨by unfold G1;rw[List.length_map,List.length_map],fun i t q=>?_⟩
   unfold G1 at q ⊢
   rw[List.getElem?_map]at q ⊢
   cases es:sel[i]? with
   | none=>rw[es]at q;cases q
   | some o =>
    rw[es]at q
    cases o with
    | none =>
     have:(none:Option T)=some t:=Option.some.inj q
     cases this
    | some j =>
     have q':(ρ[j]?).join=some t:=Option.some.inj q
     have hρ:ρ[j]?=some (some t):=by
      cases z:ρ[j]? with
      | none=>rw[z]at q';cases q'
      | some w'=>rw[z]at q';have q'':w'=some t:=q';rw[q'']
     obtain ⟨v,e1,e2⟩:=R2.get j t hρ
     refine ⟨v,?_,e2⟩
     show some ((σ[j]?).join)=some (some v)
     rw[e1];rfl
  have ltD:∀b∈fp,b<s2.heap.objs.size:=fun b hb=>by
   obtain ⟨o,e,_⟩:=TT.obj 0 _ st2 b hb
   exact Heap.lt_size e
  have cellLt:∀x c,cl.lookup x=some c→c<s2.heap.objs.size:=fun x c e=>by
   obtain ⟨v,o,e',q⟩:=I2.cell x c (hcl1 x c e)
   exact Heap.lt_size e'
  have notStk:s2.heap.objs.size ∉ frs X.stack:=fun z=>by
   rcases List.mem_cons.mp (I2.stkSub _ z) with q | q
   ·exact absurd q (Nat.ne_of_gt I2.lt)
   ·exact I2.nofs (Nat.le_refl _) q
  have stat:∀{H':Hp},(∀b∈s2.heap.objs.size::fp,H' b=none)→∀b∈s2.heap.objs.size::fp,AHB Xc [] H' b:=fun hn b hb=>by
   refine ⟨hn b hb,?_,fun z=>?_,?_,fun x c e z=>?_,fun p hp=>absurd (show p∈([]:List (Addr × Obj)) from hp) (by simp)⟩
   ·show b≠P2.objs.size
    rcases List.mem_cons.mp hb with q | q
    ·rw[q];exact Nat.ne_of_lt hDC
    ·exact Nat.ne_of_lt (Nat.lt_trans (ltD b q) hDC)
   ·rcases List.mem_cons.mp hb with q | q
    ·subst q;exact notStk z
    ·rcases List.mem_cons.mp (I2.stkSub b z) with y | y
     ·exact (f2 b q).2.1 y
     ·exact (f2 b q).2.2.1 y
   ·rcases List.mem_cons.mp hb with q | q
    ·exact .inr (by rw[q];exact Nat.le_refl _)
    ·exact .inl q
   ·rcases List.mem_cons.mp hb with q | q
    ·rw[q]at z;exact absurd z (Nat.ne_of_lt (cellLt x c e))
    ·exact (f2 b q).2.2.2.2.1 x c (hcl1 x c e) z
  have loop:codeAny (model X.prog X.w) X.A (.compLoop (.ListComp elt [⟨tg,iter,ifs,0⟩] scope pos) 0 (.ref it') (.ref s2.heap.objs.size) (compEnvC scope cl P2.objs.size X.env)) (compPost (model X.prog X.w) X.A X.xe use QQ (.ref s2.heap.objs.size) P2.objs.size)
    {s2 with heap:=h₁,toks:=s2.toks+([]:List (Str × Value)).length}:=by
   refine APC (CLoop Xc tn s2.heap.objs.size fp H2 (G1 sel ρ) ts.length fun i xs=>xs.length≤i∧wR Ek H (C4 g test te (G1 sel ρ) (ts.drop i)) fun zs=>AVU X.K H Q (.list (xs++zs))) ?_ (ts.length+1)
    ⟨0,H2,G1 sel σ,[],[],[],Nat.zero_le _,rfl,Ic,TT.keep _ _ _ st2 fun b _ o e=>old b o e,fun b hb=>?_,⟨_,hD⟩,.nil,C5,Same.refl H2,Rc,Nat.le_refl _,A5 h⟩
   ·rintro n s' ⟨i,Hs,σs,xs,ys,its,hi',rfl,Is,st,fr,hpl,hv,rl,sHs,Rs,hxl,hw⟩
    refine ⟨fun _ _=>False,fun _ _ z=>z,?_⟩
    by_cases hlt:i<ts.length
    ·have ht':ts[i]?=some ts[i]:=List.getElem?_eq_getElem hlt
     obtain ⟨go,yl⟩:=(iO i Hs sHs).1 _ ht'
     have Is':=Is.pinned (fp:=[s2.heap.objs.size]) (fun b hb=>stat fr b (by simp at hb;subst hb;exact List.mem_cons_self)) (fun b hb=>by
      simp at hb;subst hb
      obtain ⟨n,e⟩:=hpl
      exact ⟨_,e,fun v z=>by cases z⟩)
     obtain ⟨nA,eA⟩:=id hpl
     refine thn (TT.item Xc rfl rfl rfl rfl i _ s' σs Hs (fun _ _=>False) Is' (fun b hb=>?_) st go) fun r s4 ⟨u,hr,h4⟩=>?_
     ·obtain ⟨p1,p2,p3,p4,p5,p6⟩:=stat fr b (List.mem_cons_of_mem _ hb)
      refine ⟨p1,p2,p3,p4,p5,fun p hp z=>?_⟩
      have hp':p∈M5 [s2.heap.objs.size] s'.heap:=hp
      obtain ⟨q,_⟩:=O9 hp'
      have q':p.1=s2.heap.objs.size:=by simpa using q
      exact absurd (z.symm.trans q') (Nat.ne_of_lt (ltD b hb))
     subst hr
     refine thn h4 fun _ s5 ⟨x,H5,I5,r5,y5,st5,fr5⟩=>?_
     obtain ⟨sy5,rx⟩:=yl x H5 y5
     replace rl:=RepL.mono sy5 xs ys rl
     replace Rs:=Rs.mono sy5
     replace sHs:=sHs.trans sy5
     have pinA:=I5.pin (s2.heap.objs.size,_) (List.mem_append_right _ (List.mem_append_right _ (B1 (List.mem_singleton.mpr rfl) eA)))
     have fr5':∀b∈s2.heap.objs.size::fp,H5 b=none:=fun b hb=>by
      rcases List.mem_cons.mp hb with q | q
      ·rw[q];exact pinA.2.1
      ·exact fr5 b q
     have I5':=I5.unpinned.pinned (stat fr5') (fun b hb=>by
      rcases List.mem_cons.mp hb with q | q
      ·subst q;exact ⟨_,pinA.1,fun v z=>by cases z⟩
      ·exact TT.obj _ _ st5 b q)
     rw[List.drop_eq_getElem_cons hlt,C4]at hw
     cases eg:g ts[i] (G1 sel ρ) with
     | none=>simp only[eg]at hw;exact hw.elim
     | some ρ1 =>
      simp only[eg]at hw
      obtain ⟨kl,kk⟩:=hkeep _ _ _ eg
      refine thn (hg cl P2.objs.size s2 H2 fp _ s5 σs H5 x u (fun σ' H'=>H'=H5∧RepEnv X.K H5 ρ1 σ') I5' r5 ⟨ts[i],G1 sel ρ,ρ1,rx,Rs,eg,fun σ' R'=>⟨rfl,R'⟩⟩) fun _ s6 ⟨σ6,H6,I6,e6,R6⟩=>?_
      subst e6
      cases et:test ρ1 with
      | bad=>simp only[et]at hw;exact hw.elim
      | ex c fs=>simp only[et]at hw;exact hw.elim
      | ok k =>
       refine thn (ht cl P2.objs.size s2 H2 fp _ s6 σ6 H6 (fun b H'=>b=k∧Same H6 H') I6 ⟨ρ1,R6,by rw[et];exact fun H' sm=>⟨rfl,sm⟩⟩) fun b s7 ⟨H7,I7,eb,s67⟩=>?_
       subst eb
       have back:∀{H8:Hp},Same H6 H8→RepEnv X.K H8 (G1 sel ρ) σ6:=fun {H8} sm=>by
        refine ⟨by rw[←kl];exact R6.len,fun a t q=>?_⟩
        have hsl:∃j,sel[a]?=some (some j):=by
         unfold G1 at q
         rw[List.getElem?_map]at q
         cases es:sel[a]? with
         | none=>rw[es]at q;cases q
         | some o =>
          cases o with
          | none =>
           rw[es]at q
           have:(none:Option T)=some t:=Option.some.inj q
           cases this
          | some j=>exact ⟨j,rfl⟩
        obtain ⟨j,hj⟩:=hsl
        obtain ⟨v,e1,e2⟩:=R6.get a t (by rw[kk a j hj];exact q)
        exact ⟨v,e1,Rep.mono sm t v e2⟩
       have keepA:∀{s8:Shared} {H8:Hp},Inv Xc ([]++M5 (s2.heap.objs.size::fp) s5.heap) σ6 H8 s8→tn (i+1) s8.heap∧(∀b∈s2.heap.objs.size::fp,H8 b=none)∧s8.heap.PlainList s2.heap.objs.size its.toArray:=fun {s8 H8} I8=>by
        refine ⟨TT.keep _ _ _ st5 fun b hb o e=>(I8.pin (b,o) (List.mem_append_right _ (List.mem_append_right _ (B1 (List.mem_cons_of_mem _ hb) e)))).1,fun b hb=>?_,nA,(I8.pin (s2.heap.objs.size,_) (List.mem_append_right _ (List.mem_append_right _ (B1 List.mem_cons_self pinA.1)))).1⟩
        rcases List.mem_cons.mp hb with q | q
        ·subst q;exact (I8.pin (s2.heap.objs.size,_) (List.mem_append_right _ (List.mem_append_right _ (B1 List.mem_cons_self pinA.1)))).2.1
        ·obtain ⟨o,e,d⟩:=TT.obj _ _ st5 b q
         exact (I8.pin (b,o) (List.mem_append_right _ (List.mem_append_right _ (B1 hb e)))).2.1
       cases b with
       | false =>
        rw[if_neg Bool.false_ne_true]
        simp only[et]at hw
        obtain ⟨k1,k2,k3⟩:=keepA I7
        exact ⟨ts.length+1-(i+1),by omega,i+1,H7,σ6,xs,ys,its,hlt,rfl,I7.unpinned,k1,k2,k3,hv,RepL.mono s67 xs ys rl,sHs.trans s67,back s67,by omega,hw⟩
       | true =>
        rw[if_pos rfl]
        simp only[et]at hw
        cases ee:te ρ1 with
        | bad=>simp only[ee]at hw;exact hw.elim
        | ex c fs=>simp only[ee]at hw;exact hw.elim
        | ok y =>
         simp only[ee]at hw
         refine thn (he cl P2.objs.size s2 H2 fp _ s7 σ6 H7 (fun v H'=>Same H7 H'∧Rep X.K H' y v) I7 ⟨ρ1,R6.mono s67,by rw[ee];exact fun v H' sm r=>⟨sm,r⟩⟩) fun u8 s8 ⟨v8,H8,I8,r8,s78,rp⟩=>?_
         obtain ⟨k1,k2,k3⟩:=keepA I8
         have lens:its.length=xs.length:=by rw[←hv.length,rl.length]
         refine wpAny_list_append_plain (hsz:=by rw[List.size_toArray];have:sizeLine=16777216:=sizeLine_eq;omega) k3 fun h9 hl9 hs9=>?_
         have I9:Inv Xc [] σ6 H8 {s8 with heap:=h9}:=by
          obtain ⟨p1,p2,p3,p4,p5,p6⟩:=stat k2 s2.heap.objs.size List.mem_cons_self
          exact I8.unpinned.turned (t':=s8.toks) (fun b o hb e=>hs9.extBut b o hb e) p1 p2 p4 p5 p6
         refine ⟨ts.length+1-(i+1),by omega,i+1,H8,σ6,xs++[y],ys++[v8],its++[u8],hlt,rfl,I9,TT.keep _ _ _ k1 fun b hb o e=>hs9.extBut b o (Nat.ne_of_lt (ltD b hb)) e,k2,by simpa using hl9,hv.append (.cons r8 .nil),(RepL.mono (s67.trans s78) xs ys rl).append (B6 rp C5),sHs.trans (s67.trans s78),back (s67.trans s78),by rw[List.length_append,List.length_singleton];omega,?_⟩
         refine A7 (Same.refl H) (fun zs hz=>?_) (A5 hw)
         have hz':AVU X.K H Q (.list (xs++(y::zs))):=hz
         show AVU X.K H Q (.list (xs++[y]++zs))
         rw[List.append_assoc]
         exact hz'
    ·have ei:i=ts.length:=by omega
     have Is':=Is.pinned (fp:=[s2.heap.objs.size]) (fun b hb=>stat fr b (by simp at hb;subst hb;exact List.mem_cons_self)) (fun b hb=>by
      simp at hb;subst hb
      obtain ⟨n,e⟩:=hpl
      exact ⟨_,e,fun v z=>by cases z⟩)
     obtain ⟨nA,eA⟩:=id hpl
     refine thn (TT.done Xc rfl rfl rfl rfl i _ s' σs Hs (fun _ _=>False) Is' (fun b hb=>?_) st ((iO i Hs sHs).2 (by omega))) fun r s4 ⟨hr,I4⟩=>?_
     ·obtain ⟨p1,p2,p3,p4,p5,p6⟩:=stat fr b (List.mem_cons_of_mem _ hb)
      refine ⟨p1,p2,p3,p4,p5,fun p hp z=>?_⟩
      have hp':p∈M5 [s2.heap.objs.size] s'.heap:=hp
      obtain ⟨q,_⟩:=O9 hp'
      have q':p.1=s2.heap.objs.size:=by simpa using q
      exact absurd (z.symm.trans q') (Nat.ne_of_lt (ltD b hb))
     subst hr
     have pinA:=I4.pin (s2.heap.objs.size,_) (List.mem_append_right _ (List.mem_append_right _ (B1 (List.mem_singleton.mpr rfl) eA)))
     obtain ⟨m,hn,_⟩:=I4.loc
     refine hfin _ _ _ (Nat.ne_of_lt (Nat.lt_trans I2.lt hDC)) (fun x c e=>by
      obtain ⟨v,o,e',q⟩:=I2.cell x c e
      exact Nat.ne_of_lt (Nat.lt_trans (Heap.lt_size e') hDC)) ⟨m,hn,fun h' sb=>?_⟩
     have k:∀b o,b≠P2.objs.size→s4.heap.get? b=some o→h'.get? b=some o:=fun b o hb e=>sb.extBut b o hb e
     have un0:Un (frs X.stack) fp H2 Hs s2.heap h':=AD9 I4.base noC k
     have freeC':Hs P2.objs.size=none:=I4.free
     have hok0:HOk X.prog X.w Hs h':=fun b u e=>by
      refine (I4.hok b u e).stay (fun c v hc q=>k c v ?_ q) (fun _ q=>q) fun _ _ q=>q
      rcases hc with z | z
      ·rw[z];intro y;rw[y,freeC']at e;cases e
      ·intro y;rw[y,freeC']at z;cases z
     have freeD:Hs s2.heap.objs.size=none:=fr _ List.mem_cons_self
     have eD:h'.get? s2.heap.objs.size=some {cls:=.type "list",data:=.seq its.toArray nA}:=k _ _ (Nat.ne_of_lt hDC) pinA.1
     have neD:∀b o,s2.heap.get? b=some o→b≠s2.heap.objs.size:=fun b o e=>Nat.ne_of_lt (Heap.lt_size e)
     have un1:Un (frs X.stack) fp H2 (upd Hs s2.heap.objs.size (.lst ys)) s2.heap h':=by
      refine ⟨un0.keep,un0.slot,fun b o e n hx=>by rw[A6 (neD b o e)];exact un0.free b o e n hx,un0.there,fun b xs e=>?_,fun b o u e=>?_,fun b ps e=>?_⟩
      ·rw[A6 (C2 e freshD)];exact un0.tups b xs e
      ·rw[A6 (C2 e freshD)];exact un0.frzs b o u e
      ·rw[A6 (C2 e freshD)];exact un0.tbls b ps e
     have lens:its.length=xs.length:=by rw[←hv.length,rl.length]
     have hok1:HOk X.prog X.w (upd Hs s2.heap.objs.size (.lst ys)) h':=fun b u e=>by
      by_cases hb:b=s2.heap.objs.size
      ·subst hb
       rw[A8]at e
       cases e
       exact ⟨by rw[rl.length];have:sizeLine=16777216:=sizeLine_eq;omega,its,nA,hv,eD⟩
      ·rw[A6 hb]at e
       exact (hok0 b u e).stay (fun c v hc q=>q) (fun c q=>by rw[A6 (C2 q freeD)];exact q) fun c o q=>by rw[A6 (C2 q freeD)];exact q
     obtain ⟨hh,gg,dd,tt,os'⟩:=s4
     obtain rfl:os'=s2.os:=I4.os
     have I':=I2.call (ch:=fp) (h':=h') (g':=gg) (t':=tt) (d':=dd) un1 hok1 I4.bare (fun b hb=>⟨(f2 b hb).2.2.2.1,(f2 b hb).2.1,(f2 b hb).2.2.2.2.1,(f2 b hb).2.2.2.2.2⟩)
     rw[List.drop_eq_nil_of_le (by omega),C4]at hw
     have hw2:AVU X.K H Q (.list (xs++[])):=hw
     rw[List.append_nil]at hw2
     exact ⟨.ref s2.heap.objs.size,_,I',rfl,hw2 _ Hs ys (sH.trans sHs) freeD rl⟩
   ·rcases List.mem_cons.mp hb with q | q
    ·rw[q];exact freshD
    ·exact (f2 b q).1
  exact codeAny_compStart_list loop (TT.self _ 0 _ _ _ (TT.keep _ _ _ st2 fun b _ o e=>old b o e) loop)
 ·rw[if_neg hts]at h;exact h.elim
theorem AKJ {it:FI} {sel:List (Option Nat)} {g:FG} {test:FT} {te:FE} (ρ:Ev) (a:T) (h:E2 it sel g test te ρ=.ok a):∃xs,a=.list xs:=by
 unfold E2 at h
 cases e:it ρ with
 | bad=>rw[e]at h;cases h
 | ex c fs=>rw[e]at h;cases h
 | ok ts =>
  rw[e]at h
  have h':(if ts.length≤100000 then (C4 g test te (G1 sel ρ) ts).bind fun xs=>R.ok (PyData.list xs) else .bad)=.ok a:=h
  by_cases hl:ts.length≤100000
  ·rw[if_pos hl]at h'
   cases ec:C4 g test te (G1 sel ρ) ts with
   | bad=>rw[ec]at h';cases h'
   | ex c fs=>rw[ec]at h';cases h'
   | ok xs =>
    rw[ec]at h'
    have h2:R.ok (PyData.list xs)=R.ok a:=h'
    injection h2 with h3
    exact ⟨xs,h3.symm⟩
  ·rw[if_neg hl]at h';cases h'
end
mutual
theorem J6 {X:Cx} {pins:List (Addr × Obj)} {σ:St} {H:Hp} {s:Shared} (I:Inv X pins σ H s):∀(t:T) (v:V) (u:Value),Rep X.K H t v→RelV v u→t.canLay0=true→∃as,Reads s.heap u t as
 | .none,v,u,r,q,_=>by unfold Rep at r;subst r;cases q;exact ⟨_,.none⟩
 | .bool b,v,u,r,q,_=>by unfold Rep at r;subst r;cases q;exact ⟨_,.bool b⟩
 | .int i,v,u,r,q,_=>by unfold Rep at r;subst r;obtain ⟨t,rfl⟩:=q;exact ⟨_,.int i t⟩
 | .str x,v,u,r,q,_=>by unfold Rep at r;obtain ⟨rfl,_⟩:=r;obtain ⟨t,rfl⟩:=q;exact ⟨_,.str x t⟩
 | .list ts,v,u,r,q,c=>by
  unfold Rep at r
  obtain ⟨a,vs,rfl,hq,l⟩:=r
  cases q
  obtain ⟨its,rv,⟨o,n,e,hc,_,hd⟩,_⟩:=I.list hq
  obtain ⟨as,ra⟩:=readsAll_of I ts vs its l rv (by unfold PyData.canLay0 at c;exact c)
  exact ⟨_,.list e hc hd ra⟩
 | .tuple ts,v,u,r,q,c=>by
  unfold Rep at r
  obtain ⟨a,vs,rfl,hq,l⟩:=r
  cases q
  obtain ⟨its,rv,⟨o,e,hc,n,hd⟩,_⟩:=I.tuple hq
  obtain ⟨as,ra⟩:=readsAll_of I ts vs its l rv (by unfold PyData.canLay0 at c;exact c)
  exact ⟨_,.tuple e hc hd ra⟩
 | .dict _,_,_,_,_,c=>by unfold PyData.canLay0 at c;cases c
theorem readsAll_of {X:Cx} {pins:List (Addr × Obj)} {σ:St} {H:Hp} {s:Shared} (I:Inv X pins σ H s):∀(ts:List T) (vs:List V) (us:List Value),RepL X.K H ts vs→Vals vs us→PyData.canLayAll0 ts=true→∃as,ReadsAll s.heap us ts as
 | [],vs,us,r,q,_=>by unfold RepL at r;subst r;cases q;exact ⟨_,.nil⟩
 | t::ts,vs,us,r,q,c=>by
  unfold RepL at r
  obtain ⟨v,vr,rfl,r1,r2⟩:=r
  cases q with
  | cons q1 q2 =>
   unfold PyData.canLayAll0 at c
   obtain ⟨c1,c2⟩:=Bool.and_eq_true_iff.mp c
   obtain ⟨as,h1⟩:=J6 I t v _ r1 q1 c1
   obtain ⟨bs,h2⟩:=readsAll_of I ts vr _ r2 q2 c2
   exact ⟨_,.cons h1 h2⟩
end
def eqB:T→T→Option Bool
 | .str x,.str y=>some (x == y)
 | a,b=>if (SeqAt.shaped a&&SeqAt.shaped b)=true then some (PyData.eqv a b) else none
def eqT (a b:T):Option T:=(eqB a b).map .bool
def neT (a b:T):Option T:=(eqB a b).map fun k=>.bool (!k)
def AeP (K:PySem.W.Frag):R2:=fun x y H Q=>∃a b k,Rep K H a x∧Rep K H b y∧eqB a b=some k∧Q (.bl k) H
def AeZ (K:PySem.W.Frag):R2:=fun x y H Q=>∃a b k,Rep K H a x∧Rep K H b y∧eqB a b=some k∧Q (.bl (!k)) H
section
variable {X:Cx} {Ek:EK}
theorem AAA (a b:T):(∃x y,a=.str x∧b=.str y)∨eqB a b=if (SeqAt.shaped a&&SeqAt.shaped b)=true then some (PyData.eqv a b) else none:=by
 cases a with
 | str x =>
  cases b with
  | str y=>exact .inl ⟨x,y,rfl,rfl⟩
  | _=>exact .inr rfl
 | _=>exact .inr rfl
theorem AT8 (hu:X.A.units+64<cLine):OpR X (compareOp .Eq) (AeP X.K):=by
 intro pins s σ H x y v u Q I rx ry h
 obtain ⟨a,b,k,ra,rb,e,q⟩:=h
 rcases AAA a b with ⟨p,p',rfl,rfl⟩ | e'
 ·have e2:(p == p')=k:=Option.some.inj e
  unfold Rep at ra rb
  obtain ⟨rfl,_⟩:=ra
  obtain ⟨rfl,_⟩:=rb
  refine Ac8 pins s σ H _ _ v u Q I rx ry ⟨rfl,?_⟩
  rw[AEH,e2];exact q
 ·rw[e']at e
  by_cases hs:(SeqAt.shaped a&&SeqAt.shaped b)=true
  ·rw[if_pos hs]at e
   have e2:=Option.some.inj e
   obtain ⟨h1,h2⟩:=Bool.and_eq_true_iff.mp hs
   obtain ⟨as,r1⟩:=J6 I a x v ra rx (SeqAt.canLay_of_shaped h1)
   obtain ⟨bs,r2⟩:=J6 I b y u rb ry (SeqAt.canLay_of_shaped h2)
   refine eq_dataH r1 r2 h1 h2 hu ?_
   rw[e2]
   exact ⟨.bl k,H,I,rfl,q⟩
  ·rw[if_neg hs]at e;cases e
theorem AST (hu:X.A.units+64<cLine):OpR X (compareOp .NotEq) (AeZ X.K):=by
 intro pins s σ H x y v u Q I rx ry h
 obtain ⟨a,b,k,ra,rb,e,q⟩:=h
 rcases AAA a b with ⟨p,p',rfl,rfl⟩ | e'
 ·have e2:(p == p')=k:=Option.some.inj e
  unfold Rep at ra rb
  obtain ⟨rfl,_⟩:=ra
  obtain ⟨rfl,_⟩:=rb
  refine AcR pins s σ H _ _ v u Q I rx ry ⟨rfl,?_⟩
  rw[AEH,e2];exact q
 ·rw[e']at e
  by_cases hs:(SeqAt.shaped a&&SeqAt.shaped b)=true
  ·rw[if_pos hs]at e
   have e2:=Option.some.inj e
   obtain ⟨h1,h2⟩:=Bool.and_eq_true_iff.mp hs
   obtain ⟨as,r1⟩:=J6 I a x v ra rx (SeqAt.canLay_of_shaped h1)
   obtain ⟨bs,r2⟩:=J6 I b y u rb ry (SeqAt.canLay_of_shaped h2)
   refine ne_dataH r1 r2 h1 h2 hu ?_
   rw[e2]
   exact ⟨.bl (!k),H,I,rfl,q⟩
  ·rw[if_neg hs]at e;cases e
theorem AN0 {K:PySem.W.Frag}:Z7 K (AeP K) eqT:=fun x y tx ty a H Q rx ry e q=>by
 unfold eqT at e
 cases h:eqB tx ty with
 | none=>rw[h]at e;cases e
 | some k =>
  rw[h]at e
  have e':PyData.bool k=a:=Option.some.inj e
  subst e'
  exact ⟨tx,ty,k,rx,ry,h,q _ H (Same.refl H) D9⟩
theorem AOF {K:PySem.W.Frag}:Z7 K (AeZ K) neT:=fun x y tx ty a H Q rx ry e q=>by
 unfold neT at e
 cases h:eqB tx ty with
 | none=>rw[h]at e;cases e
 | some k =>
  rw[h]at e
  have e':PyData.bool (!k)=a:=Option.some.inj e
  subst e'
  exact ⟨tx,ty,k,rx,ry,h,q _ H (Same.refl H) D9⟩
theorem AS8 (x y c:T) (h:eqT x y=some c):∃k,c=.bool k:=by
 unfold eqT at h
 cases e:eqB x y with
 | none=>rw[e]at h;cases h
 | some k=>rw[e]at h;exact ⟨k,(Option.some.inj h).symm⟩
theorem AR4 (x y c:T) (h:neT x y=some c):∃k,c=.bool k:=by
 unfold neT at h
 cases e:eqB x y with
 | none=>rw[e]at h;cases h
 | some k=>rw[e]at h;exact ⟨!k,(Option.some.inj h).symm⟩
def AB0 (f:Int→Int→Option T):T→T→Option T
 | .int i,.int j=>f i j
 | _,_=>none
theorem AA2 {K:PySem.W.Frag} {g:Int→Int→V} {f:Int→Int→Option T} (h:∀i j H,∃a,f i j=some a∧Rep K H a (g i j)):Z7 K (rI0 g) (AB0 f):=fun x y tx ty a H Q rx ry e q=>by
 match tx,ty,e,rx,ry with
 | .int i,.int j,e,rx,ry =>
  unfold Rep at rx ry
  subst rx;subst ry
  obtain ⟨b,e1,r⟩:=h i j H
  have e':f i j=some a:=e
  rw[e1]at e'
  have e2:=Option.some.inj e'
  subst e2
  exact ⟨i,j,rfl,rfl,q _ H (Same.refl H) r⟩
theorem ABA {K:PySem.W.Frag} {C:Int→Int→Prop} {g:Int→Int→V} {f:Int→Int→Option T} (h:∀i j a,f i j=some a→C i j∧∀H,Rep K H a (g i j)):Z7 K (rI C g) (AB0 f):=fun x y tx ty a H Q rx ry e q=>by
 match tx,ty,e,rx,ry with
 | .int i,.int j,e,rx,ry =>
  unfold Rep at rx ry
  subst rx;subst ry
  obtain ⟨c,r⟩:=h i j a e
  exact ⟨i,j,rfl,rfl,c,q _ H (Same.refl H) (r H)⟩
theorem R5 {f:Int→Int→Bool} (x y c:T) (h:AB0 (fun i j=>some (.bool (f i j))) x y=some c):∃k,c=.bool k:=by
 match x,y,h with
 | .int i,.int j,h=>exact ⟨_,(Option.some.inj h).symm⟩
def ltT:=AB0 fun i j=>some (.bool (decide (i<j)))
def leT:=AB0 fun i j=>some (.bool (decide (i≤j)))
def gtT:=AB0 fun i j=>some (.bool (decide (j<i)))
def geT:=AB0 fun i j=>some (.bool (decide (j≤i)))
def U8:=AB0 fun i j=>some (.int (i-j))
def x3:=AB0 fun i j=>if j=0 then none else some (.int (i.fmod j))
def Ab8 (_ j:Int):Prop:=j≠0∧j.natAbs.log2<9000
theorem ASI {X:Cx}:OpR X (binaryOp .FloorDiv) (rI Ab8 fun i j=>.int (i.fdiv j)):=opI fun _ _ _ _ _ _ _ hc q=>floordiv_int hc.1 q (.inl (PyProof.noPylong_of_log2 hc.2))
def G7:=AB0 fun i j=>if j=0∨¬j.natAbs.log2<9000 then none else some (.int (i.fdiv j))
def AFJ:=AB0 fun i j=>if 0≤j∧j≤1000∧i.natAbs<2 ^ 64 then some (.int (i ^ j.toNat)) else none
def CMulG (i j:Int):Prop:=CMul i j∨(i.natAbs.log2<1000∧j.natAbs.log2<1000)
theorem CMulG.ok {i j:Int} (h:CMulG i j):IntMulOk i j:=by
 rcases h with h | ⟨h1,h2⟩
 ·exact h.ok
 ·unfold IntMulOk
  have b1:Builtin.Int.intBits i≤1000:=by unfold Builtin.Int.intBits;split<;>omega
  have b2:Builtin.Int.intBits j≤1000:=by unfold Builtin.Int.intBits;split<;>omega
  have nt:Builtin.Int.intTooBig ((Builtin.Int.intBits i:Int)+(Builtin.Int.intBits j:Int))=false:=by
   unfold Builtin.Int.intTooBig
   have hb:(2000:Int)≤bitsLine:=by decide
   rw[decide_eq_false_iff_not]
   omega
  intro z
  have z2:=(Bool.and_eq_true_iff.mp z).2
  rw[nt]at z2
  cases z2
theorem op_mulG {X:Cx}:OpR X (binaryOp .Mult) (rI CMulG fun i j=>.int (i*j)):=opI fun _ _ _ _ _ _ _ hc q=>mul_int q hc.ok
instance {i j:Int}:Decidable (CMulG i j):=by unfold CMulG CMul;infer_instance
def AcP:Int→Int→Option T:=fun i j=>if CMulG i j then some (.int (i*j)) else none
theorem ALW {K:PySem.W.Frag}:Z7 K (rI0 fun i j=>.bl (decide (i<j))) ltT:=AA2 fun _ _ _=>⟨_,rfl,D9⟩
theorem AF4 {K:PySem.W.Frag}:Z7 K (rI0 fun i j=>.bl (decide (i≤j))) leT:=AA2 fun _ _ _=>⟨_,rfl,D9⟩
theorem ATC {K:PySem.W.Frag}:Z7 K (rI0 fun i j=>.bl (decide (j<i))) gtT:=AA2 fun _ _ _=>⟨_,rfl,D9⟩
theorem ASK {K:PySem.W.Frag}:Z7 K (rI0 fun i j=>.bl (decide (j≤i))) geT:=AA2 fun _ _ _=>⟨_,rfl,D9⟩
theorem AN9 {K:PySem.W.Frag}:Z7 K (rI0 fun i j=>.int (i-j)) U8:=AA2 fun _ _ _=>⟨_,rfl,C3⟩
theorem AUT {K:PySem.W.Frag}:Z7 K (rI (fun _ j=>j≠0) fun i j=>.int (i.fmod j)) x3:=ABA fun i j a e=>by
 by_cases h:j=0
 ·simp only[h,if_true]at e;cases e
 ·simp only[h,if_false]at e
  have e':=Option.some.inj e
  subst e'
  exact ⟨h,fun _=>C3⟩
theorem AQ6 {K:PySem.W.Frag}:Z7 K (rI Ab8 fun i j=>.int (i.fdiv j)) G7:=ABA fun i j a e=>by
 by_cases h:j=0∨¬j.natAbs.log2<9000
 ·rw[if_pos h]at e;cases e
 ·rw[if_neg h]at e
  have e':=Option.some.inj e
  subst e'
  refine ⟨⟨fun z=>h (.inl z),?_⟩,fun _=>C3⟩
  by_cases q:j.natAbs.log2<9000
  ·exact q
  ·exact absurd (.inr q) h
theorem AMP {K:PySem.W.Frag}:Z7 K (rI Af6 fun i j=>.int (i ^ j.toNat)) AFJ:=ABA fun i j a e=>by
 by_cases h:0≤j∧j≤1000∧i.natAbs<2 ^ 64
 ·rw[if_pos h]at e
  have e':=Option.some.inj e
  subst e'
  exact ⟨⟨h.1,by omega,h.2.2⟩,fun _=>C3⟩
 ·rw[if_neg h]at e;cases e
def AJO:T→Option T
 | .int i=>some (.int (-i))
 | _=>none
theorem AOM {K:PySem.W.Frag}:AeR K (rU fun i=>.int (-i)) AJO:=fun x tx a H Q rx e q=>by
 match tx,e,rx with
 | .int i,e,rx =>
  unfold Rep at rx;subst rx
  have e':=Option.some.inj e
  subst e'
  exact ⟨i,rfl,q _ H (Same.refl H) C3⟩
def isB:T→T→Option Bool
 | .none,.none=>some true
 | .bool a,.bool b=>some (a == b)
 | .none,.bool _=>some false
 | .bool _,.none=>some false
 | .int _,.none=>some false
 | .str _,.none=>some false
 | .list _,.none=>some false
 | .tuple _,.none=>some false
 | .int _,.bool _=>some false
 | .str _,.bool _=>some false
 | .list _,.bool _=>some false
 | .tuple _,.bool _=>some false
 | _,_=>none
def isT (a b:T):Option T:=(isB a b).map .bool
theorem AQ1 (x y c:T) (h:isT x y=some c):∃k,c=.bool k:=by
 unfold isT at h
 cases e:isB x y with
 | none=>rw[e]at h;cases h
 | some k=>rw[e]at h;exact ⟨k,(Option.some.inj h).symm⟩
end
section
variable {X:Cx} {Ek:EK}
def AeV (K:PySem.W.Frag):R2:=fun x y H Q=>∃a b k,Rep K H a x∧Rep K H b y∧isB a b=some k∧Q (.bl k) H
theorem AcW {K:PySem.W.Frag} {H:Hp}:∀{a b:T} {x y:V} {v u:Value} {k:Bool},Rep K H a x→Rep K H b y→RelV x v→RelV y u→isB a b=some k →
  compareOp .Is v u=pure (.bool k)∧compareOp .IsNot v u=pure (.bool (!k)):=by
 intro a b x y v u k ra rb rv ru e
 have hb:(b=.none)∨∃c,b=.bool c:=by
  cases b with
  | none=>exact .inl rfl
  | bool c=>exact .inr ⟨c,rfl⟩
  | _=>cases a<;>cases e
 rcases hb with rfl | ⟨c,rfl⟩
 ·unfold Rep at rb;subst rb;cases ru
  cases a with
  | none=>unfold Rep at ra;subst ra;cases rv;cases e;exact ⟨rfl,rfl⟩
  | bool d=>unfold Rep at ra;subst ra;cases rv;cases e;exact ⟨rfl,rfl⟩
  | int i=>unfold Rep at ra;subst ra;obtain ⟨t,rfl⟩:=rv;cases e;exact ⟨rfl,rfl⟩
  | str i=>unfold Rep at ra;obtain ⟨rfl,_⟩:=ra;obtain ⟨t,rfl⟩:=rv;cases e;exact ⟨rfl,rfl⟩
  | list i=>unfold Rep at ra;obtain ⟨p,_,rfl,_⟩:=ra;cases rv;cases e;exact ⟨rfl,rfl⟩
  | tuple i=>unfold Rep at ra;obtain ⟨p,_,rfl,_⟩:=ra;cases rv;cases e;exact ⟨rfl,rfl⟩
  | dict i=>cases e
 ·unfold Rep at rb;subst rb;cases ru
  cases a with
  | none=>unfold Rep at ra;subst ra;cases rv;cases e;exact ⟨rfl,rfl⟩
  | bool d =>
   unfold Rep at ra;subst ra;cases rv;cases e
   cases d<;>cases c<;>exact ⟨rfl,rfl⟩
  | int i=>unfold Rep at ra;subst ra;obtain ⟨t,rfl⟩:=rv;cases e;exact ⟨rfl,rfl⟩
  | str i=>unfold Rep at ra;obtain ⟨rfl,_⟩:=ra;obtain ⟨t,rfl⟩:=rv;cases e;exact ⟨rfl,rfl⟩
  | list i=>unfold Rep at ra;obtain ⟨p,_,rfl,_⟩:=ra;cases rv;cases e;exact ⟨rfl,rfl⟩
  | tuple i=>unfold Rep at ra;obtain ⟨p,_,rfl,_⟩:=ra;cases rv;cases e;exact ⟨rfl,rfl⟩
  | dict i=>cases e
theorem AY5 {K:PySem.W.Frag} {H:Hp} {a b:T} {x y:V} {v u:Value} {k:Bool} (ra:Rep K H a x) (rb:Rep K H b y) (rv:RelV x v) (ru:RelV y u) (e:isB a b=some k) :
  (∀(M:Model) (A:Around) (Q:Value→Shared→Prop) (E:Value→Shared→Prop) (s:Shared),Q (.bool k) s→wpAny M A (compareOp .Is v u) Q E s) ∧
  (∀(M:Model) (A:Around) (Q:Value→Shared→Prop) (E:Value→Shared→Prop) (s:Shared),Q (.bool (!k)) s→wpAny M A (compareOp .IsNot v u) Q E s):=by
 obtain ⟨h1,h2⟩:=AcW ra rb rv ru e
 rw[h1,h2]
 exact ⟨fun M A Q E s q=>wpAny_pure q,fun M A Q E s q=>wpAny_pure q⟩
theorem AaC:OpR X (compareOp .Is) (AeV X.K):=by
 intro pins s σ H x y v u Q I rx ry h
 obtain ⟨a,b,k,ra,rb,e,q⟩:=h
 exact (AY5 ra rb rx ry e).1 _ _ _ _ _ ⟨.bl k,H,I,rfl,q⟩
theorem AWT {K:PySem.W.Frag}:Z7 K (AeV K) isT:=fun x y tx ty a H Q rx ry e q=>by
 unfold isT at e
 cases h:isB tx ty with
 | none=>rw[h]at e;cases e
 | some k =>
  rw[h]at e
  have e':PyData.bool k=a:=Option.some.inj e
  subst e'
  exact ⟨tx,ty,k,rx,ry,h,q _ H (Same.refl H) D9⟩
def E9:T→T→Option T
 | .int i,.int j=>some (.int (i+j))
 | .str x,.str y=>if x.length+y.length≤1000000 then some (.str (x++y)) else none
 | .list xs,.list ys=>if J4 (xs.length+ys.length)=true then some (.list (xs++ys)) else none
 | _,_=>none
def AYR (K:PySem.W.Frag):R2:=fun x y H Q=>∃l b xs zs,x=.ref l∧y=.ref b∧SqL K H l xs∧SqL K H b zs∧xs.length+zs.length≤sizeLine∧∀p,H p=none→Q (.ref p) (upd H p (.lst (xs++zs)))
theorem AVF:OpR X (binaryOp .Add) (AYR X.K):=by
 intro pins s σ H x y v u Q I rx ry h
 obtain ⟨l,b,xs,zs,rfl,rfl,hH,hB,hz,q⟩:=h
 cases rx
 cases ry
 obtain ⟨its,r,⟨⟨c1,d1,dt1,sl1⟩,n,e,hc,hd,hs⟩,z⟩:=I.list hH
 obtain ⟨its2,r2,⟨⟨c2,d2,dt2,sl2⟩,n2,e2,hc2,hd2,hs2⟩,z2⟩:=I.list hB
 simp only at hc hd hs hc2 hd2 hs2
 subst hc hd hs hc2 hd2 hs2
 have hl:=r.length
 have hl2:=r2.length
 have ea:its.toArray++its2.toArray=(its++its2).toArray:=by simp
 have hz2:its.toArray.size+its2.toArray.size≤sizeLine:=by rw[List.size_toArray,List.size_toArray,←hl,←hl2];exact hz
 refine concat_meets ⟨_,e,rfl⟩ ⟨_,e2,rfl⟩ noFill_list_add seq_list_add PySem.F.slot_list_add PySem.F.entry_list_add (PySem.F.args_list_add_2 _ _) (list_addW l b its.toArray its2.toArray n n2 none none sl1 sl2 hz2) ⟨e,e2,?_⟩
 rw[ea]
 exact ⟨.ref _,_,I.lnew (t':=s.toks) (r.append r2) (by rw[List.length_append];omega),rfl,q _ I.fresh⟩
def AXB (K:PySem.W.Frag):R2:=fun x y H Q=>rI0 (fun i j=>.int (i+j)) x y H Q∨(∃i j,x=.str i∧y=.str j∧i.length+j.length≤sizeLine∧Q (.str (i++j)) H)∨AYR K x y H Q
theorem op_addT:OpR X (binaryOp .Add) (AXB X.K):=op_add.or (op_add_str.or AVF)
theorem AJ7 {K:PySem.W.Frag}:Z7 K (AXB K) E9:=fun x y tx ty a H Q rx ry e q=>by
 match tx,ty,e,rx,ry with
 | .int i,.int j,e,rx,ry =>
  unfold Rep at rx ry;subst rx;subst ry
  have e':=Option.some.inj e
  subst e'
  exact .inl ⟨i,j,rfl,rfl,q _ H (Same.refl H) C3⟩
 | .str i,.str j,e,rx,ry =>
  unfold Rep at rx ry
  obtain ⟨rfl,h1⟩:=rx
  obtain ⟨rfl,h2⟩:=ry
  have e':(if i.length+j.length≤1000000 then some (PyData.str (i++j)) else none)=some a:=e
  by_cases hl:i.length+j.length≤1000000
  ·rw[if_pos hl]at e'
   have e2:=Option.some.inj e'
   subst e2
   have hz:i.length+j.length≤sizeLine:=by have:sizeLine=16777216:=sizeLine_eq;omega
   refine .inr (.inl ⟨i,j,rfl,rfl,hz,q _ H (Same.refl H) (t9 ?_)⟩)
   rw[size_cat];exact hz
  ·rw[if_neg hl]at e';cases e'
 | .list i,.list j,e,rx,ry =>
  unfold Rep at rx ry
  obtain ⟨p,vs,rfl,hp,l1⟩:=rx
  obtain ⟨p',vs',rfl,hp',l2⟩:=ry
  have e':(if J4 (i.length+j.length)=true then some (PyData.list (i++j)) else none)=some a:=e
  by_cases hl:J4 (i.length+j.length)=true
  ·rw[if_pos hl]at e'
   have e2:=Option.some.inj e'
   subst e2
   refine .inr (.inr ⟨p,p',vs,vs',rfl,rfl,hp,hp',by rw[l1.length,l2.length];exact ABB hl,fun r hr=>q _ _ (B0 hr _) ?_⟩)
   unfold Rep
   exact ⟨r,_,rfl,SqL.of A8,RepL.mono (B0 hr _) _ _ (l1.append l2)⟩
  ·rw[if_neg hl]at e';cases e'
theorem APR {K:PySem.W.Frag}:Z7 K (rI CMulG fun i j=>.int (i*j)) (AB0 AcP):=ABA fun i j a e=>by
 unfold AcP at e
 by_cases h:CMulG i j
 ·rw[if_pos h]at e
  have e':=Option.some.inj e
  subst e'
  exact ⟨h,fun _=>C3⟩
 ·rw[if_neg h]at e;cases e
def AX8:List T→Option T
 | [.int i]=>some (.int (if i<0 then -i else i))
 | _=>none
theorem ATY {K:PySem.W.Frag}:APK K (fun xs H Q=>∃i,xs=[.int i]∧Q (.int (if i<0 then -i else i)) H) AX8:=fun xs ts a H Q r e q=>by
 match ts,e,r with
 | [.int i],e,r =>
  unfold RepL at r
  obtain ⟨v,vr,rfl,r1,r⟩:=r
  unfold RepL at r;subst r
  unfold Rep at r1;subst r1
  have e':=Option.some.inj e
  subst e'
  exact ⟨i,rfl,q _ H (Same.refl H) C3⟩
def AA4:List T→Option T
 | [.str x]=>some (.int x.length)
 | [.list xs]=>some (.int xs.length)
 | [.tuple xs]=>some (.int xs.length)
 | _=>none
theorem AUD {K:PySem.W.Frag}:APK K (fun xs H Q=>∃x n,xs=[x]∧AeQ K x H n∧Q (.int n) H) AA4:=fun xs ts a H Q r e q=>by
 match ts,e,r with
 | [.str x],e,r =>
  unfold RepL at r
  obtain ⟨v,vr,rfl,r1,r⟩:=r
  unfold RepL at r;subst r
  unfold Rep at r1;obtain ⟨rfl,hz⟩:=r1
  have e':=Option.some.inj e
  subst e'
  exact ⟨_,x.length,rfl,⟨hz,rfl⟩,q _ H (Same.refl H) C3⟩
 | [.list x],e,r =>
  unfold RepL at r
  obtain ⟨v,vr,rfl,r1,r⟩:=r
  unfold RepL at r;subst r
  unfold Rep at r1;obtain ⟨p,vs,rfl,hp,l⟩:=r1
  have e':=Option.some.inj e
  subst e'
  refine ⟨_,vs.length,rfl,.inl ⟨vs,hp,rfl⟩,?_⟩
  rw[l.length]
  exact q _ H (Same.refl H) C3
 | [.tuple x],e,r =>
  unfold RepL at r
  obtain ⟨v,vr,rfl,r1,r⟩:=r
  unfold RepL at r;subst r
  unfold Rep at r1;obtain ⟨p,vs,rfl,hp,l⟩:=r1
  have e':=Option.some.inj e
  subst e'
  refine ⟨_,vs.length,rfl,.inr ⟨vs,hp,rfl⟩,?_⟩
  rw[l.length]
  exact q _ H (Same.refl H) C3
end
structure Dfn (CX:CXT) (P:Program) (w:World) (K:PySem.W.Frag) (mg:Str→Option Value) (base:Heap) (x:Str) (k n:Nat) (m:List T→R T):Prop where
 ex:∃(f:Addr) (fd:FuncData) (ps:List Str),FnOk P w K mg base CX k f fd ps (spM K n m)∧mg x=some (.ref f)∧PySem.W.keepIn K (.ref f)=true∧Binds K fd ps []
 hex:∀ts c fs,m ts=.ex c fs→fs=[]
 dbg:(x == ("__debug__" : Str))=false
structure NB (N:List Str):Prop where
 nd:N.Nodup
 no:∀x∈N,(x == ("__debug__" : Str))=false∧(x == ("__classdict__" : Str))=false
section
variable {X:Cx} {Ek:EK}
theorem AYJ {CX:CXT} {x:Str} {k j n:Nat} {m:List T→R T} {e:Expr} {es:List Expr} {t:FA} {p pos:Pos} (D:Dfn CX X.prog X.w X.K X.mg X.base x j n m) (hr:Room k X.A) (hj:j≤k) (hx:Y1 CX X (AQA X.K Ek)) (hg:Gl X x) (ha:JA X Ek (e::es) t)
  (he:starEach (e::es) X.env=(false,eval e X.env)::starEach es X.env) (hpl:(backTo pos (starEach es X.env)).any (·.1)=false):JE X Ek (.Call (.Name x p) (e::es) [] pos) (eF (A3 n [] m) t):=by
 obtain ⟨f,fd,ps,F,hm,hk,hb⟩:=D.ex
 exact PE.weak (ANO (F.mono hj) hr hg hm hk hb .nil hx ha D.dbg he hpl) (AeS (fun H=>C5) D.hex)
theorem ADT {id:String} {x:Str} {r:List V→Hp→VK→Prop} {g:List T→Option T} {e:Expr} {es:List Expr} {t:FA} {p pos:Pos} (hc:AAY X (.builtin id) r) (hi:APK X.K r g) (hv:bootBuiltins x=some (.builtin id)) (hn:x≠"__name__") (hd:(x == ("__debug__" : Str))=false)
  (hm:X.mg x=none) (hg:Gl X x) (ha:JA X Ek (e::es) t) (he:starEach (e::es) X.env=(false,eval e X.env)::starEach es X.env) (hpl:(backTo pos (starEach es X.env)).any (·.1)=false):JE X Ek (.Call (.Name x p) (e::es) [] pos) (eN g t) :=
 PE.weak (AIU hc hg hm hv ha hn hd he hpl) (AeI hi)
theorem AcX {id:String} {x:Str} {r:List V→Hp→VK→Prop} {g:List T→Option T} {e:Expr} {es:List Expr} {t:FA} {p pos:Pos} (hc:AAY X (.type id) r) (hi:APK X.K r g) (hv:bootBuiltins x=some (.type id)) (hn:x≠"__name__") (hd:(x == ("__debug__" : Str))=false)
  (hm:X.mg x=none) (hg:Gl X x) (ha:JA X Ek (e::es) t) (he:starEach (e::es) X.env=(false,eval e X.env)::starEach es X.env) (hpl:(backTo pos (starEach es X.env)).any (·.1)=false):JE X Ek (.Call (.Name x p) (e::es) [] pos) (eN g t) :=
 PE.weak (AP6 hc hg hm hv ha hn hd he hpl) (AeI hi)
theorem AZ4 {e:Expr} {t:FA} {p pos:Pos} (hm:X.mg "len" = none) (hg:Gl X "len") (ha:JA X Ek [e] t) (he:starEach [e] X.env=(false,eval e X.env)::starEach [] X.env):JE X Ek (.Call (.Name "len" p) [e] [] pos) (eN AA4 t) :=
 ADT ARK AUD PySem.boot_len (by decide +kernel) (by decide +kernel) hm hg ha he rfl
theorem AaG {e:Expr} {t:FA} {p pos:Pos} (hm:X.mg "abs" = none) (hg:Gl X "abs") (ha:JA X Ek [e] t) (he:starEach [e] X.env=(false,eval e X.env)::starEach [] X.env):JE X Ek (.Call (.Name "abs" p) [e] [] pos) (eN AX8 t) :=
 ADT AQI ATY (by decide +kernel) (by decide +kernel) (by decide +kernel) hm hg ha he rfl
def AGL:T→Option String
 | .none=>some "NoneType"
 | .bool _=>some "bool"
 | .int _=>some "int"
 | .str _=>some "str"
 | .list _=>some "list"
 | .tuple _=>some "tuple"
 | .dict _=>none
def AXQ (a b:String):Bool:=a == b||(a == "bool"&&b == "int")
def AC0 (c:String):T→Option T:=fun t=>(AGL t).map fun n=>.bool (AXQ n c)
def ixT:T→T→Option T
 | .list xs,.int i=>atI xs i
 | .tuple xs,.int i=>atI xs i
 | .str x,.int i=>(atI x.cps.toList i).map fun c=>.str ⟨#[c]⟩
 | _,_=>none
theorem AME {K:PySem.W.Frag} {H:Hp} {xs:List T} {vs:List V} {i:Int} {t:T} (l:RepL K H xs vs) (h:atI xs i=some t):∃v,atI vs i=some v∧Rep K H t v:=by
 unfold atI at h ⊢
 rw[l.length]
 cases e:ixN xs.length i with
 | none=>rw[e]at h;cases h
 | some j =>
  rw[e]at h
  obtain ⟨v,e1,e2⟩:=l.get (i:=j) h
  exact ⟨v,e1,e2⟩
theorem Ab1 {K:PySem.W.Frag}:Z7 K (rIx K) ixT:=fun x y tx ty a H Q rx ry e q=>by
 match tx,ty,e,rx,ry with
 | .list xs,.int i,e,rx,ry =>
  unfold Rep at rx ry;subst ry
  obtain ⟨p,vs,rfl,hp,l⟩:=rx
  obtain ⟨v,e1,e2⟩:=AME l e
  exact .inl ⟨p,vs,i,v,rfl,rfl,hp,e1,q _ H (Same.refl H) e2⟩
 | .tuple xs,.int i,e,rx,ry =>
  unfold Rep at rx ry;subst ry
  obtain ⟨p,vs,rfl,hp,l⟩:=rx
  obtain ⟨v,e1,e2⟩:=AME l e
  exact .inr (.inl ⟨p,vs,i,v,rfl,rfl,hp,e1,q _ H (Same.refl H) e2⟩)
 | .str z,.int i,e,rx,ry =>
  unfold Rep at rx ry;subst ry
  obtain ⟨rfl,hz⟩:=rx
  have e':(atI z.cps.toList i).map (fun c=>PyData.str ⟨#[c]⟩)=some a:=e
  cases h:atI z.cps.toList i with
  | none=>rw[h]at e';cases e'
  | some c =>
   rw[h]at e'
   have e2:=Option.some.inj e'
   subst e2
   exact .inr (.inr ⟨z,i,c,rfl,rfl,hz,h,q _ H (Same.refl H) (t9 (by show 1≤sizeLine;decide))⟩)
theorem Ad3 {a b:Expr} {ta tb:FE} {pos:Pos} (ha:JE X Ek a ta) (hb:JE X Ek b tb) (hs:ALQ b):JE X Ek (.Subscript a b pos) (e2 ixT ta tb) :=
 PE.weak (AdY AXV ha hb hs) (AJD Ab1)
end
def APN (K:PySem.W.Frag) (E:XK):EK:=fun c _ H=>∀C,AKI K c C→E (.ref C) none H
section
variable {CX:CXT} {P:Program} {w:World} {K:PySem.W.Frag} {mg:Str→Option Value} {base:Heap}
theorem Dfn.of {x:Str} {st:Stmt} {f:Addr} {fd:FuncData} {N ps:List Str} {k:Nat} {m:List T→R T} {t:FS} (F:Fun K x x st f fd) (S:FnScope N ps (C6 st)) (hmg:mg x=some (.ref f)) (hb:Binds K fd ps []) (hex:∀ts c fs,m ts=.ex c fs→fs=[]) (dbg:(x == ("__debug__" : Str))=false)
  (hbody:∀(cdv:Value) (A:Around) (outer:List Env) (s:Shared) (H:Hp) (E:XK),Room k (A.deeper (envOfC x (C6 st) s.heap.objs.size f cdv))→JSs (W1 CX P w K mg base N x (C6 st) f cdv A outer s H E) (APN K E) (L7 st) t)
  (hm:∀ts,ts.length=ps.length→m ts≠.bad→run N.length t ts=m ts):Dfn CX P w K mg base x (k+1) ps.length m:=by
 refine ⟨⟨f,fd,ps,?_,hmg,F.kp,hb⟩,hex,dbg⟩
 obtain ⟨oc,od,kV,doc,pm,an,cdv,ct,osl,rfl,lk,hcd⟩:=F.ex
 refine AVY lk hcd S (fun vs H Q E h=>?_) fun A outer s H vs Q E hr hsp=>⟨lS K (APN K E) t,hbody cdv A outer s H E hr,?_⟩
 ·obtain ⟨ts,rl,hl,_⟩:=h
  rw[rl.length,hl]
 ·obtain ⟨ts,rl,hl,h⟩:=hsp
  refine ⟨T0 N.length ts,X3 N rl,?_⟩
  have nb:m ts≠.bad:=fun e=>by rw[e]at h;exact h
  have e:=hm ts hl nb
  unfold run at e
  cases q:t (T0 N.length ts) with
  | nx ρ =>
   rw[q]at e
   rw[←e]at h
   exact fun σ H' s' _=>h .non H' s' AB8
  | rt a =>
   rw[q]at e
   rw[←e]at h
   exact h
  | bk ρ=>rw[q]at e;exact absurd e.symm nb
  | ct ρ=>rw[q]at e;exact absurd e.symm nb
  | bad=>rw[q]at e;exact absurd e.symm nb
  | ex c fs =>
   rw[q]at e
   rw[←e]at h
   exact fun H' s' C hC=>h H' C s' hC
end
def ACB (scope so:Scope) (N Nc:List Str) (sel:List (Option Nat)):Bool :=
 (scope.names.all fun p=>(p.2 != .cell)&&(p.2 != .free||so.names.lookup p.1 == some .cell||so.names.lookup p.1 == some .free)&&(p.2 != .local||scope.names.lookup p.1 == some .local)) &&
 (scope.kind == .function)&&(sel.length == Nc.length) &&
 (List.range sel.length).all fun i=>match sel[i]? with
  | some (some j)=>match Nc[i]? with
   | some x=>(N[j]? == some x)&&(scope.names.lookup x == some .free)
   | none=>false
  | _=>true
def AAJ (sel:List (Option Nat)) (g:FG):Prop:=∀t ρ ρ1,g t ρ=some ρ1→ρ1.length=ρ.length∧∀i j:Nat,sel[i]?=some (some j)→ρ1[i]?=ρ[i]?
theorem AKQ {sel:List (Option Nat)} {k:Nat} (h:sel[k]?=some none):AAJ sel (gName k):=fun t ρ ρ1 e=>by
 have e':ρ.set k (some t)=ρ1:=Option.some.inj e
 subst e'
 refine ⟨List.length_set,fun i j hi=>?_⟩
 have:k≠i:=fun z=>by rw[z,hi]at h;cases h
 rw[List.getElem?_set_ne this]
theorem AFF {sel:List (Option Nat)}:∀(gs:List FG),(∀g∈gs,AAJ sel g)→∀ts ρ ρ1,AP3 gs ts ρ=some ρ1→ρ1.length=ρ.length∧∀i j:Nat,sel[i]?=some (some j)→ρ1[i]?=ρ[i]?
 | [],_,[],ρ,ρ1,e=>by
  have e':ρ=ρ1:=Option.some.inj e
  subst e'
  exact ⟨rfl,fun _ _ _=>rfl⟩
 | [],_,_::_,_,_,e=>by cases e
 | _::_,_,[],_,_,e=>by cases e
 | g::gs,h,t::ts,ρ,ρ1,e=>by
  have e':(g t ρ).bind (fun ρ'=>AP3 gs ts ρ')=some ρ1:=e
  cases e1:g t ρ with
  | none=>rw[e1]at e';cases e'
  | some ρ' =>
   rw[e1]at e'
   obtain ⟨a1,a2⟩:=h g List.mem_cons_self t ρ ρ' e1
   obtain ⟨b1,b2⟩:=AFF gs (fun g' hg=>h g' (List.mem_cons_of_mem _ hg)) ts ρ' ρ1 e'
   exact ⟨b1.trans a1,fun i j hi=>(b2 i j hi).trans (a2 i j hi)⟩
theorem AMX {sel:List (Option Nat)} {gs:List FG} (h:∀g∈gs,AAJ sel g):AAJ sel (Tr.gTup gs):=fun t ρ ρ1 e=>by
 cases t with
 | tuple ts=>exact AFF gs h ts ρ ρ1 e
 | _=>cases e
section
variable {X:Cx} {Ek:EK}
theorem AGI {elt tg iter:Expr} {ifs:List Expr} {scope so:Scope} {pos:Pos} {N Nc:List Str} {it:FI} {sel:List (Option Nat)} {g:FG} {test:FT} {te:FE}
  (hcalm:X.calm=true) (hso:X.env.scope=so) (hXN:X.N=N) (hok:ACB scope so N Nc sel=true) (hkeep:AAJ sel g) (hi:JI X Ek tg iter it)
  (hg:∀cl C s H fp,JG (B8 X scope cl C Nc s H fp) tg g)
  (ht:∀cl C s H fp,JTs (B8 X scope cl C Nc s H fp) Ek0 ifs test)
  (he:∀cl C s H fp,JE (B8 X scope cl C Nc s H fp) Ek0 elt te)
  (hs:∀x,foldedSetIterable iter X.env x=pure x):JCt X elt [⟨tg,iter,ifs,0⟩] scope pos (lEF X.K Ek (E2 it sel g test te)):=by
 unfold ACB at hok
 obtain ⟨hok,h4⟩:=Bool.and_eq_true_iff.mp hok
 obtain ⟨hok,h3⟩:=Bool.and_eq_true_iff.mp hok
 obtain ⟨h1,h2⟩:=Bool.and_eq_true_iff.mp hok
 have h1':=List.all_eq_true.mp h1
 have h4':=List.all_eq_true.mp h4
 refine ARI hcalm hi (fun x hx=>?_) (fun y hy=>?_) (by simpa using h2) (fun y hy hl=>?_) (by simpa using h3) (fun i j hij=>?_) hkeep hg ht he hs
 ·have q:=h1' _ hx
  have q2:=(Bool.and_eq_true_iff.mp (Bool.and_eq_true_iff.mp q).1).2
  show X.env.scope.names.lookup x=_∨X.env.scope.names.lookup x=_
  rw[hso]
  simp only[bne_self_eq_false,Bool.false_or,Bool.or_eq_true,beq_iff_eq]at q2
  exact q2
 ·have q:=(Bool.and_eq_true_iff.mp (Bool.and_eq_true_iff.mp (h1' _ hy)).1).1
  intro z
  rw[z]at q
  simp at q
 ·have q:=(Bool.and_eq_true_iff.mp (h1' _ hy)).2
  rw[hl]at q
  simpa using q
 ·have hlt:i<sel.length:=by
   by_cases z:i<sel.length
   ·exact z
   ·rw[List.getElem?_eq_none (by omega)]at hij;cases hij
  have q:=h4' i (List.mem_range.mpr hlt)
  rw[hij]at q
  cases e:Nc[i]? with
  | none=>rw[e]at q;cases q
  | some x =>
   rw[e]at q
   have q':((N[j]? == some x)&&(scope.names.lookup x == some .free))=true:=q
   obtain ⟨a,b⟩:=Bool.and_eq_true_iff.mp q'
   exact ⟨x,rfl,by rw[hXN];exact eq_of_beq a,eq_of_beq b⟩
end
structure GlobC (K:PySem.W.Frag) (mg:Str→Option Value) (x:Str) (t:T):Prop where
 ex:∃(u:Value) (v:V),mg x=some u∧RelV v u∧∀H,Rep K H t v
 dbg:(x == ("__debug__" : Str))=false
structure Blt (mg:Str→Option Value):Prop where
 len:mg "len" = none
 abs:mg "abs" = none
 str:mg "str" = none
 int:mg "int" = none
 bool:mg "bool" = none
 tuple:mg "tuple" = none
 list:mg "list" = none
 range:mg "range" = none
 isinstance:mg "isinstance" = none
 all:mg "all" = none
 max:mg "max" = none
 sum:mg "sum" = none
 zip:mg "zip" = none
section
variable {X:Cx} {Ek:EK}
theorem AR3 {x:Str} {t:T} {pos:Pos} (g:GlobC X.K X.mg x t) (hg:Gl X x):JE X Ek (.Name x pos) (eC t):=by
 obtain ⟨u,v,h1,h2,h3⟩:=g.ex
 exact AVQ hg h1 h2 h3 g.dbg
theorem AXX {pins:List (Addr × Obj)} {σ:St} {H:Hp} {s:Shared} {t:T} {x:V} {u:Value} {n:String} (I:Inv X pins σ H s) (r:Rep X.K H t x) (ru:RelV x u) (e:AGL t=some n) :
  ∃Hq,PySem.W.KitX X.K u (.type n) Hq∧Hq s.heap∧u≠.builtin "__main__.__loader__#opaque":=by
 cases t with
 | none=>unfold Rep at r;subst r;cases ru;cases e;exact ⟨_,PySem.W.kitx_none,True.intro,fun z=>nomatch z⟩
 | bool b=>unfold Rep at r;subst r;cases ru;cases e;exact ⟨_,PySem.W.kitx_bool,True.intro,fun z=>nomatch z⟩
 | int i=>unfold Rep at r;subst r;obtain ⟨t,rfl⟩:=ru;cases e;exact ⟨_,PySem.W.kitx_int,True.intro,fun z=>nomatch z⟩
 | str i=>unfold Rep at r;obtain ⟨rfl,_⟩:=r;obtain ⟨t,rfl⟩:=ru;cases e;exact ⟨_,PySem.W.kitx_str,True.intro,fun z=>nomatch z⟩
 | list ts =>
  unfold Rep at r;obtain ⟨a,vs,rfl,hq,_⟩:=r;cases ru;cases e
  obtain ⟨its,rv,⟨o,n,e1,hc,_,hd⟩,_⟩:=I.list hq
  exact ⟨_,PySem.W.kitx_list,⟨o,e1,hc⟩,fun z=>nomatch z⟩
 | tuple ts =>
  unfold Rep at r;obtain ⟨a,vs,rfl,hq,_⟩:=r;cases ru;cases e
  obtain ⟨its,rv,⟨o,e1,hc,n,hd⟩,_⟩:=I.tuple hq
  exact ⟨_,PySem.W.kitx_tuple,⟨o,e1,hc⟩,fun z=>nomatch z⟩
 | dict _=>cases e
def AfP (K:PySem.W.Frag) (c:String):List V→Hp→VK→Prop:=fun xs H Q=>∃x t n b,xs=[x,.ty c]∧Rep K H t x∧AGL t=some n∧PySem.W.kitOne K (.type n) (.type c)=some b∧Q (.bl b) H
theorem AQD {c:String}:AAY X (.builtin "isinstance") (AfP X.K c):=by
 intro pins s σ H xs us Q I r h
 obtain ⟨x,t,n,b,rfl,rt,hn,hk,q⟩:=h
 obtain ⟨u,u2,rfl,r1,r2⟩:=AUL r
 cases r2
 obtain ⟨Hq,kx,hh,hne⟩:=AXX I rt r1 hn
 exact PySem.W.kia_one kx I.kIn hh hk hne fun tk=>⟨.bl b,H,I.tok _,rfl,q⟩
theorem AVI (K:PySem.W.Frag):∀n∈["NoneType","bool","int","str","list","tuple"],∀c∈["bool","int","str","list","tuple"],PySem.W.kitOne K (.type n) (.type c)=some (AXQ n c):=by
 intro n hn c hc
 simp only[List.mem_cons,List.not_mem_nil,or_false]at hn hc
 rcases hn with rfl | rfl | rfl | rfl | rfl | rfl<;>rcases hc with rfl | rfl | rfl | rfl | rfl<;>with_unfolding_all rfl
theorem AL6 {t:T} {n:String} (h:AGL t=some n):n∈["NoneType","bool","int","str","list","tuple"]:=by
 cases t<;>cases h<;>simp
theorem AJP {c:Str} {cn:String} {a:Expr} {ta:FE} {p p2 pos:Pos} (hc:cn∈["bool","int","str","list","tuple"]) (hv:bootBuiltins c=some (.type cn)) (hcn:c≠"__name__") (hcd:(c == ("__debug__" : Str))=false) (hm1:X.mg "isinstance" = none) (hm2:X.mg c=none)
  (hg1:Gl X "isinstance") (hg2:Gl X c) (ha:JE X Ek a ta) (he:starEach [a,.Name c p2] X.env=(false,eval a X.env)::starEach [.Name c p2] X.env) :
  JE X Ek (.Call (.Name "isinstance" p) [a,.Name c p2] [] pos) (e1 (AC0 cn) ta):=by
 have hA:PA X [a,.Name c p2] (AWD (lE X.K Ek ta) (AWD (tC (.ty cn)) AeN)):=ABP ha (ABP (AVX hg2 hm2 hv rfl hcn hcd) AGS rfl) he
 refine PE.weak (AIU (AQD (c:=cn)) hg1 hm1 (by decide +kernel) hA (by decide +kernel) (by decide +kernel) he rfl) fun σ H Q h=>?_
 obtain ⟨ρ,R0,h⟩:=h
 refine ⟨ρ,R0,A7 (Same.refl H) (fun t ht=>?_) (A5 h)⟩
 intro v H1 s1 rt
 obtain ⟨b,eb,q⟩:=Q5 ht
 unfold AC0 at eb
 cases en:AGL t with
 | none=>rw[en]at eb;cases eb
 | some n =>
  rw[en]at eb
  have eb':=Option.some.inj eb
  subst eb'
  exact ⟨v,t,n,_,rfl,rt,en,AVI X.K n (AL6 en) cn hc,q _ H1 s1 D9⟩
theorem AKP {a:Expr} {ta:FE} {p p2 pos:Pos} (B:Blt X.mg) (hg1:Gl X "isinstance") (hg2:Gl X "int") (ha:JE X Ek a ta) (he:starEach [a,.Name "int" p2] X.env=(false,eval a X.env)::starEach [.Name "int" p2] X.env):JE X Ek (.Call (.Name "isinstance" p) [a,.Name "int" p2] [] pos) (e1 (AC0 "int") ta) :=
 AJP (by simp) (by decide +kernel) (by decide +kernel) (by decide +kernel) B.isinstance B.int hg1 hg2 ha he
theorem AHT {a:Expr} {ta:FE} {p p2 pos:Pos} (B:Blt X.mg) (hg1:Gl X "isinstance") (hg2:Gl X "bool") (ha:JE X Ek a ta) (he:starEach [a,.Name "bool" p2] X.env=(false,eval a X.env)::starEach [.Name "bool" p2] X.env):JE X Ek (.Call (.Name "isinstance" p) [a,.Name "bool" p2] [] pos) (e1 (AC0 "bool") ta) :=
 AJP (by simp) (by decide +kernel) (by decide +kernel) (by decide +kernel) B.isinstance B.bool hg1 hg2 ha he
theorem AHG {a:Expr} {ta:FE} {p p2 pos:Pos} (B:Blt X.mg) (hg1:Gl X "isinstance") (hg2:Gl X "list") (ha:JE X Ek a ta) (he:starEach [a,.Name "list" p2] X.env=(false,eval a X.env)::starEach [.Name "list" p2] X.env):JE X Ek (.Call (.Name "isinstance" p) [a,.Name "list" p2] [] pos) (e1 (AC0 "list") ta) :=
 AJP (by simp) (by decide +kernel) (by decide +kernel) (by decide +kernel) B.isinstance B.list hg1 hg2 ha he
theorem AG8 {a:Expr} {ta:FE} {p p2 pos:Pos} (B:Blt X.mg) (hg1:Gl X "isinstance") (hg2:Gl X "tuple") (ha:JE X Ek a ta) (he:starEach [a,.Name "tuple" p2] X.env=(false,eval a X.env)::starEach [.Name "tuple" p2] X.env):JE X Ek (.Call (.Name "isinstance" p) [a,.Name "tuple" p2] [] pos) (e1 (AC0 "tuple") ta) :=
 AJP (by simp) (by decide +kernel) (by decide +kernel) (by decide +kernel) B.isinstance B.tuple hg1 hg2 ha he
def C7:T→T→Option T
 | .int i,.int j=>AcP i j
 | .str x,.int n=>if 0≤n∧n≤10000∧x.length≤1000 then some (.str (Txt.mul x n)) else none
 | _,_=>none
def AYN:R2:=fun x y H Q=>∃z n,x=.str z∧y=.int n∧MulOk z n∧Q (.str (Txt.mul z n)) H
theorem AUN:OpR X (binaryOp .Mult) AYN:=by
 intro pins s σ H x y v u Q I rx ry h
 obtain ⟨z,n,rfl,rfl,ok,q⟩:=h
 obtain ⟨t,rfl⟩:=rx
 obtain ⟨t',rfl⟩:=ry
 exact SB.mul ok fun t' k=>⟨.str _,H,I.tok _,⟨_,rfl⟩,q⟩
theorem AWO {x:Str} {n:Int} (h0:0≤n) (h1:n≤10000) (hx:x.length≤1000):(Txt.mul x n).length≤sizeLine:=by
 have hs:sizeLine=16777216:=sizeLine_eq
 unfold Txt.mul
 split
 ·rw[hs];decide
 ·split
  ·omega
  ·have e:∀(k:Nat) (acc:Array Nat),((List.replicate k x.cps).foldl (·++·) acc).size=acc.size+k*x.cps.size:=by
    intro k
    induction k with
    | zero=>intro acc;simp
    | succ k ih=>intro acc;rw[List.replicate_succ,List.foldl_cons,ih,Array.size_append,Nat.succ_mul];omega
   show ((List.replicate n.toNat x.cps).foldl (·++·) #[]).size≤sizeLine
   rw[e,hs]
   have hx':x.cps.size≤1000:=hx
   have hn:n.toNat≤10000:=by omega
   have:=Nat.mul_le_mul hn hx'
   simp only[List.size_toArray,List.length_nil]
   omega
def AXR:R2:=fun x y H Q=>rI CMulG (fun i j=>.int (i*j)) x y H Q∨AYN x y H Q
theorem AV6:OpR X (binaryOp .Mult) AXR:=op_mulG.or AUN
theorem ASF {K:PySem.W.Frag}:Z7 K AXR C7:=fun x y tx ty a H Q rx ry e q=>by
 match tx,ty,e,rx,ry with
 | .int i,.int j,e,rx,ry=>exact .inl (APR x y (.int i) (.int j) a H Q rx ry e q)
 | .str i,.int n,e,rx,ry =>
  unfold Rep at rx ry
  obtain ⟨rfl,h1⟩:=rx
  subst ry
  have e':(if 0≤n∧n≤10000∧i.length≤1000 then some (PyData.str (Txt.mul i n)) else none)=some a:=e
  by_cases hl:0≤n∧n≤10000∧i.length≤1000
  ·rw[if_pos hl]at e'
   have e2:=Option.some.inj e'
   subst e2
   exact .inr ⟨i,n,rfl,rfl,mulOk_of 1000 10000 hl.2.2 (by have:=hl.2.1;omega) (by have:=hl.1;omega) (by decide) (by decide),q _ H (Same.refl H) (t9 (AWO hl.1 hl.2.1 hl.2.2))⟩
  ·rw[if_neg hl]at e';cases e'
end
def P4:T→Bool
 | .str _=>true
 | _=>false
def eM (f:T→List T→Option T) (o:FE) (a:FA):FE:=fun ρ=>(o ρ).bind fun x=>if P4 x=true then (a ρ).bind fun ts=>.of (f x ts) else .bad
section
variable {X:Cx} {Ek:EK}
def r1 (C:Str→Str→Prop) (g:Str→Str→V):V→List V→Hp→VK→Prop:=fun x xs H Q=>∃z y,x=.str z∧xs=[.str y]∧z.length≤sizeLine∧C z y∧Q (g z y) H
abbrev FO:=Option FE
def AWZ (o:FO) (ρ:Ev):R (Option Int):=match o with
 | none=>.ok none
 | some e=>(e ρ).bind fun t=>match t with
  | .int i=>.ok (some i)
  | _=>.bad
def lO (K:PySem.W.Frag) (Ek:EK) (o:FO):TO:=fun σ H Q=>∃ρ,RepEnv K H ρ σ∧wR Ek H (AWZ o ρ) fun i=>∀H',Same H H'→Q i H'
abbrev JO (X:Cx) (Ek:EK) (e:Option Expr) (o:FO):Prop:=PO X e (lO X.K Ek o)
theorem AU7:JO X Ek none none:=fun pins s σ H Q I h=>AVE pins s σ H Q I (by
 obtain ⟨ρ,R0,h⟩:=h
 exact h H (Same.refl H))
theorem AX6 {e:Expr} {t:FE} (he:JE X Ek e t):JO X Ek (some e) (some t):=fun pins s σ H Q I h=>AU6 he pins s σ H Q I (by
 obtain ⟨ρ,R0,h⟩:=h
 refine ⟨ρ,R0,A7 (Same.refl H) (fun x hx=>?_) (A5 h)⟩
 intro v H1 s1 rx
 cases x with
 | int i =>
  unfold Rep at rx
  exact ⟨i,rx,hx H1 s1⟩
 | _=>exact hx.elim)
end
mutual
def ADH:Nat→Expr→Option T
 | 0,_=>none
 | n+1,e=>match e with
  | .Constant .none _ _=>some .none
  | .Constant (.bool b) _ _=>some (.bool b)
  | .Constant (.int i) _ _=>some (.int i)
  | .Constant (.str x) _ _=>if x.length≤100000 then some (.str x) else none
  | .Tuple es _ _=>(litEs n es).bind fun ts=>if J4 ts.length=true then some (.tuple ts) else none
  | .List es _=>(litEs n es).bind fun ts=>if J4 ts.length=true then some (.list ts) else none
  | .UnaryOp .USub a _=>(ADH n a).bind AJO
  | .BinOp a .Pow b _=>(ADH n a).bind fun x=>(ADH n b).bind fun y=>AFJ x y
  | .BinOp a .Sub b _=>(ADH n a).bind fun x=>(ADH n b).bind fun y=>U8 x y
  | _=>none
def litEs:Nat→List Expr→Option (List T)
 | 0,_=>none
 | n+1,es=>match es with
  | []=>some []
  | e::r=>(ADH n e).bind fun t=>(litEs n r).bind fun ts=>some (t::ts)
end
section
variable {X:Cx} {Ek:EK}
theorem ALA:∀{n:Nat} {e:Expr} {t:T} (es:List Expr),ADH n e=some t→starEach (e::es) X.env=(false,eval e X.env)::starEach es X.env
 | 0,_,_,_,h=>nomatch (show (none:Option T)=some _ from h)
 | n+1,e,t,es,h=>by
  cases e with
  | Starred v p=>exact nomatch (show (none:Option T)=some _ from h)
  | _=>rfl
theorem AMW {K:PySem.W.Frag} {a b:FE} (h:∀ρ,a ρ=b ρ):lE K Ek a=lE K Ek b:=by
 have:a=b:=funext h
 rw[this]
mutual
theorem ACL:∀(n:Nat) (e:Expr) (t:T),ADH n e=some t→JE X Ek e (eC t)
 | 0,_,_,h=>nomatch (show (none:Option T)=some _ from h)
 | n+1,e,t,h=>by
  cases e with
  | Constant c k pos =>
   cases c with
   | none=>have h':some PyData.none=some t:=h;cases h';exact AON
   | bool b=>have h':some (PyData.bool b)=some t:=h;cases h';exact ANE
   | int i=>have h':some (PyData.int i)=some t:=h;cases h';exact AT6
   | str x =>
    replace h:(if x.length≤100000 then some (PyData.str x) else none)=some t:=h
    by_cases hl:x.length≤100000
    ·rw[if_pos hl]at h;cases h
     exact ASO (Nat.le_trans hl (by decide))
    ·rw[if_neg hl]at h;cases h
   | _=>exact nomatch (show (none:Option T)=some _ from h)
  | Tuple es k pos =>
   replace h:((litEs n es).bind fun ts=>if J4 ts.length=true then some (PyData.tuple ts) else none)=some t:=h
   cases hs:litEs n es with
   | none=>rw[hs]at h;cases h
   | some ts =>
    rw[hs]at h
    have h':(if J4 ts.length=true then some (PyData.tuple ts) else none)=some t:=h
    by_cases hl:J4 ts.length=true
    ·rw[if_pos hl]at h';cases h'
     have q:=AT4 (k:=k) (pos:=pos) (ja_lit n es ts hs)
     rw[show JE X Ek (.Tuple es k pos) (eC (.tuple ts))=JE X Ek (.Tuple es k pos) (D4 fun _=>.ok ts) from by
      unfold JE;rw[AMW (Ek:=Ek) (K:=X.K) (a:=eC (.tuple ts)) (b:=D4 fun _=>.ok ts) fun ρ=>by unfold D4 eC;show _=(if J4 ts.length then _ else _);rw[if_pos hl]]]
     exact q
    ·rw[if_neg hl]at h';cases h'
  | List es pos =>
   replace h:((litEs n es).bind fun ts=>if J4 ts.length=true then some (PyData.list ts) else none)=some t:=h
   cases hs:litEs n es with
   | none=>rw[hs]at h;cases h
   | some ts =>
    rw[hs]at h
    have h':(if J4 ts.length=true then some (PyData.list ts) else none)=some t:=h
    by_cases hl:J4 ts.length=true
    ·rw[if_pos hl]at h';cases h'
     have q:=ATE (pos:=pos) (ja_lit n es ts hs)
     rw[show JE X Ek (.List es pos) (eC (.list ts))=JE X Ek (.List es pos) (S7 fun _=>.ok ts) from by
      unfold JE;rw[AMW (Ek:=Ek) (K:=X.K) (a:=eC (.list ts)) (b:=S7 fun _=>.ok ts) fun ρ=>by unfold S7 eC;show _=(if J4 ts.length then _ else _);rw[if_pos hl]]]
     exact q
    ·rw[if_neg hl]at h';cases h'
  | UnaryOp op a pos =>
   cases op with
   | USub =>
    replace h:(ADH n a).bind AJO=some t:=h
    cases ha:ADH n a with
    | none=>rw[ha]at h;cases h
    | some x =>
     rw[ha]at h
     have h':AJO x=some t:=h
     have q:=AZJ (pos:=pos) AT7 AOM (ACL n a x ha)
     rw[show JE X Ek (.UnaryOp .USub a pos) (eC t)=JE X Ek (.UnaryOp .USub a pos) (e1 AJO (eC x)) from by
      unfold JE;rw[AMW (Ek:=Ek) (K:=X.K) (a:=eC t) (b:=e1 AJO (eC x)) fun ρ=>by unfold e1 eC;show _=R.of (AJO x);rw[h'];rfl]]
     exact q
   | _=>exact nomatch (show (none:Option T)=some _ from h)
  | BinOp a op b pos =>
   cases op with
   | Pow =>
    replace h:((ADH n a).bind fun x=>(ADH n b).bind fun y=>AFJ x y)=some t:=h
    cases ha:ADH n a with
    | none=>rw[ha]at h;cases h
    | some x =>
     cases hb:ADH n b with
     | none=>rw[ha,hb]at h;cases h
     | some y =>
      rw[ha,hb]at h
      have h':AFJ x y=some t:=h
      have q:=AE5 (pos:=pos) ASW AMP (ACL n a x ha) (ACL n b y hb)
      rw[show JE X Ek (.BinOp a .Pow b pos) (eC t)=JE X Ek (.BinOp a .Pow b pos) (e2 AFJ (eC x) (eC y)) from by
       unfold JE;rw[AMW (Ek:=Ek) (K:=X.K) (a:=eC t) (b:=e2 AFJ (eC x) (eC y)) fun ρ=>by unfold e2 eC;show _=R.of (AFJ x y);rw[h'];rfl]]
      exact q
   | Sub =>
    replace h:((ADH n a).bind fun x=>(ADH n b).bind fun y=>U8 x y)=some t:=h
    cases ha:ADH n a with
    | none=>rw[ha]at h;cases h
    | some x =>
     cases hb:ADH n b with
     | none=>rw[ha,hb]at h;cases h
     | some y =>
      rw[ha,hb]at h
      have h':U8 x y=some t:=h
      have q:=AE5 (pos:=pos) ATG AN9 (ACL n a x ha) (ACL n b y hb)
      rw[show JE X Ek (.BinOp a .Sub b pos) (eC t)=JE X Ek (.BinOp a .Sub b pos) (e2 U8 (eC x) (eC y)) from by
       unfold JE;rw[AMW (Ek:=Ek) (K:=X.K) (a:=eC t) (b:=e2 U8 (eC x) (eC y)) fun ρ=>by unfold e2 eC;show _=R.of (U8 x y);rw[h'];rfl]]
      exact q
   | _=>exact nomatch (show (none:Option T)=some _ from h)
  | _=>exact nomatch (show (none:Option T)=some _ from h)
theorem ja_lit:∀(n:Nat) (es:List Expr) (ts:List T),litEs n es=some ts→JA X Ek es (fun _=>.ok ts)
 | 0,_,_,h=>nomatch (show (none:Option (List T))=some _ from h)
 | n+1,[],ts,h=>by
  have h':some []=some ts:=h
  cases h'
  exact ALY
 | n+1,e::r,ts,h=>by
  replace h:((ADH n e).bind fun t=>(litEs n r).bind fun ts=>some (t::ts))=some ts:=h
  cases ha:ADH n e with
  | none=>rw[ha]at h;cases h
  | some x =>
   cases hb:litEs n r with
   | none=>rw[ha,hb]at h;cases h
   | some y =>
    rw[ha,hb]at h
    have h':some (x::y)=some ts:=h
    cases h'
    exact ABO (ACL n e x ha) (ja_lit n r y hb) (ALA r ha)
end
end
section
variable {CX:CXT} {P:Program} {w:World} {K:PySem.W.Frag} {mg:Str→Option Value} {base:Heap}
theorem Dfn.fnOk {x:Str} {st:Stmt} {f:Addr} {fd:FuncData} {N ps:List Str} {k:Nat} {m:List T→R T} {t:FS} (F:Fun K x x st f fd) (S:FnScope N ps (C6 st))
  (hbody:∀(cdv:Value) (A:Around) (outer:List Env) (s:Shared) (H:Hp) (E:XK),Room k (A.deeper (envOfC x (C6 st) s.heap.objs.size f cdv))→JSs (W1 CX P w K mg base N x (C6 st) f cdv A outer s H E) (APN K E) (L7 st) t)
  (hm:∀ts,ts.length=ps.length→m ts≠.bad→run N.length t ts=m ts):FnOk P w K mg base CX (k+1) f fd ps (spM K ps.length m):=by
 obtain ⟨oc,od,kV,doc,pm,an,cdv,ct,osl,rfl,lk,hcd⟩:=F.ex
 refine AVY lk hcd S (fun vs H Q E h=>?_) fun A outer s H vs Q E hr hsp=>⟨lS K (APN K E) t,hbody cdv A outer s H E hr,?_⟩
 ·obtain ⟨ts,rl,hl,_⟩:=h
  rw[rl.length,hl]
 ·obtain ⟨ts,rl,hl,h⟩:=hsp
  refine ⟨T0 N.length ts,X3 N rl,?_⟩
  have nb:m ts≠.bad:=fun e=>by rw[e]at h;exact h
  have e:=hm ts hl nb
  unfold run at e
  cases q:t (T0 N.length ts) with
  | nx ρ =>
   rw[q]at e
   rw[←e]at h
   exact fun σ H' s' _=>h .non H' s' AB8
  | rt a =>
   rw[q]at e
   rw[←e]at h
   exact h
  | bk ρ=>rw[q]at e;exact absurd e.symm nb
  | ct ρ=>rw[q]at e;exact absurd e.symm nb
  | bad=>rw[q]at e;exact absurd e.symm nb
  | ex c fs =>
   rw[q]at e
   rw[←e]at h
   exact fun H' s' C hC=>h H' C s' hC
end
theorem AG4 {K:PySem.W.Frag} {H:Hp}:∀ns:List Int,RepL K H (ns.map PyData.int) (ns.map V.int)
 | []=>C5
 | n::r=>B6 C3 (AG4 r)
theorem AXH {K:PySem.W.Frag} {H:Hp} {a:Addr} {ns:List Int} {m:List T→R T} {b:Nat} (h:∀ns:List Int,ns.length≤b→m [.list (ns.map PyData.int)]=.ok (.bool true)) (hl:ns.length≤b) (hS:SqL K H a (ns.map V.int)):spM K 1 m [.ref a] H (fun v _=>v=.bl true) fun _ _ _=>False:=by
 refine ⟨[.list (ns.map PyData.int)],B6 ?_ C5,rfl,?_⟩
 ·unfold Rep;exact ⟨a,ns.map V.int,rfl,hS,AG4 ns⟩
 ·rw[h ns hl]
  intro v H' _ r
  unfold Rep at r
  exact r
structure Only (fs ex:List Addr) (h h':Heap):Prop where
 keep:∀b o,h.get? b=some o→b ∉ fs→b ∉ ex→h'.get? b=some o
 slot:∀b o,h.get? b=some o→b∈fs→b ∉ ex→∃sl,h'.get? b=some {o with slots:=sl}
theorem Only.mono {fs ex ex':List Addr} {h h':Heap} (x:Only fs ex h h') (i:∀b,b∈ex→b∈ex'):Only fs ex' h h' :=
 ⟨fun b o e n m=>x.keep b o e n fun q=>m (i b q),fun b o e n m=>x.slot b o e n fun q=>m (i b q)⟩
theorem Only.trans {fs ex:List Addr} {h h1 h2:Heap} (x:Only fs ex h h1) (y:Only fs ex h1 h2):Only fs ex h h2 :=
 ⟨fun b o e n m=>y.keep b o (x.keep b o e n m) n m,fun b o e n m=>by
  obtain ⟨sl,e1⟩:=x.slot b o e n m
  obtain ⟨sl2,e2⟩:=y.slot b _ e1 n m
  exact ⟨sl2,e2⟩⟩
theorem AW6 (o:Obj) (g:Array Value→Array Value):(o.mapFields g).dict=o.dict:=by
 obtain ⟨c,d,dt,sl⟩:=o
 cases dt<;>rfl
structure ExcAt (h:Heap) (e:Addr) (cls a0:Value) (T:Addr) (fl:Value):Prop where
 obj:∃oe vs,h.get? e=some oe∧oe.cls=cls∧oe.dict=none∧oe.data=.fields vs∧vs[0]?=some a0∧vs[1]?=some (.ref T)
 head:∃oT ts,h.get? T=some oT∧oT.data=.fields ts∧ts[3]?=some fl
 ne:T≠e
section
variable {M:Model} {A:Around} {E:Value→Shared→Prop} {s:Shared}
theorem AJR {base:Heap} {env:Env} {outer:List Env} {L e:Addr} {oe:Obj} {vs:Array Value} {hd a0:Value} {had:Bool} {Q:Unit→Shared→Prop}
  (hfr:A.frames=some (env::outer)) (hl:s.heap.FunFrames base (env::outer)) (hf:env.frame=some L) (he:s.heap.get? e=some oe) (hdn:oe.dict=none) (hdt:oe.data=.fields vs) (hsz:1<vs.size) (h0:vs[0]?=some a0)
  (h:∀h' T,s.heap.get? T=none→ExcAt h' e oe.cls a0 T (rawInt L)→Only ((env::outer).filterMap (·.frame)) [e] s.heap h'→h'.FunFrames base (env::outer)→Q () {s with heap:=h'}) :
  wpAny M A (do let a←frameOf env;let pl←entryPlaceOf L had;let b←EntryCells.newEntry hd a .none (rawInt L) .none pl;setField (.ref e) 1 b) Q E s:=by
 have hene:e ∉ (env::outer).filterMap (·.frame):=fun hm=>by
  obtain ⟨_,o,ho,hnf⟩:=hl.mem hm
  rw[he]at ho
  cases ho
  exact hnf vs hdt
 refine wpAny_bind (wpAny_frameOf_fun hfr hl hf fun h1 hs1=>?_)
 refine wpAny_bind (wpAny_entryPlaceOf fun pl hpl=>?_)
 unfold EntryCells.newEntry newFields
 refine wpAny_bind (wpAny_newObj_type ?_ (hpl.sizeOk5 _ _ _ _ _))
 have he1:h1.get? e=some oe:=(hs1.2.1 e hene).trans he
 generalize hob:({cls:=.type "traceback",dict:=none,data:=.fields ([hd,.ref L,.none,rawInt L,.none]++(if pl.isEmpty then List.replicate 6 Value.none else pl)).toArray}:Obj)=ob
 have obd:ob.data=.fields ([hd,.ref L,.none,rawInt L,.none]++(if pl.isEmpty then List.replicate 6 Value.none else pl)).toArray:=by rw[←hob]
 have he2:=Heap.get?_push_of_some (h:=h1) ob he1
 have ne:h1.objs.size≠e:=Nat.ne_of_gt (Heap.lt_size he1)
 have hd3:=Obj.data_mapFields hdt (·.setIfInBounds 1 (Value.ref h1.objs.size))
 refine wpAny_setField he2 hdt hsz (h _ h1.objs.size ?_ ⟨⟨_,_,Heap.get?_update_self _ he2 (Obj.isFreed_of_fields hd3),Obj.cls_mapFields _ _,(AW6 _ _).trans hdn,hd3,?_,by simp[hsz]⟩,⟨ob,_,?_,obd,?_⟩,ne⟩ ⟨fun b o q n m=>?_,fun b o q n m=>?_⟩ (hl.of_keeps fun b o q nf=>?_))
 ·cases q:s.heap.get? h1.objs.size with
  | none=>rfl
  | some o =>
   obtain ⟨sl,q2⟩:=hs1.2.2 _ o q
   exact absurd (Heap.lt_size q2) (Nat.lt_irrefl _)
 ·rw[Array.getElem?_setIfInBounds_ne (by decide)];exact h0
 ·rw[Heap.get?_update_other _ _ (Ne.symm ne)]
  have z:ob.isFreed=false:=Obj.isFreed_of_fields obd
  exact Heap.get?_push_size h1 z
 ·rfl
 ·rw[Heap.get?_update_other _ _ (fun z=>m (by rw[z];exact List.mem_singleton_self _))]
  exact Heap.get?_push_of_some _ ((hs1.2.1 b n).trans q)
 ·obtain ⟨sl,q2⟩:=hs1.2.2 b o q
  refine ⟨sl,?_⟩
  rw[Heap.get?_update_other _ _ (fun z=>m (by rw[z];exact List.mem_singleton_self _))]
  exact Heap.get?_push_of_some _ q2
 ·obtain ⟨sl,q2⟩:=hs1.2.2 b o q
  have hbe:b≠e:=fun z=>by
   rw[z,he]at q
   cases q
   exact nf vs hdt
  refine ⟨{o with slots:=sl},?_,rfl⟩
  rw[Heap.get?_update_other _ _ (Ne.symm hbe)]
  exact Heap.get?_push_of_some _ q2
structure New (h:Heap) (e:Addr) (cls a0:Value):Prop where
 obj:∃oe vs,h.get? e=some oe∧oe.cls=cls∧oe.dict=none∧oe.data=.fields vs∧vs[0]?=some a0∧vs[1]?=some .none
theorem AKK {base:Heap} {env:Env} {outer:List Env} {L e:Addr} {cls a0:Value} {Q:Unit→Shared→Prop}
  (hfr:A.frames=some (env::outer)) (hl:s.heap.FunFrames base (env::outer)) (hf:env.frame=some L) (x:New s.heap e cls a0)
  (h:∀h' T,s.heap.get? T=none→ExcAt h' e cls a0 T (rawInt L)→Only ((env::outer).filterMap (·.frame)) [e] s.heap h'→h'.FunFrames base (env::outer)→Q () {s with heap:=h'}) :
  wpAny M A (noteFrame (.ref e) env) Q E s:=by
 obtain ⟨oe,vs,he,rfl,hdn,hd,h0,h1⟩:=x.obj
 unfold noteFrame
 simp only[hf]
 refine wpAny_bind (wpAny_field he hd h1 ?_)
 rw[if_neg (by decide)]
 exact AJR hfr hl hf he hdn hd (Array.getElem?_eq_some_iff.mp h1).1 h0 h
theorem ANG {base:Heap} {env:Env} {outer:List Env} {L e T:Addr} {cls a0:Value} {Q:Unit→Shared→Prop}
  (hfr:A.frames=some (env::outer)) (hl:s.heap.FunFrames base (env::outer)) (hf:env.frame=some L) (x:ExcAt s.heap e cls a0 T .none)
  (h:∀h' T',s.heap.get? T'=none→ExcAt h' e cls a0 T' (rawInt L)→Only ((env::outer).filterMap (·.frame)) [e,T] s.heap h'→h'.FunFrames base (env::outer)→Q () {s with heap:=h'}) :
  wpAny M A (noteFrame (.ref e) env) Q E s:=by
 obtain ⟨oe,vs,he,rfl,hdn,hd,h0,h1⟩:=x.obj
 obtain ⟨oT,ts,hT,hdT,h3⟩:=x.head
 unfold noteFrame
 simp only[hf]
 refine wpAny_bind (wpAny_field he hd h1 ?_)
 rw[if_pos (show (Value.ref T != Value.none)=true from by simp)]
 refine wpAny_bind (wpAny_field hT hdT h3 ?_)
 rw[if_neg (show ¬((Value.none == rawInt L)=true) from by simp[rawInt])]
 refine wpAny_bind (wpAny_setField hT hdT (Array.getElem?_eq_some_iff.mp h3).1 ?_)
 have oth:∀b,b≠T→(s.heap.update T (Obj.mapFields (·.setIfInBounds 3 Value.none))).get? b=s.heap.get? b:=fun b hb=>Heap.get?_update_other _ _ (Ne.symm hb)
 have nor:∀b o,s.heap.get? b=some o→(∀vs,o.data≠.fields vs)→b≠T:=fun b o hb hnf q=>by
  rw[q,hT]at hb
  cases hb
  exact hnf ts hdT
 refine AJR hfr (hl.of_keeps fun b o hb hnf=>⟨o,(oth b (nor b o hb hnf)).trans hb,rfl⟩) hf ((oth e (Ne.symm x.ne)).trans he) hdn hd (Array.getElem?_eq_some_iff.mp h1).1 h0 fun h' T' n1 n2 n3 n4=>h h' T' ?_ n2 ⟨fun b o q n m=>?_,fun b o q n m=>?_⟩ n4
 ·by_cases hq:T'=T
  ·subst hq
   rw[Heap.get?_update_self _ hT (Obj.isFreed_of_fields (Obj.data_mapFields hdT _))]at n1
   cases n1
  ·rw[←oth T' hq];exact n1
 ·have hb:b≠T:=fun z=>m (by rw[z];simp)
  exact n3.keep b o ((oth b hb).trans q) n fun z=>m (by rw[List.mem_singleton.mp z];simp)
 ·have hb:b≠T:=fun z=>m (by rw[z];simp)
  exact n3.slot b o ((oth b hb).trans q) n fun z=>m (by rw[List.mem_singleton.mp z];simp)
theorem AeD {base:Heap} {l:List Env} {e T:Addr} {cls a0 fl:Value} {fs:List Addr} {Q:Unit→Shared→Prop} (hl:s.heap.FunFrames base l) (x:ExcAt s.heap e cls a0 T fl) (hfs:T ∉ fs)
  (h:∀h',ExcAt h' e cls a0 T .none→Only fs [T] s.heap h'→h'.FunFrames base l→Q () {s with heap:=h'}):wpAny M A (setFlight (.ref e) none) Q E s:=by
 obtain ⟨oe,vs,he,hc,hdn,hd,h0,h1⟩:=x.obj
 obtain ⟨oT,ts,hT,hdT,h3⟩:=x.head
 have sz:3<ts.size:=(Array.getElem?_eq_some_iff.mp h3).1
 unfold setFlight
 refine wpAny_bind (wpAny_field he hd h1 ?_)
 rw[if_pos (show (Value.ref T != Value.none)=true from by simp)]
 have oth:∀b,b≠T→(s.heap.update T (Obj.mapFields (·.setIfInBounds 3 ((none:Option Addr).elim Value.none fun f=>rawInt f)))).get? b=s.heap.get? b:=fun b hb=>Heap.get?_update_other _ _ (Ne.symm hb)
 refine wpAny_setField hT hdT sz (h _ ⟨⟨oe,vs,(oth e (Ne.symm x.ne)).trans he,hc,hdn,hd,h0,h1⟩,⟨_,_,Heap.get?_update_self _ hT (Obj.isFreed_of_fields (Obj.data_mapFields hdT _)),Obj.data_mapFields hdT _,by simp[sz]⟩,x.ne⟩ ⟨fun b o q n m=>?_,fun b o q n m=>?_⟩ (hl.of_keeps fun b o q nf=>?_))
 ·exact (oth b (fun z=>m (by rw[z];simp))).trans q
 ·exact ⟨o.slots,(oth b (fun z=>m (by rw[z];simp))).trans q⟩
 ·refine ⟨o,(oth b (fun z=>?_)).trans q,rfl⟩
  rw[z,hT]at q
  cases q
  exact nf ts hdT
theorem AIJ {base:Heap} {env:Env} {outer:List Env} {L e:Addr} {cls a0:Value} {Q:Unit→Shared→Prop}
  (hfr:A.frames=some (env::outer)) (hl:s.heap.FunFrames base (env::outer)) (hf:env.frame=some L) (x:New s.heap e cls a0)
  (h:∀h' T,s.heap.get? T=none→ExcAt h' e cls a0 T .none→Only ((env::outer).filterMap (·.frame)) [e,T] s.heap h'→h'.FunFrames base (env::outer)→Q () {s with heap:=h'}) :
  wpAny M A (leaving env (.ref e)) Q E s:=by
 unfold leaving
 refine wpAny_bind (AKK hfr hl hf x fun h1 T n1 n2 n3 n4=>?_)
 have hT:T ∉ (env::outer).filterMap (·.frame):=fun hm=>by
  obtain ⟨_,o,ho,_⟩:=hl.mem hm
  rw[n1]at ho;cases ho
 refine AeD (s:={s with heap:=h1}) n4 n2 hT fun h2 k1 k2 k3=>h h2 T n1 k1 (Only.trans (n3.mono ?_) (k2.mono ?_)) k3
 ·intro b hb;rw[List.mem_singleton.mp hb];simp
 ·intro b hb;rw[List.mem_singleton.mp hb];simp
theorem AL7 {base:Heap} {env:Env} {outer:List Env} {L e T:Addr} {cls a0:Value} {Q:Unit→Shared→Prop}
  (hfr:A.frames=some (env::outer)) (hl:s.heap.FunFrames base (env::outer)) (hf:env.frame=some L) (x:ExcAt s.heap e cls a0 T .none)
  (h:∀h' T',s.heap.get? T'=none→ExcAt h' e cls a0 T' .none→Only ((env::outer).filterMap (·.frame)) [e,T,T'] s.heap h'→h'.FunFrames base (env::outer)→Q () {s with heap:=h'}) :
  wpAny M A (leaving env (.ref e)) Q E s:=by
 unfold leaving
 refine wpAny_bind (ANG hfr hl hf x fun h1 T' n1 n2 n3 n4=>?_)
 have hT:T' ∉ (env::outer).filterMap (·.frame):=fun hm=>by
  obtain ⟨_,o,ho,_⟩:=hl.mem hm
  rw[n1]at ho;cases ho
 refine AeD (s:={s with heap:=h1}) n4 n2 hT fun h2 k1 k2 k3=>h h2 T' n1 k1 (Only.trans (n3.mono ?_) (k2.mono ?_)) k3
 ·intro b hb;simp at hb ⊢;rcases hb with z | z<;>simp[z]
 ·intro b hb;rw[List.mem_singleton.mp hb];simp
end
theorem ARA {P:Program} {w:World} {H:Hp} {h h':Heap} {fs ex:List Addr} (x:HOk P w H h) (o:Only fs ex h h') (hf:∀b∈fs,H b=none) (he:∀b∈ex,H b=none):HOk P w H h':=fun a u e =>
 (x a u e).stay (fun b v hb q=>o.keep b v q (fun z=>by
  have:=hf b z
  rcases hb with rfl | hb
  ·rw[e]at this;cases this
  ·rw[hb]at this;cases this) fun z=>by
  have:=he b z
  rcases hb with rfl | hb
  ·rw[e]at this;cases this
  ·rw[hb]at this;cases this) (fun _ q=>q) fun _ _ q=>q
theorem AIK {P:Program} {w:World} {H:Hp} {h:Heap} {a:Addr} {o:HO} (x:ObjOk P w H h a o):∃u,h.get? a=some u:=by
 cases o with
 | lst xs=>obtain ⟨_,_,_,_,e⟩:=x;exact ⟨_,e⟩
 | tup xs=>obtain ⟨_,_,_,ob,e,_⟩:=x;exact ⟨_,e⟩
 | dK kvs=>obtain ⟨_,_,_,_,o,_,_,e,_⟩:=x;exact ⟨_,e⟩
 | dT kvs=>obtain ⟨_,_,_,_,o,_,_,e,_⟩:=x;exact ⟨_,e⟩
 | set S n=>obtain ⟨o,_,_,_,e,_⟩:=x;exact ⟨_,e⟩
 | ins C dx fs=>obtain ⟨_,_,_,e,_⟩:=x;exact ⟨_,e⟩
 | own y=>obtain ⟨_,e⟩:=x;exact ⟨_,e⟩
 | xd fs=>obtain ⟨_,⟨_,_,_,e,_⟩,_⟩:=x;exact ⟨_,e⟩
 | rng lo hi=>obtain ⟨_,_,_,e⟩:=x;exact ⟨_,e⟩
 | frz ob u=>obtain ⟨e,_⟩:=x;exact ⟨_,e⟩
 | tbl ps=>exact ⟨_,(show h.get? a=some _ from x)⟩
 | met f y=>exact ⟨_,(show h.get? a=some _ from x)⟩
 | ext φ=>obtain ⟨_,⟨_,e⟩,_⟩:=x;exact ⟨_,e⟩
theorem AE2 {P:Program} {w:World} {H:Hp} {h:Heap} {a:Addr} (x:HOk P w H h) (n:h.get? a=none):H a=none:=by
 cases q:H a with
 | none=>rfl
 | some u =>
  obtain ⟨v,e⟩:=AIK (x a u q)
  rw[n]at e;cases e
def CXE (P:Program) (w:World) (base:Heap):CXT:=fun outer H s E e s'=>∃ea cls a0 T H',e=.ref ea∧s'.os=s.os∧AllBare s'.gens∧Un (frs outer) [] H H' s.heap s'.heap∧HOk P w H' s'.heap∧s'.heap.FunFrames base outer ∧
 ExcAt s'.heap ea cls a0 T .none∧s.heap.get? ea=none∧s.heap.get? T=none∧H' ea=none∧H' T=none∧E cls none H'
section
variable {P:Program} {w:World} {K:PySem.W.Frag} {mg:Str→Option Value} {base:Heap} {N:List Str} {qual:Str} {scope:Scope} {f:Addr} {cd:Value} {A:Around} {outer:List Env} {s0:Shared} {H0:Hp} {E:XK}
theorem AN4 {pins:List (Addr × Obj)} {σ:L2.St} {H:Hp} {s:Shared} {h':Heap} {ea T T':Addr} {cls a0:Value} {ex:List Addr} (J:Inv (W1 (CXE P w base) P w K mg base N qual scope f cd A outer s0 H0 E) pins σ H s)
  (o:Only (frs (envOfC qual scope s0.heap.objs.size f cd::outer)) ex s.heap h') (hx:∀b∈ex,H b=none∧s0.heap.get? b=none) (ff:h'.FunFrames base (envOfC qual scope s0.heap.objs.size f cd::outer)) (x:ExcAt h' ea cls a0 T .none)
  (n1:s0.heap.get? ea=none) (n2:s0.heap.get? T=none) (f1:H ea=none) (f2:H T=none) (q:E cls none H):CXE P w base outer H0 s0 E (.ref ea) {s with heap:=h'}:=by
 have hfree:∀b∈frs (envOfC qual scope s0.heap.objs.size f cd::outer),H b=none:=J.stkFree
 have hfs:∀b,b ∉ frs outer→∀u,s0.heap.get? b=some u→b ∉ frs (envOfC qual scope s0.heap.objs.size f cd::outer):=fun b hb u hu hm=>by
  rcases List.mem_cons.mp (J.stkSub b hm) with z | z
  ·have:=J.ok.above
   have lt:=Heap.lt_size hu
   rw[z]at lt
   exact absurd (Nat.lt_of_lt_of_le lt this) (Nat.lt_irrefl _)
  ·exact hb z
 have hnx:∀b u,s0.heap.get? b=some u→b ∉ ex:=fun b u hu z=>by rw[(hx b z).2]at hu;cases hu
 have hsub:∀b,b∈frs outer→b∈frs (envOfC qual scope s0.heap.objs.size f cd::outer):=fun b hb=>by
  unfold frs at hb ⊢
  rw[List.filterMap_cons]
  split
  ·exact hb
  ·exact List.mem_cons_of_mem _ hb
 have nil:∀b,b ∉ (W1 (CXE P w base) P w K mg base N qual scope f cd A outer s0 H0 E).ex:=fun b z=>absurd (show b∈([]:List Addr) from z) (by simp)
 obtain ⟨_,_,ff'⟩:=ff
 refine ⟨ea,cls,a0,T,H,rfl,J.os,J.bare,⟨fun b u e n hb hx'=>?_,fun b u e n hb hx'=>?_,fun b u e n hx'=>J.base.free b u e n (nil b),fun b u e hx'=>?_,J.base.tups,J.base.frzs,J.base.tbls⟩,ARA J.hok o hfree fun b hb=>(hx b hb).1,ff',x,n1,n2,f1,f2,q⟩
 ·exact o.keep b u (J.base.keep b u e n hb (nil b)) (hfs b hb u e) (hnx b u e)
 ·obtain ⟨sl,e2⟩:=J.base.slot b u e n hb (nil b)
  obtain ⟨sl2,e3⟩:=o.slot b _ e2 (hsub b hb) (hnx b u e)
  exact ⟨sl2,e3⟩
 ·obtain ⟨u2,e2⟩:=J.base.there b u e (nil b)
  by_cases hm:b∈frs (envOfC qual scope s0.heap.objs.size f cd::outer)
  ·obtain ⟨sl,e3⟩:=o.slot b u2 e2 hm (hnx b u e)
   exact ⟨_,e3⟩
  ·exact ⟨u2,o.keep b u2 e2 hm (hnx b u e)⟩
theorem AcZ:Y1 (CXE P w base) (W1 (CXE P w base) P w K mg base N qual scope f cd A outer s0 H0 E) E:=by
 intro pins σ H s e s' I h
 obtain ⟨ea,cls,a0,T,H',rfl,os,bare,un,hok,ff,x,n1,n2,f1,f2,q⟩:=h
 have J:Inv (W1 (CXE P w base) P w K mg base N qual scope f cd A outer s0 H0 E) pins σ H' s':=I.call' os un hok bare (fun b z=>absurd z (by simp))
 have fresh:∀b,s.heap.get? b=none→s0.heap.get? b=none:=fun b hb=>by
  cases hq:s0.heap.get? b with
  | none=>rfl
  | some u =>
   obtain ⟨u2,e2⟩:=I.base.there b u hq (by show b ∉ ([]:List Addr);simp)
   rw[hb]at e2;cases e2
 have fresh2:∀b,s'.heap.get? b=none→s0.heap.get? b=none∧H' b=none:=fun b hb=>by
  refine ⟨?_,?_⟩
  ·cases hq:s0.heap.get? b with
   | none=>rfl
   | some u =>
    obtain ⟨u2,e2⟩:=J.base.there b u hq (by show b ∉ ([]:List Addr);simp)
    rw[hb]at e2;cases e2
  ·exact AE2 J.hok hb
 show wpAny _ _ (leaving _ (.ref ea)) _ _ s'
 refine AL7 (base:=base) (outer:=outer) (L:=s0.heap.objs.size) J.ok.frames ff rfl x fun h' T' m1 m2 m3 m4=>?_
 refine AN4 (T':=T') J m3 (fun b hb=>?_) m4 m2 (fresh _ n1) (fresh2 _ m1).1 f1 (fresh2 _ m1).2 q
 rcases List.mem_cons.mp hb with rfl | hb
 ·exact ⟨f1,fresh _ n1⟩
 ·rcases List.mem_cons.mp hb with rfl | hb
  ·exact ⟨f2,fresh _ n2⟩
  ·rw[List.mem_singleton.mp hb]
   exact ⟨(fresh2 _ m1).2,(fresh2 _ m1).1⟩
end
def AH5 (K:PySem.W.Frag) (C:Addr):Prop:=∀h:Heap,K.In h→∃(nm q:Str) (N:Addr) (bs bm:List Value) (hdct:Bool) (sn:List Str) (sub:List Value) (ab:Bool) (col:Option Bool) (dd:Option Addr) (k0 k1 k2 k3 k5:Option Value) (mN:Str→Option Value),
 h.get? C=some (excClassObj nm q C N bs bm hdct sn sub ab col dd k0 k1 k2 k3 k5 "ValueError.__new__")∧h.Ns N mN∧mN "__init__" = none∧OwnTail h [.type "ValueError",.type "Exception",.type "BaseException",.type "object"] bm∧bm.contains (.type "BaseException")=true
def AZ8 (C:Addr) (E:XK) (t:TA):TS:=fun _ σ H=>t σ H fun vs H1=>vs.length≤1000∧E (.ref C) none H1
section
variable {P:Program} {w:World} {K:PySem.W.Frag} {mg:Str→Option Value} {base:Heap} {N:List Str} {qual:Str} {scope:Scope} {f:Addr} {cd:Value} {A:Around} {outer:List Env} {s0:Shared} {H0:Hp} {E:XK}
theorem AQV {pins:List (Addr × Obj)} {σ:L2.St} {H:Hp} {s:Shared} {h':Heap} {e:Addr} {cls:Value} {vs:List Value} (I:Inv (W1 (CXE P w base) P w K mg base N qual scope f cd A outer s0 H0 E) pins σ H s)
  (x:Heap.MadeExcOf s.heap h' e cls vs) (q:E cls none H):(W1 (CXE P w base) P w K mg base N qual scope f cd A outer s0 H0 E).xe (.ref e) {s with heap:=h'}:=by
 have J:Inv (W1 (CXE P w base) P w K mg base N qual scope f cd A outer s0 H0 E) pins σ H {s with heap:=h'}:=I.call' (ch:=[]) rfl (Un.kept x.keeps) (I.hok.kept x.keeps) I.bare (fun b z=>absurd z (by simp))
 have fresh:∀b,s.heap.get? b=none→s0.heap.get? b=none:=fun b hb=>by
  cases hq:s0.heap.get? b with
  | none=>rfl
  | some u =>
   obtain ⟨u2,e2⟩:=I.base.there b u hq (by show b ∉ ([]:List Addr);simp)
   rw[hb]at e2;cases e2
 have fresh2:∀b,h'.get? b=none→s0.heap.get? b=none∧H b=none:=fun b hb=>by
  refine ⟨?_,AE2 J.hok hb⟩
  cases hq:s0.heap.get? b with
  | none=>rfl
  | some u =>
   obtain ⟨u2,e2⟩:=J.base.there b u hq (by show b ∉ ([]:List Addr);simp)
   have hb':({s with heap:=h'}:Shared).heap.get? b=none:=hb
   rw[hb']at e2;cases e2
 obtain ⟨t,ht,_,_⟩:=x.there
 have he:H e=none:=AE2 I.hok x.new
 show wpAny _ _ (leaving _ (.ref e)) _ _ _
 refine AIJ (base:=base) (outer:=outer) (L:=s0.heap.objs.size) (cls:=cls) (a0:=.ref t) J.ok.frames J.stack rfl ⟨_,_,ht,rfl,rfl,rfl,rfl,rfl⟩ fun h2 T m1 m2 m3 m4=>?_
 refine AN4 (T':=T) J m3 (fun b hb=>?_) m4 m2 (fresh _ x.new) (fresh2 _ m1).1 he (fresh2 _ m1).2 q
 rcases List.mem_cons.mp hb with rfl | hb
 ·exact ⟨he,fresh _ x.new⟩
 ·rw[List.mem_singleton.mp hb]
  exact ⟨(fresh2 _ m1).2,(fresh2 _ m1).1⟩
theorem APT {C:Addr} {x:Str} {e:Expr} {es:List Expr} {t:TA} {np cpos pos:Pos} (B:AH5 K C) (hg:Gl (W1 (CXE P w base) P w K mg base N qual scope f cd A outer s0 H0 E) x) (hm:mg x=some (.ref C))
  (ha:PA (W1 (CXE P w base) P w K mg base N qual scope f cd A outer s0 H0 E) (e::es) t) (hdb:(x == ("__debug__" : Str))=false)
  (he:starEach (e::es) (W1 (CXE P w base) P w K mg base N qual scope f cd A outer s0 H0 E).env=(false,eval e (W1 (CXE P w base) P w K mg base N qual scope f cd A outer s0 H0 E).env)::starEach es (W1 (CXE P w base) P w K mg base N qual scope f cd A outer s0 H0 E).env)
  (hpl:(backTo cpos (starEach es (W1 (CXE P w base) P w K mg base N qual scope f cd A outer s0 H0 E).env)).any (·.1)=false) :
  PS (W1 (CXE P w base) P w K mg base N qual scope f cd A outer s0 H0 E) (.Raise (some (.Call (.Name x np) (e::es) [] cpos)) none pos) (AZ8 C E t):=by
 intro pins s σ H D I h
 obtain ⟨nm,q,NN,bs,bm,hdct,sn,sub,ab,col,dd,k0,k1,k2,k3,k5,mN,hC,hN,hi,T,hb⟩:=B _ I.ok.mod.kin
 have hplain:(backTo cpos (starEach (e::es) (W1 (CXE P w base) P w K mg base N qual scope f cd A outer s0 H0 E).env)).any (·.1)=false:=by
  rw[he]
  show (false||(backTo cpos (starEach es _)).any (·.1))=false
  rw[hpl];rfl
 refine wpAny_Raise_call_subT (C:=C) (nm:=nm) (q:=q) (N:=NN) (bs:=bs) (bm:=bm) (hdct:=hdct) (sn:=sn) (sub:=sub) (ab:=ab) (col:=col) (dd:=dd) (k0:=k0) (k1:=k1) (k2:=k2) (k3:=k3) (k5:=k5) (mN:=mN) PySem.F.excBase_ValueError hb (I.ok.hd rfl) hplain hi (AHN I hg hm ⟨rfl,?_⟩ hdb)
 have hrun:=ha cpos pins s σ H _ I h
 rw[he]at hrun ⊢
 refine Calls.evalArgs_plain (wpAny_mono hrun (fun us s1 hs=>?_) fun _ _ z=>z)
 obtain ⟨vs,H1,I1,r,hl,hE⟩:=hs
 refine ⟨rfl,?_,I1.bk _ _ hC,hN.keeps I1.bk,T.keeps I1.bk,fun h' ea hx=>AQV I1 hx hE⟩
 show us.length≤sizeLine
 rw[←r.length]
 exact Nat.le_trans hl (by decide)
end
def ABH (c:Str) (a:FA):FS:=fun ρ=>N3 (a ρ) fun xs=>if J4 xs.length=true then .ex c [] else .bad
section
variable {P:Program} {w:World} {K:PySem.W.Frag} {mg:Str→Option Value} {base:Heap} {N:List Str} {qual:Str} {scope:Scope} {f:Addr} {cd:Value} {A:Around} {outer:List Env} {s0:Shared} {H0:Hp} {E:XK} {Ek:EK}
theorem AR1 {C:Addr} {x:Str} {e:Expr} {es:List Expr} {t:FA} {np cpos pos:Pos} (B:AH5 K C) (hc:AKI K x C) (hE:∀cv dx H,AQA K Ek cv dx H→E cv dx H) (hg:Gl (W1 (CXE P w base) P w K mg base N qual scope f cd A outer s0 H0 E) x) (hm:mg x=some (.ref C))
  (ha:JA (W1 (CXE P w base) P w K mg base N qual scope f cd A outer s0 H0 E) Ek (e::es) t) (hdb:(x == ("__debug__" : Str))=false)
  (he:starEach (e::es) (W1 (CXE P w base) P w K mg base N qual scope f cd A outer s0 H0 E).env=(false,eval e (W1 (CXE P w base) P w K mg base N qual scope f cd A outer s0 H0 E).env)::starEach es (W1 (CXE P w base) P w K mg base N qual scope f cd A outer s0 H0 E).env)
  (hpl:(backTo cpos (starEach es (W1 (CXE P w base) P w K mg base N qual scope f cd A outer s0 H0 E).env)).any (·.1)=false) :
  JS (W1 (CXE P w base) P w K mg base N qual scope f cd A outer s0 H0 E) Ek (.Raise (some (.Call (.Name x np) (e::es) [] cpos)) none pos) (ABH x t):=by
 refine PS.weak (APT B hg hm ha hdb he hpl) fun D σ H h=>?_
 obtain ⟨ρ,R,h⟩:=h
 refine ⟨ρ,R,A7 (Same.refl H) (fun xs hx=>?_) (Q2 h)⟩
 intro vs H1 s1 rx
 by_cases hs:J4 xs.length=true
 ·rw[if_pos hs]at hx
  have hx':∀H',Same H H'→Ek x [] H':=hx
  exact ⟨by rw[rx.length];exact of_decide_eq_true hs,hE _ _ _ ⟨x,C,rfl,rfl,hc,hx' H1 s1⟩⟩
 ·rw[if_neg hs]at hx;exact hx.elim
end
structure ErrK (K:PySem.W.Frag) (mg:Str→Option Value) (x:Str):Prop where
 ex:∃C,AH5 K C∧AKI K x C∧mg x=some (.ref C)
 dbg:(x == ("__debug__" : Str))=false
section
variable {P:Program} {w:World} {base:Heap}
theorem AQQ {outer:List Env} {H:Hp} {s s':Shared} {E E':XK} {e:Value} (h:CXE P w base outer H s E e s') (i:∀cv dx H,E cv dx H→E' cv dx H):CXE P w base outer H s E' e s':=by
 obtain ⟨ea,cls,a0,T,H',h1,h2,h3,h4,h5,h6,h7,h8,h9,h10,h11,q⟩:=h
 exact ⟨ea,cls,a0,T,H',h1,h2,h3,h4,h5,h6,h7,h8,h9,h10,h11,i _ _ _ q⟩
theorem AYF {K:PySem.W.Frag} {X':Cx}:Y1 (CXE P w base) X' (AQA K Ek0):=fun _ _ _ _ _ _ _ h=>by
 obtain ⟨ea,cls,a0,T,H',h1,h2,h3,h4,h5,h6,h7,h8,h9,h10,h11,c,C,_,_,_,q⟩:=h
 exact q.elim
end
section
variable {P:Program} {w:World} {K:PySem.W.Frag} {mg:Str→Option Value} {base:Heap} {N:List Str} {qual:Str} {scope:Scope} {f:Addr} {cd:Value} {A:Around} {outer:List Env} {s0:Shared} {H0:Hp} {E:XK} {Ek:EK}
theorem AXZ:Y1 (CXE P w base) (W1 (CXE P w base) P w K mg base N qual scope f cd A outer s0 H0 E) (AQA K (APN K E)):=fun pins σ H s e s' I h=>AcZ pins σ H s e s' I (AQQ h fun cv dx H ⟨c,C,e1,e2,hC,q⟩=>by subst e1;subst e2;exact q C hC)
theorem APJ {x:Str} {e:Expr} {es:List Expr} {t:FA} {np cpos pos:Pos} (B:ErrK K mg x) (hg:Gl (W1 (CXE P w base) P w K mg base N qual scope f cd A outer s0 H0 E) x)
  (ha:JA (W1 (CXE P w base) P w K mg base N qual scope f cd A outer s0 H0 E) (APN K E) (e::es) t)
  (he:starEach (e::es) (W1 (CXE P w base) P w K mg base N qual scope f cd A outer s0 H0 E).env=(false,eval e (W1 (CXE P w base) P w K mg base N qual scope f cd A outer s0 H0 E).env)::starEach es (W1 (CXE P w base) P w K mg base N qual scope f cd A outer s0 H0 E).env)
  (hpl:(backTo cpos (starEach es (W1 (CXE P w base) P w K mg base N qual scope f cd A outer s0 H0 E).env)).any (·.1)=false) :
  JS (W1 (CXE P w base) P w K mg base N qual scope f cd A outer s0 H0 E) (APN K E) (.Raise (some (.Call (.Name x np) (e::es) [] cpos)) none pos) (ABH x t):=by
 obtain ⟨C,hC,hA,hm⟩:=B.ex
 exact AR1 hC hA (fun cv dx H ⟨c,C,e1,e2,hC,q⟩=>by subst e1;subst e2;exact q C hC) hg hm ha B.dbg he hpl
end
def Af3:Data→Option ClassData
 | .cls cd=>some cd
 | _=>none
theorem AVV {d:Data} {cd:ClassData} (h:Af3 d=some cd):d=.cls cd:=by
 cases d with
 | cls c=>rw[Option.some.inj h]
 | _=>exact nomatch (show (none:Option ClassData)=some cd from h)
def Af2:List Value:=[.type "ValueError",.type "Exception",.type "BaseException",.type "object"]
def AfJ (K:PySem.W.Frag) (C:Addr) (sl:Array (Option Value)) (cd:ClassData):Bool :=
 (cd.mro.head? == some (.ref C))&&((!cd.hasDel)&&(PySem.W.tailIn K Af2 cd.mro.tail&&(PySem.W.nsOkIn K cd.ns&&((PySem.W.nsIn K cd.ns "__init__" == some none)&&((sl.toList.length == 6)&&(sl.toList[4]? == some (some (.builtin "ValueError.__new__"))))))))
def AVT (K:PySem.W.Frag) (C:Addr) (o:Obj):Bool:=(o.cls == .type "type")&&(Af3 o.data).elim false (AfJ K C o.slots)
def AbN (K:PySem.W.Frag) (C:Addr):Bool:=(K.lookup C).elim false (AVT K C)
theorem AGZ {α:Type} {o:Option α} {f:α→Bool} (h:o.elim false f=true):∃a,o=some a∧f a=true:=by
 cases o with
 | none=>exact nomatch (show false=true from h)
 | some a=>exact ⟨a,rfl,h⟩
theorem AQ0 {K:PySem.W.Frag} {C:Addr} {dd:Option Addr} {cd:ClassData} {bm:List Value} {sl:Array (Option Value)} {j0 j1 j2 j3 j5:Option Value} (ho:K.lookup C=some ⟨.type "type",dd,.cls cd,sl⟩) (em:cd.mro=.ref C::bm) (eh:cd.hasDel=false) (es:sl=#[j0,j1,j2,j3,some (.builtin "ValueError.__new__"),j5])
  (q4:PySem.W.tailIn K Af2 bm=true) (q5:PySem.W.nsOkIn K cd.ns=true) (q6:PySem.W.nsIn K cd.ns "__init__" = some none):AH5 K C:=by
 intro h X
 have e:cd=⟨cd.name,cd.bases,.ref C::bm,cd.ns,cd.qualname,cd.hasDict,cd.slotNames,cd.subclasses,cd.abstract,cd.collection,false⟩:=by rw[←em,←eh]
 rw[es,e]at ho
 have T:=PySem.W.tail_of_in X q4
 exact ⟨_,_,_,_,bm,_,_,_,_,_,_,_,_,_,_,_,_,X _ _ ho,.of_isNs (PySem.W.isNs_of_in X q5),PySem.W.nsMap_none_of_in X q5 q6,T,T.hasType rfl⟩
theorem AQW {sl:Array (Option Value)} (h:sl.toList.length=6) (h4:sl.toList[4]?=some (some (.builtin "ValueError.__new__"))):∃j0 j1 j2 j3 j5,sl=#[j0,j1,j2,j3,some (.builtin "ValueError.__new__"),j5]:=by
 obtain ⟨l⟩:=sl
 exact (ACY (n:=5) (P:=fun l:List (Option Value)=>l[4]?=some (some (.builtin "ValueError.__new__"))→∃j0 j1 j2 j3 j5,(⟨l⟩:Array (Option Value))=#[j0,j1,j2,j3,some (.builtin "ValueError.__new__"),j5]) fun j0=>ACY fun j1=>ACY fun j2=>ACY fun j3=>ACY fun j4=>ACY fun j5=>AXG fun z=>⟨j0,j1,j2,j3,j5,by rw[Option.some.inj (show some j4=some _ from z)]⟩) l h h4
theorem AZE {l:List Value} {v:Value} (h:l.head?=some v):l=v::l.tail:=by
 cases l with
 | nil=>exact nomatch h
 | cons a r=>rw[Option.some.inj (show some a=some v from h)];rfl
theorem AeA {b:Bool} (h:(!b)=true):b=false:=by
 cases b with
 | false=>rfl
 | true=>exact nomatch h
theorem Aa2 {K:PySem.W.Frag} {C:Addr} (q:AbN K C=true):AH5 K C:=by
 obtain ⟨o,ho,q⟩:=AGZ q
 obtain ⟨q1,q⟩:=Bool.and_eq_true_iff.mp q
 obtain ⟨cd,hc,q⟩:=AGZ q
 obtain ⟨q2,q⟩:=Bool.and_eq_true_iff.mp q
 obtain ⟨q3,q⟩:=Bool.and_eq_true_iff.mp q
 obtain ⟨q4,q⟩:=Bool.and_eq_true_iff.mp q
 obtain ⟨q5,q⟩:=Bool.and_eq_true_iff.mp q
 obtain ⟨q6,q⟩:=Bool.and_eq_true_iff.mp q
 obtain ⟨q7,q8⟩:=Bool.and_eq_true_iff.mp q
 obtain ⟨j0,j1,j2,j3,j5,es⟩:=AQW (eq_of_beq q7) (eq_of_beq q8)
 refine AQ0 (cd:=cd) (dd:=o.dict) (sl:=o.slots) ?_ (AZE (eq_of_beq q2)) (AeA q3) es q4 q5 (eq_of_beq q6)
 rw[ho,←eq_of_beq q1,←AVV hc]
section
variable {K:PySem.W.Frag} {mg:Str→Option Value} {h:Heap}
theorem AMH {x:Str} {C:Addr} (X:K.In h) (G:h.Ns mainGlobals mg) (a:PySem.W.nsIn K mainGlobals x=some (some (.ref C))) (q:AbN K C=true) (d:(x == ("__debug__" : Str))=false):ErrK K mg x :=
 ⟨⟨C,Aa2 q,a,PySem.W.mg_of X G a⟩,d⟩
end
structure DfnD (CX:CXT) (P:Program) (w:World) (K:PySem.W.Frag) (mg:Str→Option Value) (base:Heap) (x:Str) (k n:Nat) (m:List T→R T) (ds:List T):Prop where
 ex:∃(f:Addr) (fd:FuncData) (ps:List Str) (dvs:List V) (dus:List Value),FnOk P w K mg base CX k f fd ps (spM K n m)∧mg x=some (.ref f)∧PySem.W.keepIn K (.ref f)=true∧Binds K fd ps dus∧Vals dvs dus∧∀H,RepL K H ds dvs
 hex:∀ts c fs,m ts=.ex c fs→fs=[]
 dbg:(x == ("__debug__" : Str))=false
theorem AX4 {X:Cx} {Ek:EK} {CX:CXT} {x:Str} {k j n:Nat} {m:List T→R T} {ds:List T} {e:Expr} {es:List Expr} {t:FA} {p pos:Pos} (D:DfnD CX X.prog X.w X.K X.mg X.base x j n m ds) (hr:Room k X.A) (hj:j≤k) (hx:Y1 CX X (AQA X.K Ek)) (hg:Gl X x) (ha:JA X Ek (e::es) t)
  (he:starEach (e::es) X.env=(false,eval e X.env)::starEach es X.env) (hpl:(backTo pos (starEach es X.env)).any (·.1)=false):JE X Ek (.Call (.Name x p) (e::es) [] pos) (eF (A3 n ds m) t):=by
 obtain ⟨f,fd,ps,dvs,dus,F,hm,hk,hb,hv,hd⟩:=D.ex
 exact PE.weak (ANO (F.mono hj) hr hg hm hk hb hv hx ha D.dbg he hpl) (AeS hd D.hex)
theorem AVS {CX:CXT} {P:Program} {w:World} {K:PySem.W.Frag} {mg:Str→Option Value} {base:Heap} {x:Str} {st:Stmt} {f:Addr} {N ps:List Str} {k:Nat} {m:List T→R T} {t:FS} {oc dV kV doc pm cdv ct:Value} {od an:Option Addr} {osl:Array (Option Value)}
  (lk:K.lookup f=some ⟨oc,od,.func (PySem.W.fnOf x x (S5 st) (L7 st) (C6 st) dV kV doc pm an cdv ct),osl⟩) (hcd:PySem.W.codeIn K cdv x=true) (S:FnScope N ps (C6 st))
  (hbody:∀(cdv:Value) (A:Around) (outer:List Env) (s:Shared) (H:Hp) (E:XK),Room k (A.deeper (envOfC x (C6 st) s.heap.objs.size f cdv))→JSs (W1 CX P w K mg base N x (C6 st) f cdv A outer s H E) (APN K E) (L7 st) t)
  (hm:∀ts,ts.length=ps.length→m ts≠.bad→run N.length t ts=m ts):FnOk P w K mg base CX (k+1) f (PySem.W.fnOf x x (S5 st) (L7 st) (C6 st) dV kV doc pm an cdv ct) ps (spM K ps.length m):=by
 refine AVY lk hcd S (fun vs H Q E h=>?_) fun A outer s H vs Q E hr hsp=>⟨lS K (APN K E) t,hbody cdv A outer s H E hr,?_⟩
 ·obtain ⟨ts,rl,hl,_⟩:=h
  rw[rl.length,hl]
 ·obtain ⟨ts,rl,hl,h⟩:=hsp
  refine ⟨T0 N.length ts,X3 N rl,?_⟩
  have nb:m ts≠.bad:=fun e=>by rw[e]at h;exact h
  have e:=hm ts hl nb
  unfold run at e
  cases q:t (T0 N.length ts) with
  | nx ρ =>
   rw[q]at e
   rw[←e]at h
   exact fun σ H' s' _=>h .non H' s' AB8
  | rt a =>
   rw[q]at e
   rw[←e]at h
   exact h
  | bk ρ=>rw[q]at e;exact absurd e.symm nb
  | ct ρ=>rw[q]at e;exact absurd e.symm nb
  | bad=>rw[q]at e;exact absurd e.symm nb
  | ex c fs =>
   rw[q]at e
   rw[←e]at h
   exact fun H' s' C hC=>h H' C s' hC
theorem ANP {P:Program} {w:World} {K:PySem.W.Frag} {mg:Str→Option Value} {base:Heap} {k:Nat} {f:Addr} {fd:FuncData} {ps:List Str} {sp:Sp} (F:FnOk P w K mg base (CXE P w base) k f fd ps sp) :
  FnOk P w K mg base CX0 k f fd ps (fun vs H Q _=>sp vs H Q fun _ _ _=>False) :=
 ⟨fun vs H Q E h=>F.len vs H Q _ h,fun A outer s H args us vs Q E hr he hb hv hs=>codeAny_mono (F.run A outer s H args us vs Q (fun _ _ _=>False) hr he hb hv hs) fun r s' q=>by
  cases r with
  | ok f=>cases f<;>exact q
  | error e =>
   obtain ⟨ea,cls,a0,T,H',h1,h2,h3,h4,h5,h6,h7,h8,h9,h10,h11,z⟩:=q
   exact z.elim⟩
section
variable {X:Cx} {Ek:EK}
def AgC:T→T→Option T
 | .tuple xs,.tuple ys=>if (!xs.isEmpty&&J4 (xs.length+ys.length))=true then some (.tuple (xs++ys)) else none
 | a,b=>E9 a b
def AMG (K:PySem.W.Frag):R2:=fun x y H Q=>AXB K x y H Q∨AXW K x y H Q
theorem op_addU:OpR X (binaryOp .Add) (AMG X.K):=op_addT.or AUZ
theorem AQK {K:PySem.W.Frag}:Z7 K (AMG K) AgC:=fun x y tx ty a H Q rx ry e q=>by
 have other:E9 tx ty=some a→AMG K x y H Q:=fun e'=>.inl (AJ7 x y tx ty a H Q rx ry e' q)
 cases tx with
 | tuple xs =>
  cases ty with
  | tuple ys =>
   have e':(if (!xs.isEmpty&&J4 (xs.length+ys.length))=true then some (PyData.tuple (xs++ys)) else none)=some a:=e
   by_cases hl:(!xs.isEmpty&&J4 (xs.length+ys.length))=true
   ·rw[if_pos hl]at e'
    cases e'
    obtain ⟨h1,h2⟩:=Bool.and_eq_true_iff.mp hl
    unfold Rep at rx ry
    obtain ⟨p,vs,rfl,hp,l1⟩:=rx
    obtain ⟨p',vs',rfl,hp',l2⟩:=ry
    have n1:vs≠[]:=fun z=>by
     rw[z]at l1
     have:=l1.length
     cases xs with
     | nil=>cases h1
     | cons b r=>simp at this
    refine .inr ⟨p,p',vs,vs',rfl,rfl,hp,hp',n1,by rw[l1.length,l2.length];exact ABB h2,fun z=>?_,fun z r hr=>?_⟩
    ·refine q _ H (Same.refl H) ?_
     unfold Rep
     refine ⟨p,vs,rfl,hp,?_⟩
     have hy:ys=[]:=by
      have:=l2.length
      rw[z]at this
      cases ys with
      | nil=>rfl
      | cons b r=>simp at this
     rw[hy,List.append_nil];exact l1
    ·refine q _ _ (B0 hr _) ?_
     unfold Rep
     exact ⟨r,_,rfl,SqT.of A8,RepL.mono (B0 hr _) _ _ (l1.append l2)⟩
   ·rw[if_neg hl]at e';cases e'
  | _=>exact other e
 | _=>exact other e
def ADK (xs:List T) (lo hi:Option Int):List T:=(xs.drop (HT.sIx xs.length 0 lo)).take (HT.sIx xs.length xs.length hi-HT.sIx xs.length 0 lo)
def ALK (a:FE) (lo hi:FO):FE:=fun ρ=>(a ρ).bind fun x=>(AWZ lo ρ).bind fun l=>(AWZ hi ρ).bind fun h=>match x with
 | .tuple xs=>if (HT.sIx xs.length 0 l == 0&&HT.sIx xs.length xs.length h == xs.length)=true then .bad else .ok (.tuple (ADK xs l h))
 | .list xs=>.ok (.list (ADK xs l h))
 | _=>.bad
theorem RepL.drop {K:PySem.W.Frag} {H:Hp}:∀{ts:List T} {vs:List V} (n:Nat),RepL K H ts vs→RepL K H (ts.drop n) (vs.drop n)
 | [],_,n,h=>by unfold RepL at h;subst h;simp;exact C5
 | t::ts,_,0,h=>h
 | t::ts,_,n+1,h=>by
  unfold RepL at h
  obtain ⟨v,r,rfl,_,h3⟩:=h
  exact RepL.drop n h3
theorem RepL.take {K:PySem.W.Frag} {H:Hp}:∀{ts:List T} {vs:List V} (n:Nat),RepL K H ts vs→RepL K H (ts.take n) (vs.take n)
 | [],_,n,h=>by unfold RepL at h;subst h;simp;exact C5
 | t::ts,_,0,h=>by simp;exact C5
 | t::ts,_,n+1,h=>by
  unfold RepL at h
  obtain ⟨v,r,rfl,h2,h3⟩:=h
  exact B6 h2 (RepL.take n h3)
theorem AEY {K:PySem.W.Frag} {H:Hp} {ts:List T} {vs:List V} (lo hi:Option Int) (h:RepL K H ts vs):RepL K H (ADK ts lo hi) (ASL vs lo hi):=by
 unfold ADK ASL
 rw[h.length]
 exact (h.drop _).take _
theorem AYT {a:Expr} {lo hi:Option Expr} {ta:FE} {tl th:FO} {pos p2:Pos} (ha:JE X Ek a ta) (hl:JO X Ek lo tl) (hh:JO X Ek hi th):JE X Ek (.Subscript a (.Slice lo hi none p2) pos) (ALK ta tl th):=by
 refine PE.weak (AK3 (sl_tup.or AUW) ha hl hh) fun σ H Q h=>?_
 obtain ⟨ρ,R0,h⟩:=h
 refine ⟨ρ,R0,A7 (Same.refl H) (fun x hx=>?_) (A5 h)⟩
 intro v H1 s1 rx
 refine ⟨ρ,R0.mono s1,A7 s1 (fun l hl=>?_) (A5 hx)⟩
 intro H2 s2
 refine ⟨ρ,R0.mono (s1.trans s2),A7 (s1.trans s2) (fun u hu=>?_) (A5 hl)⟩
 intro H3 s3
 cases x with
 | tuple xs =>
  by_cases hw:(HT.sIx xs.length 0 l == 0&&HT.sIx xs.length xs.length u == xs.length)=true
  ·simp only[hw,if_true]at hu;exact hu.elim
  ·simp only[hw,if_false]at hu
   unfold Rep at rx
   obtain ⟨p,vs,rfl,hp,l1⟩:=rx
   refine .inl ⟨p,vs,rfl,L6 (s2.trans s3) hp,?_,fun r hr=>?_⟩
   ·rw[l1.length]
    intro z
    apply hw
    rw[z.1,z.2]
    simp
   ·refine hu _ _ (s1.trans (s2.trans (s3.trans (B0 hr _)))) ?_
    unfold Rep
    exact ⟨r,_,rfl,SqT.of A8,RepL.mono (s2.trans (s3.trans (B0 hr _))) _ _ (AEY l u l1)⟩
 | list xs =>
  unfold Rep at rx
  obtain ⟨p,vs,rfl,hp,l1⟩:=rx
  refine .inr ⟨p,vs,rfl,K6 (s2.trans s3) hp,fun r hr=>?_⟩
  refine hu _ _ (s1.trans (s2.trans (s3.trans (B0 hr _)))) ?_
  unfold Rep
  exact ⟨r,_,rfl,SqL.of A8,RepL.mono (s2.trans (s3.trans (B0 hr _))) _ _ (AEY l u l1)⟩
 | _=>exact hu.elim
def isNone:T→Bool
 | .none=>true
 | _=>false
def AgF:T→T→Option Bool
 | .none,.list xs=>if xs.all SeqAt.shaped=true then some (xs.any isNone) else none
 | _,_=>none
def AF9:T→Bool
 | .bool _=>true
 | _=>false
def AIC:T→Bool
 | .bool b=>b
 | _=>true
def AQF:List T→Option T
 | [.list xs]=>if xs.all AF9=true then some (.bool (xs.all AIC)) else none
 | _=>none
def AbS:Value→Bool
 | .bool b=>b
 | _=>true
theorem AS0 {K:PySem.W.Frag} {H:Hp} {ts:List T} {vs:List V} {us:List Value} (r:RepL K H ts vs) (q:Vals vs us) (h:ts.all AF9=true):(∀(i:Nat) (v:Value),us[i]?=some v→∃b,v=Value.bool b)∧us.length=ts.length∧((List.range us.length).all fun i=>((us[i]?).map AbS).getD true)=ts.all AIC:=by
 have e1:us.length=ts.length:=by rw[←q.length,r.length]
 have key:∀(ts:List T) (vs:List V) (us:List Value),RepL K H ts vs→Vals vs us→ts.all AF9=true→(∀v∈us,∃b,v=Value.bool b)∧us.all AbS=ts.all AIC:=by
  intro ts
  induction ts with
  | nil=>intro vs us r q _;unfold RepL at r;subst r;cases q;exact ⟨fun v hv=>(List.not_mem_nil hv).elim,rfl⟩
  | cons t ts ih =>
   intro vs us r q h
   unfold RepL at r
   obtain ⟨v,vr,rfl,r1,r2⟩:=r
   rw[List.all_cons,Bool.and_eq_true]at h
   cases q with
   | cons q1 q2 =>
    obtain ⟨h1,h2⟩:=ih vr _ r2 q2 h.2
    cases t with
    | bool b =>
     unfold Rep at r1
     subst r1
     cases q1
     refine ⟨fun v hv=>?_,?_⟩
     ·rcases List.mem_cons.mp hv with rfl | hv
      ·exact ⟨b,rfl⟩
      ·exact h1 v hv
     ·rw[List.all_cons,List.all_cons,h2];rfl
    | _=>exact absurd h.1 Bool.false_ne_true
 obtain ⟨k1,k2⟩:=key ts vs us r q h
 refine ⟨fun i v hv=>k1 v (List.mem_of_getElem? hv),e1,?_⟩
 rw[←k2,Bool.eq_iff_iff,List.all_eq_true,List.all_eq_true]
 constructor
 ·intro h b hb
  obtain ⟨i,hi,e⟩:=List.getElem_of_mem hb
  have:=h i (List.mem_range.mpr hi)
  rw[List.getElem?_eq_getElem hi,e]at this
  exact this
 ·intro h i hi
  have hi':=List.mem_range.mp hi
  rw[List.getElem?_eq_getElem hi']
  exact h _ (List.getElem_mem hi')
def AeU (K:PySem.W.Frag):List V→Hp→VK→Prop:=fun xs H Q=>∃x ts,xs=[x]∧Rep K H (.list ts) x∧ts.all AF9=true∧Q (.bl (ts.all AIC)) H
theorem AOO (hc:X.calm=true):AAY X (.builtin "all") (AeU X.K):=by
 intro pins s σ H xs us Q I r h
 obtain ⟨x,ts,rfl,rt,hb,q⟩:=h
 obtain ⟨u,rfl,ru⟩:=AQU r
 unfold Rep at rt
 obtain ⟨a,vs,rfl,hq,l⟩:=rt
 cases ru
 obtain ⟨its,rv,pl,_⟩:=I.list hq
 obtain ⟨k1,k2,k3⟩:=AS0 l rv hb
 have hl:=pl.isList
 have hlt:a<s.heap.objs.size:=by obtain ⟨_,e,_⟩:=hl;exact Heap.lt_size e
 refine call_all_walk (wpAny_pyIter_list hl ⟨s.heap.objs.size,[s.heap.objs.size,a],[s.heap.objs.size],its.toArray.size,_,_,fun i=>((its[i]?).map AbS).getD true,rfl,Walks.list (A:=X.A.in1) (I.ok.hd hc) _ a (Nat.ne_of_lt hlt) its.toArray,⟨⟨_,Heap.get?_push_size _ rfl,rfl,rfl⟩,hl.push _⟩,fun i v s' Q' E' hP hQ=>?_,fun h' tk hk=>?_⟩)
 ·have e:its[i]?=some v:=by simpa using hP
  obtain ⟨b,rfl⟩:=k1 i v e
  simp only[e,Option.map_some,Option.getD_some,AbS]at hQ
  exact wpAny_truthy_bool hQ
 ·rw[List.size_toArray,k3]
  exact ⟨.bl _,H,I.kept (fun b o e=>hk b o (fun z=>by rw[List.mem_singleton.mp z]at e;exact Nat.lt_irrefl _ (Heap.lt_size e)) (Heap.get?_push_of_some _ e)),rfl,q⟩
theorem AUQ {K:PySem.W.Frag}:APK K (AeU K) AQF:=fun xs ts a H Q r e q=>by
 match ts,e,r with
 | [.list ys],e,r =>
  unfold RepL at r
  obtain ⟨v,vr,rfl,r1,r⟩:=r
  unfold RepL at r;subst r
  have e':(if ys.all AF9=true then some (PyData.bool (ys.all AIC)) else none)=some a:=e
  by_cases hb:ys.all AF9=true
  ·rw[if_pos hb]at e'
   cases e'
   exact ⟨v,ys,rfl,r1,hb,q _ H (Same.refl H) D9⟩
  ·rw[if_neg hb]at e';cases e'
theorem AYM {e:Expr} {t:FA} {p pos:Pos} (hc:X.calm=true) (hm:X.mg "all" = none) (hg:Gl X "all") (ha:JA X Ek [e] t) (he:starEach [e] X.env=(false,eval e X.env)::starEach [] X.env):JE X Ek (.Call (.Name "all" p) [e] [] pos) (eN AQF t) :=
 ADT (AOO hc) AUQ (by decide +kernel) (by decide +kernel) (by decide +kernel) hm hg ha he rfl
def AL4:List T→Option T
 | [.list xs]=>some (.tuple xs)
 | [.tuple xs]=>some (.tuple xs)
 | _=>none
theorem AUK {K:PySem.W.Frag}:APK K (fun xs H Q=>∃p ys,xs=[.ref p]∧((SqL K H p ys∧∀l,H l=none→Q (.ref l) (upd H l (.tup ys)))∨(SqT K H p ys∧Q (.ref p) H))) AL4:=fun xs ts a H Q r e q=>by
 match ts,e,r with
 | [.list ys],e,r =>
  unfold RepL at r
  obtain ⟨v,vr,rfl,r1,r⟩:=r
  unfold RepL at r;subst r
  unfold Rep at r1;obtain ⟨p,vs,rfl,hp,l⟩:=r1
  cases e
  refine ⟨p,vs,rfl,.inl ⟨hp,fun r hr=>q _ _ (B0 hr _) ?_⟩⟩
  unfold Rep
  exact ⟨r,vs,rfl,SqT.of A8,RepL.mono (B0 hr _) _ _ l⟩
 | [.tuple ys],e,r =>
  unfold RepL at r
  obtain ⟨v,vr,rfl,r1,r⟩:=r
  unfold RepL at r;subst r
  have r1':=r1
  unfold Rep at r1;obtain ⟨p,vs,rfl,hp,l⟩:=r1
  cases e
  exact ⟨p,vs,rfl,.inr ⟨hp,q _ H (Same.refl H) r1'⟩⟩
theorem AWF {e:Expr} {t:FA} {p pos:Pos} (hm:X.mg "tuple" = none) (hg:Gl X "tuple") (ha:JA X Ek [e] t) (he:starEach [e] X.env=(false,eval e X.env)::starEach [] X.env):JE X Ek (.Call (.Name "tuple" p) [e] [] pos) (eN AL4 t) :=
 AcX AE8 AUK (by decide +kernel) (by decide +kernel) (by decide +kernel) hm hg ha he rfl
end
theorem AJY {K:PySem.W.Frag} {H:Hp} {a:Addr} {dd:Option Addr} {its:Array Value} {n:Nat} {sl:Array (Option Value)} {ts:List T} {vs:List V} (hk:K.lookup a=some ⟨.type "tuple",dd,.seq its n,sl⟩) (hz:its.size≤sizeLine) (r:Vals vs its.toList) (l:RepL K H ts vs):Rep K H (.tuple ts) (.ref a):=by
 unfold Rep
 exact ⟨a,vs,rfl,.inr ⟨_,its,n,hk,rfl,rfl,hz,r⟩,l⟩
section
variable {X:Cx} {Ek:EK}
theorem AB4 {pins:List (Addr × Obj)} {σ:L2.St} {s:Shared} {a:Addr} {vs:List V} {H0:Hp} (I:Inv X pins σ (upd H0 a (.lst vs)) s) (h0:H0 a=none) :
  ∃o:Obj,Inv X (pins++[(a,o)]) σ H0 s∧∀{σ':L2.St} {H':Hp} {s':Shared},Inv X (pins++[(a,o)]) σ' H' s'→H' a=none∧Inv X pins σ' (upd H' a (.lst vs)) s':=by
 have hA:upd H0 a (HO.lst vs) a=some (.lst vs):=A8
 obtain ⟨hz,its,n,hv,e⟩:=I.hok a _ hA
 have hne:∀b u,H0 b=some u→b≠a:=fun b u q z=>by rw[z,h0]at q;cases q
 have up:∀b u,H0 b=some u→upd H0 a (HO.lst vs) b=some u:=fun b u q=>by rw[A6 (hne b u q)];exact q
 have nl:X.env.locals≠a:=fun z=>by have:=I.free;rw[z,hA]at this;cases this
 have nfs:a ∉ X.fs:=fun z=>by
  obtain ⟨_,o,ho,_⟩:=I.ok.funs.mem z
  have:=I.base.free a o ho (I.ok.frf a z) (fun q=>I.ok.exfs a q z)
  rw[hA]at this;cases this
 have nc:∀x c,X.env.cells.lookup x=some c→c≠a:=fun x c q z=>by have:=I.freeC x c q;rw[z,hA]at this;cases this
 have nT:∀b xs,X.H₀ b=some (.tup xs)→b≠a:=fun b xs q z=>by have:=I.base.tups b xs q;rw[z,hA]at this;cases this
 have nF:∀b o u,X.H₀ b=some (.frz o u)→b≠a:=fun b o u q z=>by have:=I.base.frzs b o u q;rw[z,hA]at this;cases this
 have nB:∀b ps,X.H₀ b=some (.tbl ps)→b≠a:=fun b ps q z=>by obtain ⟨m,this⟩:=I.base.tbls b ps q;rw[z,hA]at this;cases this
 have nS:∀b o,X.s₀.heap.get? b=some o→X.H₀ b=none→b ∉ X.ex→b≠a:=fun b o q n x z=>by have:=I.base.free b o q n x;rw[z,hA]at this;cases this
 have nP:∀p∈X.pn++pins,p.1≠a:=fun p hp z=>by have:=(I.pin p hp).2.1;rw[z,hA]at this;cases this
 refine ⟨{cls:=.type "list",data:=.seq its.toArray n},⟨I.ok,I.os,I.bare,⟨I.base.keep,I.base.slot,fun b o q n x=>?_,I.base.there,fun b xs q=>?_,fun b o u q=>?_,fun b ps q=>?_⟩,I.loc,I.cell,?_,fun x c q=>?_,fun p hp=>?_,fun b u q=>?_,I.len⟩,fun {σ' H' s'} I'=>?_⟩
 ·have:=I.base.free b o q n x
  rwa [A6 (nS b o q n x)]at this
 ·have:=I.base.tups b xs q
  rwa [A6 (nT b xs q)]at this
 ·have:=I.base.frzs b o u q
  rwa [A6 (nF b o u q)]at this
 ·obtain ⟨m,this⟩:=I.base.tbls b ps q
  rw[A6 (nB b ps q)]at this
  exact ⟨m,this⟩
 ·have:=I.free
  rwa [A6 nl]at this
 ·have:=I.freeC x c q
  rwa [A6 (nc x c q)]at this
 ·rw[←List.append_assoc]at hp
  rcases List.mem_append.mp hp with hp | hp
  ·obtain ⟨p1,p2,p3⟩:=I.pin p hp
   rw[A6 (nP p hp)]at p2
   exact ⟨p1,p2,p3⟩
  ·have hp':=List.mem_singleton.mp hp
   subst hp'
   exact ⟨e,h0,Ne.symm nl,nfs,fun v z=>by cases z⟩
 ·refine (I.hok b u (up b u q)).stay (fun c v _ r=>r) (fun c r=>?_) fun c xs r=>?_
  ·by_cases hc:c=a
   ·subst hc;rw[hA]at r;cases r
   ·rwa [A6 hc]at r
  ·by_cases hc:c=a
   ·subst hc;rw[hA]at r;cases r
   ·rwa [A6 hc]at r
 ·obtain ⟨pe,pn,_⟩:=I'.pin (a,{cls:=.type "list",data:=.seq its.toArray n}) (List.mem_append_right _ (List.mem_append_right _ (List.mem_singleton.mpr rfl)))
  have hne':∀c u,H' c=some u→c≠a:=fun c u q z=>by rw[z]at q;rw[show H' a=none from pn]at q;cases q
  refine ⟨pn,I'.ok,I'.os,I'.bare,⟨I'.base.keep,I'.base.slot,fun b o q n x=>?_,I'.base.there,fun b xs q=>?_,fun b o u q=>?_,fun b ps q=>?_⟩,I'.loc,I'.cell,?_,fun x c q=>?_,fun p hp=>?_,fun b u q=>?_,I'.len⟩
  ·rw[A6 (nS b o q n x)];exact I'.base.free b o q n x
  ·rw[A6 (nT b xs q)];exact I'.base.tups b xs q
  ·rw[A6 (nF b o u q)];exact I'.base.frzs b o u q
  ·rw[A6 (nB b ps q)];exact I'.base.tbls b ps q
  ·rw[A6 nl];exact I'.free
  ·rw[A6 (nc x c q)];exact I'.freeC x c q
  ·obtain ⟨p1,p2,p3⟩:=I'.pin p (by rw[←List.append_assoc];exact List.mem_append_left _ hp)
   exact ⟨p1,by rw[A6 (nP p hp)];exact p2,p3⟩
  ·by_cases hb:b=a
   ·subst hb
    rw[A8]at q
    cases q
    exact ⟨hz,its,n,hv,pe⟩
   ·rw[A6 hb]at q
    exact (I'.hok b u q).stay (fun c v _ r=>r) (fun c r=>by rw[A6 (hne' c _ r)];exact r) fun c xs r=>by rw[A6 (hne' c _ r)];exact r
def Ag9 (t:TE):TE:=fun σ H Q=>∃a vs H0,H0 a=none∧H=upd H0 a (.lst vs)∧t σ H0 fun v H'=>H' a=none→Q v (upd H' a (.lst vs))
theorem AO7 {e:Expr} {t:TE} (h:PE X e t):PE X e (Ag9 t):=by
 intro pins s σ H Q I ⟨a,vs,H0,h0,e,q⟩
 subst e
 obtain ⟨o,I0,rev⟩:=AB4 I h0
 refine thn (h _ s σ H0 _ I0 q) fun u s1 ⟨v,H1,I1,r1,q1⟩=>?_
 obtain ⟨n1,I2⟩:=rev I1
 exact ⟨v,_,I2,r1,q1 n1⟩
def APL (t:TT):TT:=fun σ H Q=>∃a vs H0,H0 a=none∧H=upd H0 a (.lst vs)∧t σ H0 fun v H'=>H' a=none→Q v (upd H' a (.lst vs))
def AfA (t:TG):TG:=fun v σ H Q=>∃a vs H0,H0 a=none∧H=upd H0 a (.lst vs)∧t v σ H0 fun σ' H'=>H' a=none→Q σ' (upd H' a (.lst vs))
theorem Ab5 {e:Expr} {t:TG} (h:PG X e t):PG X e (AfA t):=by
 intro pins s σ H v u Q I r ⟨a,vs,H0,h0,e,q⟩
 subst e
 obtain ⟨o,I0,rev⟩:=AB4 I h0
 refine thn (h _ s σ H0 v u _ I0 r q) fun _ s1 ⟨σ1,H1,I1,q1⟩=>?_
 obtain ⟨n1,I2⟩:=rev I1
 exact ⟨σ1,_,I2,q1 n1⟩
def Af9 (t:TI):TI:=fun σ H R=>∃a vs H0,H0 a=none∧H=upd H0 a (.lst vs)∧t σ H0 fun J H'=>H' a=none→R J (upd H' a (.lst vs))
theorem AaR {tg e:Expr} {t:TI} (h:PI X tg e t):PI X tg e (Af9 t):=by
 intro pins s σ H R I ⟨a,vs,H0,h0,e,q⟩
 subst e
 obtain ⟨o,I0,rev⟩:=AB4 I h0
 refine thn (h _ s σ H0 _ I0 q) fun v s1 h1=>thn h1 fun itv s2 h2=>?_
 obtain ⟨it,fp,tn,J,H2,e,I2,T,st2,f2,q2⟩:=h2
 obtain ⟨n2,I3⟩:=rev I2
 refine ⟨it,fp,tn,J,_,e,I3,T,st2,fun b hb=>?_,q2 n2⟩
 obtain ⟨f0,f1,f3,f4,f5,f6⟩:=f2 b hb
 have hba:b≠a:=fun z=>f6 (a,o) (List.mem_append_right _ (List.mem_append_right _ (List.mem_singleton.mpr rfl))) z.symm
 exact ⟨by rw[A6 hba];exact f0,f1,f3,f4,f5,fun p hp=>f6 p (by rw[←List.append_assoc];exact List.mem_append_left _ hp)⟩
def AgA (t:TS):TS:=fun D σ H=>∃a vs H0,H0 a=none∧H=upd H0 a (.lst vs) ∧
 t ⟨fun σ' H'=>H' a=none→D.nx σ' (upd H' a (.lst vs)),fun v H'=>H' a=none→D.rt v (upd H' a (.lst vs)),fun σ' H'=>H' a=none→D.bk σ' (upd H' a (.lst vs)),fun σ' H'=>H' a=none→D.ct σ' (upd H' a (.lst vs))⟩ σ H0
theorem AZM {st:Stmt} {t:TS} (h:PS X st t):PS X st (AgA t):=by
 intro pins s σ H D I ⟨a,vs,H0,h0,e,q⟩
 subst e
 obtain ⟨o,I0,rev⟩:=AB4 I h0
 refine thn (h _ s σ H0 _ I0 q) fun f s1 q1=>?_
 cases f with
 | next=>obtain ⟨σ1,H1,I1,q1⟩:=q1;obtain ⟨n1,I2⟩:=rev I1;exact ⟨σ1,_,I2,q1 n1⟩
 | brk=>obtain ⟨σ1,H1,I1,q1⟩:=q1;obtain ⟨n1,I2⟩:=rev I1;exact ⟨σ1,_,I2,q1 n1⟩
 | cont=>obtain ⟨σ1,H1,I1,q1⟩:=q1;obtain ⟨n1,I2⟩:=rev I1;exact ⟨σ1,_,I2,q1 n1⟩
 | ret u=>obtain ⟨v,σ1,H1,I1,r1,q1⟩:=q1;obtain ⟨n1,I2⟩:=rev I1;exact ⟨v,σ1,_,I2,r1,q1 n1⟩
inductive BR where
 | nx (ρ:Ev) (acc:List T)
 | ct (ρ:Ev) (acc:List T)
 | bad
abbrev FB:=Nat→Ev→List T→BR
structure Own (K:PySem.W.Frag) (i a:Nat) (Hb:Hp) (ρ:Ev) (acc:List T) (σ:L2.St) (H0:Hp) (vs:List V):Prop where
 base:Same Hb H0
 free:H0 a=none
 env:RepEnv K H0 ρ σ
 rep:RepL K H0 acc vs
 slot:ρ[i]?=some (some (E8 a))
def lBR (K:PySem.W.Frag) (i a:Nat) (Hb:Hp) (D:Ends):BR→Prop
 | .nx ρ acc=>∀σ H0 vs,Own K i a Hb ρ acc σ H0 vs→D.nx σ (upd H0 a (.lst vs))
 | .ct ρ acc=>∀σ H0 vs,Own K i a Hb ρ acc σ H0 vs→D.ct σ (upd H0 a (.lst vs))
 | .bad=>False
def lB (K:PySem.W.Frag) (i:Nat) (t:FB):TS:=fun D σ H=>∃a Hb ρ acc H0 vs,H=upd H0 a (.lst vs)∧Own K i a Hb ρ acc σ H0 vs∧lBR K i a Hb D (t a ρ acc)
abbrev JB (X:Cx) (i:Nat) (st:Stmt) (t:FB):Prop:=PS X st (lB X.K i t)
abbrev JBs (X:Cx) (i:Nat) (sts:List Stmt) (t:FB):Prop:=PSs X sts (lB X.K i t)
def J3 (i a:Nat) (ρ:Ev):Bool:=match ρ[i]? with
 | some (some (.dict [(.int k,.none)]))=>decide (k=a)
 | _=>false
theorem AB7 {i a:Nat} {ρ:Ev} (h:J3 i a ρ=true):ρ[i]?=some (some (E8 a)):=by
 unfold J3 at h
 split at h
 ·rename_i k e
  rw[e]
  have:=of_decide_eq_true h
  subst this
  rfl
 ·cases h
def Q7 (i:Nat) (t:FS):FB:=fun a ρ acc=>match t ρ with
 | .nx ρ'=>if J3 i a ρ'=true then .nx ρ' acc else .bad
 | .ct ρ'=>if J3 i a ρ'=true then .ct ρ' acc else .bad
 | _=>.bad
theorem AXA {i:Nat} {st:Stmt} {t:FS} (h:JS X Ek st t):JB X i st (Q7 i t):=by
 refine PS.weak (AZM h) fun D σ H hh=>?_
 obtain ⟨a,Hb,ρ,acc,H0,vs,e,o,q⟩:=hh
 refine ⟨a,vs,H0,o.free,e,ρ,o.env,?_⟩
 unfold Q7 at q
 cases er:t ρ with
 | nx ρ' =>
  rw[er]at q
  intro σ' H' s' R' n'
  by_cases hk:J3 i a ρ'=true
  ·simp only[hk,if_true]at q
   exact q σ' H' vs ⟨o.base.trans s',n',R',RepL.mono s' acc vs o.rep,AB7 hk⟩
  ·simp only[hk]at q
   exact q.elim
 | ct ρ' =>
  rw[er]at q
  intro σ' H' s' R' n'
  by_cases hk:J3 i a ρ'=true
  ·simp only[hk,if_true]at q
   exact q σ' H' vs ⟨o.base.trans s',n',R',RepL.mono s' acc vs o.rep,AB7 hk⟩
  ·simp only[hk]at q
   exact q.elim
 | rt a=>rw[er]at q;exact q.elim
 | bk a=>rw[er]at q;exact q.elim
 | ex c fs=>rw[er]at q;exact q.elim
 | bad=>rw[er]at q;exact q.elim
def w6 (t u:FB):FB:=fun a ρ acc=>match t a ρ acc with
 | .nx ρ' acc'=>u a ρ' acc'
 | r=>r
theorem AUO {i:Nat} {st:Stmt} {t:FB} (h:JB X i st t):JBs X i [st] t:=AOH h
theorem ARX {i:Nat} {st:Stmt} {rest:List Stmt} {t u:FB} (h1:JB X i st t) (h2:JBs X i rest u):JBs X i (st::rest) (w6 t u):=by
 refine PSs.weak (V5 h1 h2) fun D σ H hh=>?_
 obtain ⟨a,Hb,ρ,acc,H0,vs,e,o,q⟩:=hh
 refine ⟨a,Hb,ρ,acc,H0,vs,e,o,?_⟩
 unfold w6 at q
 cases er:t a ρ acc with
 | nx ρ' acc' =>
  rw[er]at q
  exact fun σ' H' vs' o'=>⟨a,Hb,ρ',acc',H',vs',rfl,o',q⟩
 | ct ρ' acc'=>rw[er]at q;exact q
 | bad=>rw[er]at q;exact q
def bIf (c:FT) (t u:FB):FB:=fun a ρ acc=>match c ρ with
 | .ok true=>t a ρ acc
 | .ok false=>u a ρ acc
 | _=>.bad
def ALO (te:FE):FB:=fun _ ρ acc=>match te ρ with
 | .ok y=>if J4 acc.length=true then .nx ρ (acc++[y]) else .bad
 | _=>.bad
theorem AaK {i:Nat} {x:Str} {e:Expr} {te:FE} {p ap cp pos:Pos} (hN:X.N[i]?=some x) (hv:Vis X.env.scope x) (hd:(x == ("__debug__" : Str))=false) (hcd:(x == ("__classdict__" : Str))=false) (he:JE X Ek e te)
  (hbase:attributeBase (.Name x p) "append" X.env (eval (.Name x p) X.env)=eval (.Name x p) X.env)
  (hfew:((backTo cp (starEach [e] X.env)).all (fun x=>!x.1)&&(backToKw cp (keywordEach [] X.env)).all (fun x=>x.1.isSome)&&decide (([e]:List Expr).length+([]:List Keyword).length+(if ([]:List Keyword).isEmpty then 0 else 1)<30))=true)
  (hline:(ap.endLine == cp.line)=true) (hs:starEach [e] X.env=(false,eval e X.env)::starEach [] X.env) (hplain:(backTo cp (starEach [] X.env)).any (·.1)=false)
  (hw:swapsWith (.Call (.Attribute (.Name x p) "append" ap) [e] [] cp) none pos.line X.env=pure false) :
  JB X i (.Expr (.Call (.Attribute (.Name x p) "append" ap) [e] [] cp) pos) (ALO te):=by
 refine PS.weak (AM7 (Ae7 PySem.F.plainAttrs_list PySem.F.slot_list_append PySem.F.type_list_append AMB (AO4 hN hv hd hcd) (ABP (AO7 he) AGS hs) hbase hfew hline hs hplain) hw) fun D σ H hh=>?_
 obtain ⟨a,Hb,ρ,acc,H0,vs,e,o,q⟩:=hh
 subst e
 obtain ⟨v,e1,e2⟩:=o.env.get i _ o.slot
 have e2':=ABE e2
 subst e2'
 refine ⟨.ref a,e1,.inl ⟨rfl,_,SqL.of A8⟩,a,vs,H0,o.free,rfl,ρ,o.env,?_⟩
 unfold ALO at q
 cases er:te ρ with
 | ok y =>
  rw[er]at q
  intro v H1 s1 ry n1
  by_cases hs:J4 acc.length=true
  ·simp only[hs,if_true]at q
   have hl:vs.length=acc.length:=o.rep.length
   have hz:vs.length<sizeLine:=by
    have h1:acc.length≤1000:=of_decide_eq_true hs
    have h2:1000<sizeLine:=by decide
    omega
   refine ⟨a,vs,v,rfl,rfl,A8,hz,?_⟩
   rw[AN6]
   exact q σ H1 (vs++[v]) ⟨o.base.trans s1,n1,o.env.mono s1,(RepL.mono s1 acc vs o.rep).append (B6 ry C5),o.slot⟩
  ·simp only[hs]at q
   exact q.elim
 | ex c fs=>rw[er]at q;exact q.elim
 | bad=>rw[er]at q;exact q.elim
def YM (J:It):Prop:=∀i H0 H x H3,Same H0 H→J.yld i H x H3→H3=H∧J.yld i H0 x H0
def lIy (K:PySem.W.Frag) (Ek:EK) (t:FI):TI:=fun σ H R=>∃ρ,RepEnv K H ρ σ∧wR Ek H (t ρ) fun ts=>∀J H',Same H H'→w9 K J ts H'→YM J→R J H'
abbrev JIy (X:Cx) (Ek:EK) (tg iter:Expr) (t:FI):Prop:=PI X tg iter (lIy X.K Ek t)
theorem AQ5 {lo:Int} {n:Nat}:YM (Itr lo n):=fun i H0 H x H3 _ y=>⟨y.1,rfl,y.2⟩
theorem AVK {K:PySem.W.Frag} {a:Addr}:YM (Itl K a):=fun i H0 H x H3 s y=>⟨y.1,rfl,fun xs h=>y.2 xs (K6 s h)⟩
theorem Aa4 {K:PySem.W.Frag} {a:Addr}:YM (Itt K a):=fun i H0 H x H3 s y=>⟨y.1,rfl,fun xs h=>y.2 xs (L6 s h)⟩
theorem ALH {tg a:Expr} {t:FA} {p pos:Pos} (hg:Gl X "range") (hm:X.mg "range" = none) (ha:JA X Ek [a] t) (hs:starEach [a] X.env=[(false,eval a X.env)]):JIy X Ek tg (.Call (.Name "range" p) [a] [] pos) (iN AKS t):=by
 refine PI.weak (AGU hg hm ha hs) fun σ H Q h=>?_
 obtain ⟨ρ,R,h⟩:=h
 refine ⟨ρ,R,A7 (Same.refl H) (fun x hx=>?_) (A5 h)⟩
 intro vs H1 s1 rx
 obtain ⟨ts,e,q⟩:=Q5 hx
 match x,e,rx with
 | [.int j],e,rx =>
  unfold RepL at rx
  obtain ⟨v,r,rfl,r1,rx⟩:=rx
  unfold RepL at rx
  subst rx
  unfold Rep at r1
  subst r1
  have e':(if -100000<j∧j<100000 then some (L1 0 j.toNat) else none)=some ts:=e
  by_cases hj:-100000<j∧j<100000
  ·rw[if_pos hj]at e'
   have e'':=Option.some.inj e'
   subst e''
   exact ⟨j,rfl,by omega,by omega,q _ H1 s1 Z3 AQ5⟩
  ·rw[if_neg hj]at e';cases e'
def O4 (g:FG) (body:FB):List T→FB
 | [],_,ρ,acc=>.nx ρ acc
 | t::ts,a,ρ,acc=>match g t ρ with
  | none=>.bad
  | some ρ1=>match body a ρ1 acc with
   | .nx ρ2 acc2=>O4 g body ts a ρ2 acc2
   | .ct ρ2 acc2=>O4 g body ts a ρ2 acc2
   | .bad=>.bad
def AHA (i:Nat) (it:FI) (g:FG) (body:FB):FB:=fun a ρ acc=>match it ρ with
 | .ok ts=>O4 (fun t ρ=>(g t ρ).bind fun ρ'=>if J3 i a ρ'=true then some ρ' else none) body ts a ρ acc
 | _=>.bad
open Classical in
noncomputable def X5 (i:Nat) (tb:FB):FS:=fun ρ=>if h:i<ρ.length∧∃r:Ev,∀a,∃ρ' acc,tb a (ρ.set i (some (E8 a))) []=.nx ρ' acc∧ρ'.set i (some (.list acc))=r then .nx (Classical.choose h.2) else .bad
theorem AG3 {i:Nat} {tb:FB} {ρ r:Ev} (hi:i<ρ.length) (h:∀a,∃ρ' acc,tb a (ρ.set i (some (E8 a))) []=.nx ρ' acc∧ρ'.set i (some (.list acc))=r):X5 i tb ρ=.nx r:=by
 have hh:i<ρ.length∧∃r:Ev,∀a,∃ρ' acc,tb a (ρ.set i (some (E8 a))) []=.nx ρ' acc∧ρ'.set i (some (.list acc))=r:=⟨hi,r,h⟩
 unfold X5
 rw[dif_pos hh]
 obtain ⟨ρ1,acc1,e1,e2⟩:=Classical.choose_spec hh.2 0
 obtain ⟨ρ2,acc2,e3,e4⟩:=h 0
 rw[e1]at e3
 injection e3 with e5 e6
 rw[←e2,e5,e6,e4]
theorem RepEnv.put {K:PySem.W.Frag} {H:Hp} {ρ:Ev} {σ:L2.St} {i:Nat} {v:V} {t:T} (h:RepEnv K H ρ σ) (e:σ[i]?=some (some v)) (r:Rep K H t v):RepEnv K H (ρ.set i (some t)) σ:=by
 have hs:σ.set i (some v)=σ:=by
  apply List.ext_getElem?
  intro j
  by_cases hj:i=j
  ·subst hj
   rw[List.getElem?_set_self (List.getElem?_eq_some_iff.mp e).1,e]
  ·rw[List.getElem?_set_ne hj]
 have:=h.set i r
 rwa [hs]at this
theorem AMV {i:Nat} {x:Str} {st:Stmt} {rest:List Stmt} {tb:FB} {u:FS} {px pl pos:Pos} (hN:X.N.Nodup) (hi:X.N[i]?=some x) (hx:Loc X.env.scope x) (hs:swapsWith (.List [] pl) (some (.Name x px)) pos.line X.env=pure false) (hf:X.fn x=true∨X.env.scope.names.lookup x=some .local)
  (hst:JB X i st tb) (hr:JSs X Ek rest u):JSs X Ek (.Assign [.Name x px] (.List [] pl) pos::st::rest) (B2 (X5 i tb) u):=by
 refine PSs.weak (V5 (AP0 hN hi hx (AM6 AGS) hs hf) (V5 hst hr)) fun D σ H h=>?_
 obtain ⟨ρ,R,h⟩:=h
 by_cases hh:i<ρ.length∧∃r:Ev,∀a,∃ρ' acc,tb a (ρ.set i (some (E8 a))) []=.nx ρ' acc∧ρ'.set i (some (.list acc))=r
 ·obtain ⟨hl,r,hr⟩:=hh
  unfold B2 at h
  rw[AG3 hl hr]at h
  refine ⟨Nat.zero_le _,fun l nl=>?_⟩
  obtain ⟨ρ',acc,e1,e2⟩:=hr l
  refine ⟨l,H,ρ.set i (some (E8 l)),[],H,[],rfl,⟨Same.refl H,nl,R.set i AK5,C5,List.getElem?_set_self hl⟩,?_⟩
  rw[e1]
  intro σ' H0 vs o
  have sm:Same H (upd H0 l (.lst vs)):=o.base.trans (B0 o.free _)
  refine ⟨r,?_,K5 sm h⟩
  obtain ⟨v,q1,q2⟩:=o.env.get i _ o.slot
  have q3:=ABE q2
  subst q3
  rw[←e2]
  refine (o.env.mono (B0 o.free _)).put q1 ?_
  unfold Rep
  exact ⟨l,vs,rfl,SqL.of A8,RepL.mono (B0 o.free _) acc vs o.rep⟩
 ·unfold B2 X5 at h
  rw[dif_neg hh]at h
  exact h.elim
def AWS:List T→Option T
 | [.int i,.int j]=>some (.int (if j>i then j else i))
 | _=>none
theorem AVM {K:PySem.W.Frag}:APK K (fun xs H Q=>∃i j,xs=[.int i,.int j]∧Q (.int (if j>i then j else i)) H) AWS:=fun xs ts a H Q r e q=>by
 match ts,e,r with
 | [.int i,.int j],e,r =>
  unfold RepL at r
  obtain ⟨v,r',rfl,r1,r⟩:=r
  unfold RepL at r
  obtain ⟨v2,r'',rfl,r2,r⟩:=r
  unfold RepL at r
  subst r
  unfold Rep at r1 r2
  subst r1;subst r2
  cases e
  exact ⟨i,j,rfl,q _ H (Same.refl H) C3⟩
theorem AbB {e e':Expr} {t:FA} {p pos:Pos} (hc:X.calm=true) (hm:X.mg "max" = none) (hg:Gl X "max") (ha:JA X Ek [e,e'] t) (he:starEach [e,e'] X.env=(false,eval e X.env)::starEach [e'] X.env) (hpl:(backTo pos (starEach [e'] X.env)).any (·.1)=false):JE X Ek (.Call (.Name "max" p) [e,e'] [] pos) (eN AWS t) :=
 ADT (AMF hc) AVM (by decide +kernel) (by decide +kernel) (by decide +kernel) hm hg ha he hpl
def ASN:T→T→Option Bool
 | d,.list xs=>if (SeqAt.shaped d&&SeqAt.shaped (.list xs))=true then some (xs.any fun y=>PyData.eqv y d) else none
 | d,.tuple xs=>if (SeqAt.shaped d&&SeqAt.shaped (.tuple xs))=true then some (xs.any fun y=>PyData.eqv y d) else none
 | _,_=>none
def APM (a b:T):Option T:=(ASN a b).map .bool
def R9 (a b:T):Option T:=(ASN a b).map fun k=>.bool (!k)
theorem AH3 (x y c:T) (h:R9 x y=some c):∃k,c=.bool k:=by
 unfold R9 at h
 cases e:ASN x y with
 | none=>rw[e]at h;cases h
 | some k=>rw[e]at h;exact ⟨!k,(Option.some.inj h).symm⟩
def AbW (K:PySem.W.Frag) (f:Bool→Bool):R2:=fun x y H Q=>∃a b k,Rep K H a x∧Rep K H b y∧ASN a b=some k∧Q (.bl (f k)) H
theorem j6 {xs:List T} (h:SeqAt.shaped (.list xs)=true):PyData.canLayAll0 xs=true:=by
 have:=SeqAt.canLay_of_shaped h
 unfold PyData.canLay0 at this
 exact this
theorem Y4 {xs:List T} (h:SeqAt.shaped (.tuple xs)=true):PyData.canLayAll0 xs=true:=by
 have:=SeqAt.canLay_of_shaped h
 unfold PyData.canLay0 at this
 exact this
theorem AZD (hu:X.A.units+100<cLine):OpR X (compareOp .In) (AbW X.K id):=by
 intro pins s σ H x y v u Q I rx ry h
 obtain ⟨a,b,k,ra,rb,e,q⟩:=h
 match b,e,rb with
 | .list xs,e,rb =>
  have e':(if (SeqAt.shaped a&&SeqAt.shaped (.list xs))=true then some (xs.any fun y=>PyData.eqv y a) else none)=some k:=e
  by_cases hs:(SeqAt.shaped a&&SeqAt.shaped (.list xs))=true
  ·rw[if_pos hs]at e'
   have e2:=Option.some.inj e'
   obtain ⟨h1,h2⟩:=Bool.and_eq_true_iff.mp hs
   obtain ⟨as,r1⟩:=J6 I a x v ra rx (SeqAt.canLay_of_shaped h1)
   obtain ⟨bs,r2⟩:=J6 I (.list xs) y u rb ry (SeqAt.canLay_of_shaped h2)
   refine SeqAt.in_list_reads r2 r1 (j6 h2) (SeqAt.canLay_of_shaped h1) (room_in_shaped h1 (by omega)) ?_
   rw[e2]
   exact ⟨.bl k,H,I,rfl,q⟩
  ·rw[if_neg hs]at e';cases e'
 | .tuple xs,e,rb =>
  have e':(if (SeqAt.shaped a&&SeqAt.shaped (.tuple xs))=true then some (xs.any fun y=>PyData.eqv y a) else none)=some k:=e
  by_cases hs:(SeqAt.shaped a&&SeqAt.shaped (.tuple xs))=true
  ·rw[if_pos hs]at e'
   have e2:=Option.some.inj e'
   obtain ⟨h1,h2⟩:=Bool.and_eq_true_iff.mp hs
   obtain ⟨as,r1⟩:=J6 I a x v ra rx (SeqAt.canLay_of_shaped h1)
   obtain ⟨bs,r2⟩:=J6 I (.tuple xs) y u rb ry (SeqAt.canLay_of_shaped h2)
   refine SeqAt.in_tuple_reads r2 r1 (Y4 h2) (SeqAt.canLay_of_shaped h1) (room_in_shaped h1 (by omega)) ?_
   rw[e2]
   exact ⟨.bl k,H,I,rfl,q⟩
  ·rw[if_neg hs]at e';cases e'
theorem ANX (hu:X.A.units+100<cLine):OpR X (compareOp .NotIn) (AbW X.K not):=by
 intro pins s σ H x y v u Q I rx ry h
 obtain ⟨a,b,k,ra,rb,e,q⟩:=h
 match b,e,rb with
 | .list xs,e,rb =>
  have e':(if (SeqAt.shaped a&&SeqAt.shaped (.list xs))=true then some (xs.any fun y=>PyData.eqv y a) else none)=some k:=e
  by_cases hs:(SeqAt.shaped a&&SeqAt.shaped (.list xs))=true
  ·rw[if_pos hs]at e'
   have e2:=Option.some.inj e'
   obtain ⟨h1,h2⟩:=Bool.and_eq_true_iff.mp hs
   obtain ⟨as,r1⟩:=J6 I a x v ra rx (SeqAt.canLay_of_shaped h1)
   obtain ⟨bs,r2⟩:=J6 I (.list xs) y u rb ry (SeqAt.canLay_of_shaped h2)
   refine SeqAt.notIn_list_reads r2 r1 (j6 h2) (SeqAt.canLay_of_shaped h1) (room_in_shaped h1 (by omega)) ?_
   rw[e2]
   exact ⟨.bl (!k),H,I,rfl,q⟩
  ·rw[if_neg hs]at e';cases e'
 | .tuple xs,e,rb =>
  have e':(if (SeqAt.shaped a&&SeqAt.shaped (.tuple xs))=true then some (xs.any fun y=>PyData.eqv y a) else none)=some k:=e
  by_cases hs:(SeqAt.shaped a&&SeqAt.shaped (.tuple xs))=true
  ·rw[if_pos hs]at e'
   have e2:=Option.some.inj e'
   obtain ⟨h1,h2⟩:=Bool.and_eq_true_iff.mp hs
   obtain ⟨as,r1⟩:=J6 I a x v ra rx (SeqAt.canLay_of_shaped h1)
   obtain ⟨bs,r2⟩:=J6 I (.tuple xs) y u rb ry (SeqAt.canLay_of_shaped h2)
   refine SeqAt.notIn_tuple_reads r2 r1 (Y4 h2) (SeqAt.canLay_of_shaped h1) (room_in_shaped h1 (by omega)) ?_
   rw[e2]
   exact ⟨.bl (!k),H,I,rfl,q⟩
  ·rw[if_neg hs]at e';cases e'
theorem ATN {K:PySem.W.Frag}:Z7 K (AbW K id) APM:=fun x y tx ty a H Q rx ry e q=>by
 unfold APM at e
 cases h:ASN tx ty with
 | none=>rw[h]at e;cases e
 | some k =>
  rw[h]at e
  have e':PyData.bool k=a:=Option.some.inj e
  subst e'
  exact ⟨tx,ty,k,rx,ry,h,q _ H (Same.refl H) D9⟩
theorem AK9 {K:PySem.W.Frag}:Z7 K (AbW K not) R9:=fun x y tx ty a H Q rx ry e q=>by
 unfold R9 at e
 cases h:ASN tx ty with
 | none=>rw[h]at e;cases e
 | some k =>
  rw[h]at e
  have e':PyData.bool (!k)=a:=Option.some.inj e
  subst e'
  exact ⟨tx,ty,k,rx,ry,h,q _ H (Same.refl H) D9⟩
def gK {α:Type} (n k:Nat) (us ws:List α):List α:=if us.length=n∧ws.length=k then us++ws else []
structure DfnK (CX:CXT) (P:Program) (w:World) (K:PySem.W.Frag) (mg:Str→Option Value) (base:Heap) (x:Str) (k np n:Nat) (m:List T→R T) (ks:List Str):Prop where
 ex:∃(f:Addr) (fd:FuncData) (ps:List Str),FnOk P w K mg base CX k f fd ps (spM K n m)∧mg x=some (.ref f)∧PySem.W.keepIn K (.ref f)=true∧KBinds K fd ps ks (gK np ks.length) (gK np ks.length)
 hex:∀ts c fs,m ts=.ex c fs→fs=[]
 dbg:(x == ("__debug__" : Str))=false
 sum:np+ks.length=n
theorem AY9 {n k:Nat} {vs zs:List V} {us ws:List Value} (h1:Vals vs us) (h2:Vals zs ws):Vals (gK n k vs zs) (gK n k us ws):=by
 have e1:=h1.length
 have e2:=h2.length
 unfold gK
 by_cases h:us.length=n∧ws.length=k
 ·rw[if_pos h,if_pos (by rw[e1,e2];exact h)]
  exact h1.append h2
 ·rw[if_neg h,if_neg (by rw[e1,e2];exact h)]
  exact .nil
theorem AYI {K:PySem.W.Frag} {fd:FuncData} {ps:List Str} {v1 v2:Value} (hp:ps.length=5) (h:∀(S:Setting) (a b c:Value),PySem.W.peek K S (bindArgs fd ⟨[a,b,c],[]⟩)=some (ps.zip [a,b,c,v1,v2])):Binds K fd ps [v1,v2]:=fun s us XK hl=>by
 rw[hp,List.length_append]at hl
 rcases us with _ | ⟨a,_ | ⟨b,_ | ⟨c,_ | ⟨d,r⟩⟩⟩⟩<;>first
  | (exfalso;simp at hl;done)
  | (exfalso;simp at hl;omega)
  | exact fun M A E Q hq=>(PySem.W.Looks.of_peek XK (h _ a b c)).here hq
theorem ART {K:PySem.W.Frag} {fd:FuncData} {ps:List Str} {n1 n2:Str} (hp:ps.length=5) (h:∀a b c d e:Value,bindArgs fd ⟨[a,b,c],[(n1,d),(n2,e)]⟩=pure (ps.zip [a,b,c,d,e])):KBinds K fd ps [n1,n2] (gK 3 2) (gK 3 2) where
 to:=fun s us ws XK hl=>by
  by_cases q:us.length=3∧ws.length=2
  ·obtain ⟨q1,q2⟩:=q
   exact AQG (P:=fun us=>BindsTo s fd ⟨us,[n1,n2].zip ws⟩ (ps.zip (gK 3 2 us ws))) (fun a b c=>AHC (P:=fun ws=>BindsTo s fd ⟨[a,b,c],[n1,n2].zip ws⟩ (ps.zip (gK 3 2 [a,b,c] ws))) (fun d e=>.of_eq (h a b c d e)) ws q2) us q1
  ·unfold gK at hl
   rw[if_neg q,hp]at hl
   cases hl
 rel:=AY9
end
section
variable {prog:Program} {w:World} {A:Around} {E:Value→Shared→Prop} {s:Shared}
theorem AKV {it t:Addr} {i:Nat} {vs:Array Value} {x:Value} {Q:Value→Shared→Prop} (k:s.heap.IsTupleIter it t i) (kt:s.heap.IsTuple t vs) (hx:vs[i]?=some x)
  (q:∀h',h'.IsTupleIter it t (i+1)→Heap.SameBut it s.heap h'→Q x {s with heap:=h'}):wpAny (model prog w) A (Builtin.SmallTypes.nextOf (.ref it)) Q E s:=by
 obtain ⟨ob,kob,kc,kd⟩:=id k
 obtain ⟨tb,ktb,_,nt,ktd⟩:=kt
 have ty:=k.typeIs
 unfold Builtin.SmallTypes.nextOf
 refine wpAny_bind (wpAny_callSpecial?_slot (name:=Str.ofString "__next__") ty F.slot_tuple_iterator_next (wpAny_call_entry F.slot_tuple_iterator_next ty F.entry_tuple_iterator_next ?_ (F.args_tuple_iterator_next_1 _)))
 show wpAny _ _ (field (Value.ref it) 0 >>= _) _ _ s
 refine wpAny_bind (wpAny_field kob kd (x:=.ref t) rfl ?_)
 show wpAny _ _ (if ((Value.ref t == Value.none)=true) then _ else _) _ _ s
 rw[if_neg (by intro z;exact Bool.false_ne_true z)]
 show wpAny _ _ (field (Value.ref it) 1 >>= _) _ _ s
 refine wpAny_bind (wpAny_field kob kd (x:=.int i 0) rfl ?_)
 show wpAny _ _ (seqItems? (Value.ref t) >>= _) _ _ s
 refine wpAny_bind (wpAny_seqItems ktb ktd ?_)
 simp only[hx,Int.toNat_natCast]
 refine wpAny_bind (wpAny_setField kob kd (by simp) (wpAny_pure ⟨x,rfl,wpAny_pure (q _ ⟨_,Heap.get?_update_self _ kob (Obj.isFreed_of_fields (Obj.data_mapFields kd _)),(Obj.cls_mapFields ..).trans kc,by rw[Obj.data_mapFields kd];simp[rawInt]⟩ (Heap.SameBut.update ..))⟩))
theorem AOR {it t:Addr} {i:Nat} {vs:Array Value} {Q:Value→Shared→Prop} (hh:A.handled=none) (k:s.heap.IsTupleIter it t i) (kt:s.heap.IsTuple t vs) (hx:vs[i]?=none)
  (q:∀h' e,Heap.ExtBut it s.heap h'→(∃o,h'.get? e=some o∧o.cls=.type "StopIteration")→E (.ref e) {s with heap:=h'}):wpAny (model prog w) A (Builtin.SmallTypes.nextOf (.ref it)) Q E s:=by
 obtain ⟨ob,kob,kc,kd⟩:=id k
 obtain ⟨tb,ktb,_,nt,ktd⟩:=kt
 have ty:=k.typeIs
 unfold Builtin.SmallTypes.nextOf
 refine wpAny_bind (wpAny_callSpecial?_slot (name:=Str.ofString "__next__") ty F.slot_tuple_iterator_next (wpAny_call_entry F.slot_tuple_iterator_next ty F.entry_tuple_iterator_next ?_ (F.args_tuple_iterator_next_1 _)))
 show wpAny _ _ (field (Value.ref it) 0 >>= _) _ _ s
 refine wpAny_bind (wpAny_field kob kd (x:=.ref t) rfl ?_)
 show wpAny _ _ (if ((Value.ref t == Value.none)=true) then _ else _) _ _ s
 rw[if_neg (by intro z;exact Bool.false_ne_true z)]
 show wpAny _ _ (field (Value.ref it) 1 >>= _) _ _ s
 refine wpAny_bind (wpAny_field kob kd (x:=.int i 0) rfl ?_)
 show wpAny _ _ (seqItems? (Value.ref t) >>= _) _ _ s
 refine wpAny_bind (wpAny_seqItems ktb ktd ?_)
 simp only[hx,Int.toNat_natCast]
 refine wpAny_bind (wpAny_rule (wpAny_bind (wpAny_setField kob kd (by simp) ?_)))
 show wpAny _ _ (newExc (Value.type "StopIteration") [] >>= _) _ _ _
 refine wpAny_bind ?_
 simp only[newTuple,newExc]
 refine wpAny_bind (wpAny_newObj_type ?_ (by first | size_fits))
 refine wpAny_bind (m:=firstArgMember _ _) (wpAny_of_eq (a:=Value.none) (by first | rfl | (simp only[firstArgMember];done) | (simp only[firstArgMember];rfl)) ?_)
 refine wpAny_newObj_type ?_ (by first | size_fits)
 simp only[raiseNew]
 refine wpAny_bind (wpAny_handled ?_)
 first | rw[hh] | rw[show A.in1.handled=none from hh]
 exact wpAny_bind (wpAny_pure (wpAny_throw (q _ _ (((Heap.SameBut.update ..).extBut.push _).push _) ⟨_,Heap.get?_push_size _ rfl,rfl⟩)))
def SeqB (b:Bool) (h:Heap) (l:Addr) (vs:Array Value):Prop:=match b with
 | false=>h.IsList l vs
 | true=>h.IsTuple l vs
def IterB (b:Bool) (h:Heap) (i l:Addr) (k:Nat):Prop:=match b with
 | false=>h.IsListIter i l k
 | true=>h.IsTupleIter i l k
def AG6 (b:Bool):String:=if b=true then "tuple_iterator" else "list_iterator"
theorem SeqB.keep {b:Bool} {h h':Heap} {l:Addr} {vs:Array Value} (x:SeqB b h l vs) (k:∀o,h.get? l=some o→h'.get? l=some o):SeqB b h' l vs:=by
 cases b with
 | false=>exact x.at k
 | true=>obtain ⟨o,e,r⟩:=x;exact ⟨o,k o e,r⟩
theorem IterB.keep {b:Bool} {h h':Heap} {i l:Addr} {n:Nat} (x:IterB b h i l n) (k:∀o,h.get? i=some o→h'.get? i=some o):IterB b h' i l n:=by
 cases b with
 | false=>exact x.at k
 | true=>obtain ⟨o,e,r⟩:=x;exact ⟨o,k o e,r⟩
theorem IterB.obj {b:Bool} {h:Heap} {i l:Addr} {n:Nat} (x:IterB b h i l n):∃o,h.get? i=some o∧∀v,o.data≠.cell v:=by
 cases b with
 | false=>obtain ⟨o,e,_,d⟩:=x;exact ⟨o,e,fun v z=>by rw[d]at z;cases z⟩
 | true=>obtain ⟨o,e,_,d⟩:=x;exact ⟨o,e,fun v z=>by rw[d]at z;cases z⟩
theorem AA7 {b:Bool} {i l:Addr} {n:Nat} {vs:Array Value} {x:Value} {Q:Value→Shared→Prop} (k:IterB b s.heap i l n) (kt:SeqB b s.heap l vs) (hx:vs[n]?=some x)
  (q:∀h',IterB b h' i l (n+1)→Heap.SameBut i s.heap h'→Q x {s with heap:=h'}):wpAny (model prog w) A (Builtin.SmallTypes.nextOf (.ref i)) Q E s:=by
 cases b with
 | false=>exact wpAny_nextOf_list_item k kt hx q
 | true=>exact AKV k kt hx q
theorem AFU {b:Bool} {i l:Addr} {n:Nat} {vs:Array Value} {Q:Value→Shared→Prop} (hh:A.handled=none) (k:IterB b s.heap i l n) (kt:SeqB b s.heap l vs) (hx:vs[n]?=none)
  (q:∀h' e,Heap.ExtBut i s.heap h'→(∃o,h'.get? e=some o∧o.cls=.type "StopIteration")→E (.ref e) {s with heap:=h'}):wpAny (model prog w) A (Builtin.SmallTypes.nextOf (.ref i)) Q E s:=by
 cases b with
 | false=>exact wpAny_nextOf_list_end hh k kt hx q
 | true=>exact AOR hh k kt hx q
theorem AP7 {b:Bool} {l:Addr} {vs:Array Value} {Q:Value→Shared→Prop} (kt:SeqB b s.heap l vs) (q:Q (.ref s.heap.objs.size) {s with heap:=s.heap.push {cls:=.type (AG6 b),data:=.fields #[.ref l,.int 0 0] } }):wpAny (model prog w) A (pyIter (.ref l)) Q E s:=by
 cases b with
 | false=>exact wpAny_pyIter_list kt q
 | true=>exact wpAny_pyIter_tuple kt q
structure ZipB (b c:Bool) (h:Heap) (z ti tu i j l m:Addr) (f0:Value) (p q:Nat):Prop where
 z:IsZip h z ti tu f0
 ti:IsPair h ti (.ref i) (.ref j)
 tu:∃x y,IsPair h tu x y
 i:IterB b h i l p
 j:IterB c h j m q
theorem AM2 {b c:Bool} {z ti tu i j l m:Addr} {p q:Nat} {xs ys:Array Value} {x y:Value} {Q:Value→Shared→Prop} (D:ZipApart z ti tu i j l m) (Z:ZipB b c s.heap z ti tu i j l m .none p q)
  (hl:SeqB b s.heap l xs) (hm:SeqB c s.heap m ys) (hx:xs[p]?=some x) (hy:ys[q]?=some y)
  (hQ:∀h',ZipB b c h' z ti tu i j l m (rawInt s.heap.objs.size) (p+1) (q+1)→IsPair h' s.heap.objs.size x y→h'.objs.size=s.heap.objs.size+1 →
   (∀a o,a≠z→a≠tu→a≠i→a≠j→s.heap.get? a=some o→h'.get? a=some o)→Q (.ref s.heap.objs.size) {s with heap:=h'}) :
  wpAny (model prog w) A (Builtin.«zip.__next__» ⟨[.ref z],[]⟩) (fun fin s'=>∃v,fin=.done (.ret v)∧Q v s') E s:=by
 obtain ⟨z0,t0,⟨u,v,u0⟩,i0,j0⟩:=Z
 show wpAny _ _ (field (Value.ref z) 2 >>= _) _ _ _
 refine wpAny_bind (wpAny_field z0 rfl (x:=.bool false) rfl ?_)
 show wpAny _ _ (field (Value.ref z) 3 >>= _) _ _ _
 refine wpAny_bind (wpAny_field z0 rfl (x:=.ref ti) rfl ?_)
 refine wpAny_bind (wpAny_seqItems t0 rfl ?_)
 show wpAny _ _ (Builtin.SmallTypes.ownedTupleIsFree (Value.ref z) >>= _) _ _ _
 refine wpAny_bind ?_
 unfold Builtin.SmallTypes.ownedTupleIsFree
 refine wpAny_bind (wpAny_field z0 rfl (x:=.none) rfl (wpAny_pure ?_))
 simp only[if_true]
 refine wpAny_bind (wpAny_rule ?_)
 refine wpAny_bind (wpAny_field z0 rfl (x:=.ref tu) rfl ?_)
 refine wpAny_bind (wpAny_setField_rec z0 (by simp) fun g1 z1 s1=>?_)
 replace z1:IsZip g1 z ti tu .ellipsis:=z1
 refine wpAny_bind ?_
 simp only[List.forIn_cons,List.forIn_nil,List.zipIdx_cons,List.zipIdx_nil]
 refine wpAny_bind (wpAny_bind (wpAny_onRaise ?_))
 show wpAny _ _ (Builtin.SmallTypes.nextOf (Value.ref i) >>= _) _ _ _
 refine wpAny_bind (AA7 (s:={s with heap:=g1}) (i0.keep fun o e=>s1.extBut _ _ D.i1z e) (hl.keep fun o e=>s1.extBut _ _ D.l1z e) hx fun g2 i2 s2=>wpAny_pure ?_)
 have u2:IsPair g2 tu u v:=s2.extBut _ _ D.TOi1 (s1.extBut _ _ D.TOz u0)
 refine wpAny_bind (wpAny_seqItems u2 rfl ?_)
 refine wpAny_bind (wpAny_updateSeq_pair u2 fun g3 u3 s3=>?_)
 replace u3:IsPair g3 tu x v:=u3
 refine wpAny_bind (wpAny_letGo (wpAny_pure ?_))
 refine wpAny_bind (wpAny_bind (wpAny_onRaise ?_))
 show wpAny _ _ (Builtin.SmallTypes.nextOf (Value.ref j) >>= _) _ _ _
 refine wpAny_bind (AA7 (s:={s with heap:=g3}) (j0.keep fun o e=>s3.extBut _ _ D.TOi2.symm (s2.extBut _ _ D.i12.symm (s1.extBut _ _ D.i2z e))) (hm.keep fun o e=>s3.extBut _ _ D.l2TO (s2.extBut _ _ D.l2i1 (s1.extBut _ _ D.l2z e))) hy fun g4 j4 s4=>wpAny_pure ?_)
 have u4:IsPair g4 tu x v:=s4.extBut _ _ D.TOi2 u3
 refine wpAny_bind (wpAny_seqItems u4 rfl ?_)
 refine wpAny_bind (wpAny_updateSeq_pair u4 fun g5 u5 s5=>?_)
 replace u5:IsPair g5 tu x y:=u5
 refine wpAny_bind (wpAny_letGo (wpAny_pure (wpAny_pure ?_)))
 refine wpAny_bind (wpAny_seqItems u5 rfl ?_)
 refine wpAny_bind (wpAny_newTuple ?_)
 have e5:g5.objs.size=s.heap.objs.size:=by rw[s5.1,s4.1,s3.1,s2.1,s1.1]
 have z5:IsZip g5 z ti tu .ellipsis:=s5.extBut _ _ D.TOz.symm (s4.extBut _ _ D.i2z.symm (s3.extBut _ _ D.TOz.symm (s2.extBut _ _ D.i1z.symm z1)))
 have old5:∀a o,a≠z→a≠tu→a≠i→a≠j→s.heap.get? a=some o→g5.get? a=some o:=fun a o a1 a2 a3 a4 e=>s5.extBut _ _ a2 (s4.extBut _ _ a4 (s3.extBut _ _ a2 (s2.extBut _ _ a3 (s1.extBut _ _ a1 e))))
 have i5:IterB b g5 i l (p+1):=i2.keep fun o e=>s5.extBut _ _ D.TOi1.symm (s4.extBut _ _ D.i12 (s3.extBut _ _ D.TOi1.symm e))
 have j5:IterB c g5 j m (q+1):=j4.keep fun o e=>s5.extBut _ _ D.TOi2.symm e
 have ltz:z<g5.objs.size:=Heap.lt_size z5
 show wpAny _ _ (Builtin.SmallTypes.ownedTupleHandOut (Value.ref z) (Value.ref g5.objs.size) >>= _) _ _ _
 refine wpAny_bind ?_
 unfold Builtin.SmallTypes.ownedTupleHandOut
 have z6:IsZip (g5.push {cls:=.type "tuple",data:=.seq #[x,y] }) z ti tu .ellipsis:=Heap.get?_push_of_some _ z5
 refine wpAny_bind (wpAny_setField_rec z6 (by simp) fun g7 z7 s7=>?_)
 replace z7:IsZip g7 z ti tu (rawInt g5.objs.size):=z7
 refine wpAny_setField_rec z7 (by simp) fun g8 z8 s8=>?_
 replace z8:IsZip g8 z ti tu (rawInt g5.objs.size):=z8
 have up:∀a o,a≠z→g5.get? a=some o→g8.get? a=some o:=fun a o a1 e=>s8.extBut _ _ a1 (s7.extBut _ _ a1 (Heap.get?_push_of_some _ e))
 have T8:IsPair g8 g5.objs.size x y:=s8.extBut _ _ (Nat.ne_of_gt ltz) (s7.extBut _ _ (Nat.ne_of_gt ltz) (Heap.get?_push_size _ rfl))
 have e8:g8.objs.size=g5.objs.size+1:=by rw[s8.1,s7.1,Heap.size_push]
 rw[e5]at z8 T8 e8
 refine wpAny_pure ⟨_,rfl,?_⟩
 show Q (Value.ref g5.objs.size) _
 rw[e5]
 exact hQ g8 ⟨z8,up _ _ D.TIz (old5 _ _ D.TIz D.TITO D.TIi1 D.TIi2 t0),⟨x,y,up _ _ D.TOz u5⟩,i5.keep fun o e=>up _ o D.i1z e,j5.keep fun o e=>up _ o D.i2z e⟩ T8 e8 fun a o a1 a2 a3 a4 e=>up a o a1 (old5 a o a1 a2 a3 a4 e)
theorem ASG {b c:Bool} {z ti tu i j l m:Addr} {p q:Nat} {xs ys:Array Value} {Q:PySem.Fin→Shared→Prop} (hh:A.handled=none) (D:ZipApart z ti tu i j l m) (Z:ZipB b c s.heap z ti tu i j l m .none p q)
  (hl:SeqB b s.heap l xs) (hm:SeqB c s.heap m ys) (hend:xs[p]?=none∨ys[q]?=none)
  (hE:∀h' e,(∀a o,a≠z→a≠tu→a≠i→a≠j→s.heap.get? a=some o→h'.get? a=some o)→(∃o,h'.get? e=some o∧o.cls=.type "StopIteration")→E (.ref e) {s with heap:=h'}) :
  wpAny (model prog w) A (Builtin.«zip.__next__» ⟨[.ref z],[]⟩) Q E s:=by
 obtain ⟨z0,t0,⟨u,v,u0⟩,i0,j0⟩:=Z
 show wpAny _ _ (field (Value.ref z) 2 >>= _) _ _ _
 refine wpAny_bind (wpAny_field z0 rfl (x:=.bool false) rfl ?_)
 show wpAny _ _ (field (Value.ref z) 3 >>= _) _ _ _
 refine wpAny_bind (wpAny_field z0 rfl (x:=.ref ti) rfl ?_)
 refine wpAny_bind (wpAny_seqItems t0 rfl ?_)
 show wpAny _ _ (Builtin.SmallTypes.ownedTupleIsFree (Value.ref z) >>= _) _ _ _
 refine wpAny_bind ?_
 unfold Builtin.SmallTypes.ownedTupleIsFree
 refine wpAny_bind (wpAny_field z0 rfl (x:=.none) rfl (wpAny_pure ?_))
 simp only[if_true]
 refine wpAny_bind (wpAny_rule ?_)
 refine wpAny_bind (wpAny_field z0 rfl (x:=.ref tu) rfl ?_)
 refine wpAny_bind (wpAny_setField_rec z0 (by simp) fun g1 z1 s1=>?_)
 replace z1:IsZip g1 z ti tu .ellipsis:=z1
 refine wpAny_bind ?_
 simp only[List.forIn_cons,List.forIn_nil,List.zipIdx_cons,List.zipIdx_nil]
 refine wpAny_bind (wpAny_bind (wpAny_onRaise ?_))
 show wpAny _ _ (Builtin.SmallTypes.nextOf (Value.ref i) >>= _) _ _ _
 have i1':IterB b g1 i l p:=i0.keep fun o e=>s1.extBut _ _ D.i1z e
 have l1':SeqB b g1 l xs:=hl.keep fun o e=>s1.extBut _ _ D.l1z e
 cases hx:xs[p]? with
 | none =>
  refine wpAny_bind (AFU (s:={s with heap:=g1}) hh i1' l1' hx fun g2 e s2 he=>?_)
  obtain ⟨oe,ke,kc⟩:=he
  have z2:IsZip g2 z ti tu .ellipsis:=s2 _ _ D.i1z.symm z1
  have nez:e≠z:=fun r=>by subst r;rw[z2]at ke;cases ke;simp at kc
  exact wpAny_setField_rec z2 (by simp) fun g3 _ s3=>hE g3 e (fun a o a1 _ a3 _ r=>s3.extBut _ _ a1 (s2 _ _ a3 (s1.extBut _ _ a1 r))) ⟨oe,s3.extBut _ _ nez ke,kc⟩
 | some x =>
  have hy:ys[q]?=none:=by rcases hend with r | r;rw[hx]at r;cases r;exact r
  refine wpAny_bind (AA7 (s:={s with heap:=g1}) i1' l1' hx fun g2 i2 s2=>wpAny_pure ?_)
  have u2:IsPair g2 tu u v:=s2.extBut _ _ D.TOi1 (s1.extBut _ _ D.TOz u0)
  refine wpAny_bind (wpAny_seqItems u2 rfl ?_)
  refine wpAny_bind (wpAny_updateSeq_pair u2 fun g3 u3 s3=>?_)
  refine wpAny_bind (wpAny_letGo (wpAny_pure ?_))
  refine wpAny_bind (wpAny_bind (wpAny_onRaise ?_))
  show wpAny _ _ (Builtin.SmallTypes.nextOf (Value.ref j) >>= _) _ _ _
  refine wpAny_bind (AFU (s:={s with heap:=g3}) hh (j0.keep fun o e=>s3.extBut _ _ D.TOi2.symm (s2.extBut _ _ D.i12.symm (s1.extBut _ _ D.i2z e))) (hm.keep fun o e=>s3.extBut _ _ D.l2TO (s2.extBut _ _ D.l2i1 (s1.extBut _ _ D.l2z e))) hy fun g4 e s4 he=>?_)
  obtain ⟨oe,ke,kc⟩:=he
  have z4:IsZip g4 z ti tu .ellipsis:=s4 _ _ D.i2z.symm (s3.extBut _ _ D.TOz.symm (s2.extBut _ _ D.i1z.symm z1))
  have nez:e≠z:=fun r=>by subst r;rw[z4]at ke;cases ke;simp at kc
  exact wpAny_setField_rec z4 (by simp) fun g5 _ s5=>hE g5 e (fun a o a1 a2 a3 a4 r=>s5.extBut _ _ a1 (s4 _ _ a4 (s3.extBut _ _ a2 (s2.extBut _ _ a3 (s1.extBut _ _ a1 r))))) ⟨oe,s5.extBut _ _ nez ke,kc⟩
theorem AGE {b c:Bool} {z ti tu i j l m:Addr} {p q:Nat} {xs ys:Array Value} {x y:Value} {Q:Option Value→Shared→Prop} (D:ZipApart z ti tu i j l m) (Z:ZipB b c s.heap z ti tu i j l m .none p q)
  (hl:SeqB b s.heap l xs) (hm:SeqB c s.heap m ys) (hx:xs[p]?=some x) (hy:ys[q]?=some y)
  (hQ:∀h',ZipB b c h' z ti tu i j l m (rawInt s.heap.objs.size) (p+1) (q+1)→IsPair h' s.heap.objs.size x y→h'.objs.size=s.heap.objs.size+1 →
   (∀a o,a≠z→a≠tu→a≠i→a≠j→s.heap.get? a=some o→h'.get? a=some o)→Q (some (.ref s.heap.objs.size)) {s with heap:=h'}):wpAny (model prog w) A (pyNext (.ref z)) Q E s:=by
 have ty:s.TypeIs (.ref z) "zip":=⟨_,Z.z,rfl⟩
 unfold pyNext
 exact wpAny_bind (wpAny_attempt (wpAny_callSpecial?_slot (name:=Str.ofString "__next__") ty F.slot_zip_next (wpAny_call_entry F.slot_zip_next ty F.entry_zip_next (AM2 D Z hl hm hx hy fun h' a1 a2 a3 a4=>wpAny_pure (hQ h' a1 a2 a3 a4)) (F.args_zip_next_1 _))))
theorem AIE {b c:Bool} {z ti tu i j l m:Addr} {p q:Nat} {xs ys:Array Value} {Q:Option Value→Shared→Prop} (hh:A.handled=none) (D:ZipApart z ti tu i j l m) (Z:ZipB b c s.heap z ti tu i j l m .none p q)
  (hl:SeqB b s.heap l xs) (hm:SeqB c s.heap m ys) (hend:xs[p]?=none∨ys[q]?=none)
  (hQ:∀h',(∀a o,a≠z→a≠tu→a≠i→a≠j→s.heap.get? a=some o→h'.get? a=some o)→Q none {s with heap:=h'}):wpAny (model prog w) A (pyNext (.ref z)) Q E s:=by
 have ty:s.TypeIs (.ref z) "zip":=⟨_,Z.z,rfl⟩
 unfold pyNext
 refine wpAny_bind (wpAny_attempt (wpAny_callSpecial?_slot (name:=Str.ofString "__next__") ty F.slot_zip_next (wpAny_call_entry F.slot_zip_next ty F.entry_zip_next (ASG hh D Z hl hm hend fun h' e k he=>?_) (F.args_zip_next_1 _))))
 obtain ⟨o,ho,hc⟩:=he
 exact wpAny_bind (wpAny_isInstance (T:="StopIteration") (b:=true) ⟨o,ho,hc⟩ isSubtype_stop (wpAny_pure (hQ _ k)))
abbrev zb1 (b:Bool) (h:Heap) (l:Addr):Heap:=h.push {cls:=.type (AG6 b),data:=.fields #[.ref l,.int 0 0] }
abbrev zb2 (b c:Bool) (h:Heap) (l m:Addr):Heap:=(zb1 b h l).push {cls:=.type (AG6 c),data:=.fields #[.ref m,.int 0 0] }
abbrev zb3 (b c:Bool) (h:Heap) (l m:Addr):Heap:=(zb2 b c h l m).push {cls:=.type "tuple",data:=.seq #[.ref h.objs.size,.ref (zb1 b h l).objs.size] }
abbrev zb4 (b c:Bool) (h:Heap) (l m:Addr):Heap:=(zb3 b c h l m).push {cls:=.type "tuple",data:=.seq #[.none,.none] }
abbrev zb5 (b c:Bool) (h:Heap) (l m:Addr):Heap:=(zb4 b c h l m).push {cls:=.type "zip",data:=.fields #[.none,.bool false,.bool false,.ref (zb2 b c h l m).objs.size,.ref (zb3 b c h l m).objs.size] }
theorem AaD (b c:Bool) (l m:Addr) (xs ys:Array Value):Meets (Builtin.«zip.__new__» ⟨[.type "zip",.ref l,.ref m],[]⟩) (fun _ R s=>SeqB b s.heap l xs∧SeqB c s.heap m ys∧R (.ok (.ret (.ref (zb4 b c s.heap l m).objs.size))) {s with heap:=zb5 b c s.heap l m}) :=
 .of_wp fun prog w A R s h=>by
  obtain ⟨hp,g,d,tk,os⟩:=s
  obtain ⟨k1,k2,k3⟩:=h
  have hsub:=sub_zip
  have K1:SeqB b (Shared.heap ⟨hp,g,d,tk,os⟩) l xs:=k1
  have K2:SeqB c (Shared.heap ⟨hp.push {cls:=.type (AG6 b),data:=.fields #[.ref l,.int 0 0] },g,d,tk,os⟩) m ys:=k2.keep fun o e=>Heap.get?_push_of_some _ e
  wp_walk using AP7 K1,AP7 K2
  exact ⟨_,rfl,k3⟩
end
section
variable {X:Cx} {Ek:EK} {pins:List (Addr × Obj)} {σ:L2.St} {H:Hp} {s:Shared}
theorem AFG {p:Addr} {x y:V} {u v:Value} (I:Inv X pins σ H s) (e:IsPair s.heap p u v) (n:H p=none) (h0:X.s₀.heap.objs.size≤p) (nl:X.env.locals≠p) (nc:∀a c,X.env.cells.lookup a=some c→c≠p) (np:∀q∈X.pn++pins,q.1≠p)
  (rx:RelV x u) (ry:RelV y v):Inv X pins σ (upd H p (.tup [x,y])) s:=by
 have nS:∀b o,X.s₀.heap.get? b=some o→b≠p:=fun b o q=>Nat.ne_of_lt (Nat.lt_of_lt_of_le (Heap.lt_size q) h0)
 have ne:∀c u,H c=some u→c≠p:=fun c u q z=>by rw[z,n]at q;cases q
 refine ⟨I.ok,I.os,I.bare,⟨I.base.keep,I.base.slot,fun b o q m x=>by rw[A6 (nS b o q)];exact I.base.free b o q m x,I.base.there,fun b xs q=>?_,fun b o u q=>?_,fun b ps q=>?_⟩,I.loc,I.cell,by rw[A6 nl];exact I.free,fun a c q=>by rw[A6 (nc a c q)];exact I.freeC a c q,fun q hq=>?_,fun b u' q=>?_,I.len⟩
 ·have:=I.base.tups b xs q
  rw[A6 (ne b _ this)];exact this
 ·have:=I.base.frzs b o u q
  rw[A6 (ne b _ this)];exact this
 ·obtain ⟨more,this⟩:=I.base.tbls b ps q
  exact ⟨more,by rw[A6 (ne b _ this)];exact this⟩
 ·obtain ⟨p1,p2,p3⟩:=I.pin q hq
  exact ⟨p1,by rw[A6 (np q hq)];exact p2,p3⟩
 ·by_cases hb:b=p
  ·subst hb
   rw[A8]at q
   cases q
   exact ⟨show 2≤sizeLine by decide,[u,v],.cons rx (.cons ry .nil),⟨_,e,rfl,_,rfl⟩⟩
  ·rw[A6 hb]at q
   exact (I.hok b u' q).stay (fun c w' _ r=>r) (fun c r=>by rw[A6 (ne c _ r)];exact r) fun c xs r=>by rw[A6 (ne c _ r)];exact r
def SqB (b:Bool) (K:PySem.W.Frag) (H:Hp) (l:Addr) (xs:List V):Prop:=match b with
 | false=>SqL K H l xs
 | true=>SqT K H l xs
theorem S9 {b:Bool} {K:PySem.W.Frag} {H H':Hp} (e:Same H H') {l:Addr} {xs:List V} (h:SqB b K H l xs):SqB b K H' l xs:=by
 cases b with
 | false=>exact K6 e h
 | true=>exact L6 e h
theorem AA8 {b:Bool} {l:Addr} {xs:List V} (I:Inv X pins σ H s) (h:SqB b X.K H l xs):∃its:List Value,Vals xs its∧SeqB b s.heap l its.toArray:=by
 cases b with
 | false=>obtain ⟨its,r,p,_⟩:=I.list h;exact ⟨its,r,p.isList⟩
 | true=>obtain ⟨its,r,p,_⟩:=I.tuple h;exact ⟨its,r,p⟩
theorem AJI {b:Bool} {l:Addr} {xs ys:List V} (I:Inv X pins σ H s) (h:SqB b X.K H l xs) (h':SqB b X.K H l ys):xs=ys:=by
 cases b with
 | false=>exact I.list_inj h h'
 | true=>exact I.tuple_inj h h'
def Itz (K:PySem.W.Frag) (b c:Bool) (l m:Addr):It :=
 ⟨fun i H=>∃xs ys x y,SqB b K H l xs∧SqB c K H m ys∧xs[i]?=some x∧ys[i]?=some y,
  fun i H v H'=>∃p x y,v=.ref p∧H p=none∧H'=upd H p (.tup [x,y])∧(∀xs,SqB b K H l xs→xs[i]?=some x)∧∀ys,SqB c K H m ys→ys[i]?=some y,
  fun i H=>∃xs ys,SqB b K H l xs∧SqB c K H m ys∧(xs.length≤i∨ys.length≤i)⟩
theorem ANF {h':Heap} {b c:Bool} {z ti tu i j l m:Addr} (I:Inv X pins σ H s) (hf:∀a∈[z,ti,tu,i,j],AHB X pins H a) (old:∀a o,a≠z→a≠tu→a≠i→a≠j→s.heap.get? a=some o→h'.get? a=some o):Inv X pins σ H {s with heap:=h'}:=by
 have fz:=hf z (by simp)
 have fu:=hf tu (by simp)
 have fi:=hf i (by simp)
 have fj:=hf j (by simp)
 have far:∀a u,H a=some u→a≠z∧a≠tu∧a≠i∧a≠j:=fun a u q=>⟨fun e=>(by rw[e,fz.1]at q;cases q),fun e=>(by rw[e,fu.1]at q;cases q),fun e=>(by rw[e,fi.1]at q;cases q),fun e=>(by rw[e,fj.1]at q;cases q)⟩
 have off:∀a,a ∉ [z,tu,i,j]→a≠z∧a≠tu∧a≠i∧a≠j:=fun a q=>by
  simp only[List.mem_cons,List.not_mem_nil,or_false,not_or]at q
  exact q
 refine I.step (g':=s.gens) (d':=s.drawn) (t':=s.toks) (ch:=[z,tu,i,j]) (fun a ha=>?_) (fun a o _ _ q e _=>?_) (fun a o _ _ q e _=>⟨o.slots,?_⟩) (fun _ _ _ _ q=>q) (fun a o q e=>⟨o,?_⟩) (fun _ _ e=>e) (fun _ _ _ e=>e) (fun a ps e=>⟨#[],by rw[e];simp⟩) (fun mm hm=>?_) (fun a u e=>?_) I.bare
 ·simp only[List.mem_cons,List.not_mem_nil,or_false]at ha
  rcases ha with rfl | rfl | rfl | rfl
  ·exact ⟨fz.2.2.2.1,fz.2.1,fz.2.2.2.2.1,fz.2.2.2.2.2⟩
  ·exact ⟨fu.2.2.2.1,fu.2.1,fu.2.2.2.2.1,fu.2.2.2.2.2⟩
  ·exact ⟨fi.2.2.2.1,fi.2.1,fi.2.2.2.2.1,fi.2.2.2.2.2⟩
  ·exact ⟨fj.2.2.2.1,fj.2.1,fj.2.2.2.2.1,fj.2.2.2.2.2⟩
 ·obtain ⟨q1,q2,q3,q4⟩:=off a q
  exact old a o q1 q2 q3 q4 e
 ·obtain ⟨q1,q2,q3,q4⟩:=off a q
  exact old a o q1 q2 q3 q4 e
 ·obtain ⟨q1,q2,q3,q4⟩:=off a q
  exact old a o q1 q2 q3 q4 e
 ·obtain ⟨o,es,ep,ho,r⟩:=hm
  exact ⟨o,es,ep,old _ o (Ne.symm fz.2.1) (Ne.symm fu.2.1) (Ne.symm fi.2.1) (Ne.symm fj.2.1) ho,r⟩
 ·refine (I.hok a u e).stay (fun c' v hc q=>?_) (fun _ q=>q) fun _ _ q=>q
  have hfar:c'≠z∧c'≠tu∧c'≠i∧c'≠j:=by
   rcases hc with r | r
   ·rw[r];exact far a u e
   ·exact far c' _ r
  exact old c' v hfar.1 hfar.2.1 hfar.2.2.1 hfar.2.2.2 q
theorem APY {P:Program} {w:World} {K:PySem.W.Frag} {elts:List Expr} {k0:Nat} {pos:Pos} (b c:Bool) {z ti tu i j l m:Addr} (D:ZipApart z ti tu i j l m) :
  Turn P w K (.Tuple elts k0 pos) (Itz K b c l m) [z,ti,tu,i,j] z (fun n h=>ZipB b c h z ti tu i j l m .none n n) where
 mem:=by simp
 obj:=fun n h st a ha=>by
  simp only[List.mem_cons,List.not_mem_nil,or_false]at ha
  rcases ha with rfl | rfl | rfl | rfl | rfl
  ·exact ⟨_,st.z,fun v r=>by cases r⟩
  ·exact ⟨_,st.ti,fun v r=>by cases r⟩
  ·obtain ⟨x,y,e⟩:=st.tu
   exact ⟨_,e,fun v r=>by cases r⟩
  ·exact st.i.obj
  ·exact st.j.obj
 keep:=fun n h h' st k=>⟨k z (by simp) _ st.z,k ti (by simp) _ st.ti,by obtain ⟨x,y,e⟩:=st.tu;exact ⟨x,y,k tu (by simp) _ e⟩,st.i.keep fun o e=>k i (by simp) o e,st.j.keep fun o e=>k j (by simp) o e⟩
 item:=by
  intro X hP hw hK hc n pins s σ H E I hf st hg
  subst hP hw hK
  obtain ⟨xs,ys,x,y,hq1,hq2,hx,hy⟩:=hg
  obtain ⟨is1,r1,p1⟩:=AA8 I hq1
  obtain ⟨is2,r2,p2⟩:=AA8 I hq2
  obtain ⟨u,hu,ru⟩:=r1.get hx
  obtain ⟨v,hv,rv⟩:=r2.get hy
  refine AGE D st p1 p2 (x:=u) (y:=v) (by simpa using hu) (by simpa using hv) fun h1 Z T sz old=>⟨_,rfl,?_⟩
  refine wpAny_letOwnedTupleGo_zip Z.z fun h2 z2 sb=>?_
  have lt:∀a∈[z,ti,tu,i,j],a≠s.heap.objs.size:=fun a ha=>by
   have:∃o,s.heap.get? a=some o:=by
    simp only[List.mem_cons,List.not_mem_nil,or_false]at ha
    rcases ha with rfl | rfl | rfl | rfl | rfl
    ·exact ⟨_,st.z⟩
    ·exact ⟨_,st.ti⟩
    ·obtain ⟨x',y',e⟩:=st.tu;exact ⟨_,e⟩
    ·obtain ⟨o,e,_⟩:=st.i.obj;exact ⟨o,e⟩
    ·obtain ⟨o,e,_⟩:=st.j.obj;exact ⟨o,e⟩
   obtain ⟨o,e⟩:=this
   exact Nat.ne_of_lt (Heap.lt_size e)
  have Z2:ZipB b c h2 z ti tu i j l m .none (n+1) (n+1):=⟨z2,sb.extBut _ _ D.TIz Z.ti,by obtain ⟨x',y',e⟩:=Z.tu;exact ⟨x',y',sb.extBut _ _ D.TOz e⟩,Z.i.keep fun o e=>sb.extBut _ o D.i1z e,Z.j.keep fun o e=>sb.extBut _ o D.i2z e⟩
  have T2:IsPair h2 s.heap.objs.size u v:=sb.extBut _ _ (Ne.symm (lt z (by simp))) T
  have I2:Inv X pins σ H {s with heap:=h2}:=ANF (b:=b) (c:=c) (l:=l) (m:=m) I hf fun a o a1 a2 a3 a4 e=>sb.extBut _ _ a1 (old a o a1 a2 a3 a4 e)
  have fresh:H s.heap.objs.size=none:=I.hok.fresh (Nat.le_refl _)
  have I3:=AFG (p:=s.heap.objs.size) I2 T2 fresh I.sz (Nat.ne_of_lt I.lt) (fun a cc e=>by
   obtain ⟨w',o,ho,_⟩:=I.cell a cc e
   exact Nat.ne_of_lt (Heap.lt_size ho)) (fun q hq=>Nat.ne_of_lt (Heap.lt_size (I.pin q hq).1)) ru rv
  refine ⟨.ref s.heap.objs.size,_,I3,rfl,⟨_,x,y,rfl,fresh,rfl,fun xs' h=>?_,fun ys' h=>?_⟩,Z2,fun a ha=>?_⟩
  ·rw[AJI I h hq1];exact hx
  ·rw[AJI I h hq2];exact hy
  ·rw[A6 (lt a ha)];exact (hf a ha).1
 done:=by
  intro X hP hw hK hc n pins s σ H E I hf st hg
  subst hP hw hK
  obtain ⟨xs,ys,hq1,hq2,hx⟩:=hg
  obtain ⟨is1,r1,p1⟩:=AA8 I hq1
  obtain ⟨is2,r2,p2⟩:=AA8 I hq2
  have e1:=r1.length
  have e2:=r2.length
  refine AIE (I.ok.hd hc) D st p1 p2 ?_ fun h1 old=>⟨rfl,ANF (b:=b) (c:=c) (l:=l) (m:=m) I hf old⟩
  rcases hx with hx | hx
  ·left;simp;omega
  ·right;simp;omega
 self:=fun _ _ _ _ _ st h=>wpAny_pyIter_zip st.z h
theorem AO6 {N l m:Nat} (h1:l<N) (h2:m<N):ZipApart (N+4) (N+2) (N+3) N (N+1) l m:=by
 constructor<;>(first | (apply Nat.ne_of_lt;omega) | (apply Nat.ne_of_gt;omega))
def Ag4 (b c:Bool) (K:PySem.W.Frag) (ta:TA):TI:=fun σ H R=>ta σ H fun vs H1=>∃l m xs ys,vs=[.ref l,.ref m]∧SqB b K H1 l xs∧SqB c K H1 m ys∧R (Itz K b c l m) H1
theorem AbA {elts:List Expr} {k0:Nat} {tp:Pos} {a b':Expr} {ta:TA} {p pos:Pos} (b c:Bool) (hg:Gl X "zip") (hm:X.mg "zip" = none) (ha:PA X [a,b'] ta) (hs:starEach [a,b'] X.env=(false,eval a X.env)::starEach [b'] X.env) (hpl:(backTo pos (starEach [b'] X.env)).any (·.1)=false) :
  PI X (.Tuple elts k0 tp) (.Call (.Name "zip" p) [a,b'] [] pos) (Ag4 b c X.K ta):=by
 intro pins s σ H R I h
 refine Call_ (P9 I hg hm boot_zip (PyProof.Rows.callWith_type1 (thn (ha pos pins s σ H _ I h) fun us s1 ⟨vs,H1,I1,r1,q1⟩=>?_) hs hpl))
 obtain ⟨l,m,xs,ys,e,hq1,hq2,q⟩:=q1
 subst e
 obtain ⟨u1,u2,rfl,ru1,ru2⟩:=r1.two
 cases ru1
 cases ru2
 obtain ⟨is1,r1',p1⟩:=AA8 I1 hq1
 obtain ⟨is2,r2',p2⟩:=AA8 I1 hq2
 refine callType_new F.called_zip (by decide) (F.typeCall_zip_2 _ _) (F.newCall_zip_2 _ _) (fun obj=>F.args_object_init_3 obj _ _) F.entry_zip_new (AaD b c l m is1.toArray is2.toArray) ⟨p1,p2,?_⟩
 generalize hN:s1.heap.objs.size=N
 have z1:(zb1 b s1.heap l).objs.size=N+1:=by rw[Heap.size_push,hN]
 have z2:(zb2 b c s1.heap l m).objs.size=N+2:=by rw[Heap.size_push,z1]
 have z3:(zb3 b c s1.heap l m).objs.size=N+3:=by rw[Heap.size_push,z2]
 have z4:(zb4 b c s1.heap l m).objs.size=N+4:=by rw[Heap.size_push,z3]
 have g5:(zb5 b c s1.heap l m).get? (zb4 b c s1.heap l m).objs.size=some _:=Heap.get?_push_size _ rfl
 have g4:(zb5 b c s1.heap l m).get? (zb3 b c s1.heap l m).objs.size=some _:=Heap.get?_push_of_some _ (Heap.get?_push_size _ rfl)
 have g3:(zb5 b c s1.heap l m).get? (zb2 b c s1.heap l m).objs.size=some _:=Heap.get?_push_of_some _ (Heap.get?_push_of_some _ (Heap.get?_push_size _ rfl))
 have g2:(zb5 b c s1.heap l m).get? (zb1 b s1.heap l).objs.size=some _:=Heap.get?_push_of_some _ (Heap.get?_push_of_some _ (Heap.get?_push_of_some _ (Heap.get?_push_size _ rfl)))
 have g1:(zb5 b c s1.heap l m).get? s1.heap.objs.size=some _:=Heap.get?_push_of_some _ (Heap.get?_push_of_some _ (Heap.get?_push_of_some _ (Heap.get?_push_of_some _ (Heap.get?_push_size _ rfl))))
 have old:∀a o,s1.heap.get? a=some o→(zb5 b c s1.heap l m).get? a=some o:=fun a o e=>Heap.get?_push_of_some _ (Heap.get?_push_of_some _ (Heap.get?_push_of_some _ (Heap.get?_push_of_some _ (Heap.get?_push_of_some _ e))))
 have lo:∀{b:Bool} {l:Addr} {vs:Array Value},SeqB b s1.heap l vs→l<N:=fun {b l vs} x=>by
  rw[←hN]
  cases b with
  | false=>obtain ⟨_,e,_⟩:=x;exact Heap.lt_size e
  | true=>obtain ⟨_,e,_⟩:=x;exact Heap.lt_size e
 have D:=AO6 (lo p1) (lo p2)
 rw[z2,z3,z4]at g5
 rw[z1,hN,z2]at g3
 rw[z3]at g4
 rw[z1]at g2
 rw[hN]at g1
 have it0:∀{b:Bool} {h:Heap} {i l:Addr},h.get? i=some {cls:=.type (AG6 b),data:=.fields #[.ref l,.int 0 0] }→IterB b h i l 0:=fun {b h i l} e=>by
  cases b with
  | false=>exact ⟨_,e,rfl,rfl⟩
  | true=>exact ⟨_,e,rfl,rfl⟩
 have Z:ZipB b c (zb5 b c s1.heap l m) (N+4) (N+2) (N+3) N (N+1) l m .none 0 0:=⟨g5,g3,⟨_,_,g4⟩,it0 g1,it0 g2⟩
 refine ⟨⟨_,by rw[z4];exact g5,rfl⟩,?_⟩
 rw[z4]
 refine wpAny_pyIter_zip Z.z ⟨N+4,[N+4,N+2,N+3,N,N+1],_,_,H1,rfl,I1.kept (t':=s1.toks) old,APY b c D,Z,fun a ha=>?_,q⟩
 have hle:s1.heap.objs.size≤a:=by
  rw[hN]
  simp only[List.mem_cons,List.not_mem_nil,or_false]at ha
  rcases ha with rfl | rfl | rfl | rfl | rfl
  ·exact Nat.le_add_right _ _
  ·exact Nat.le_add_right _ _
  ·exact Nat.le_add_right _ _
  ·exact Nat.le_refl _
  ·exact Nat.le_add_right _ _
 exact I1.fpOk hle (I1.hok.fresh hle)
def ATP:Bool→T→Option (List T)
 | false,.list xs=>some xs
 | true,.tuple xs=>some xs
 | _,_=>none
def AXE (b c:Bool):List T→Option (List T)
 | [x,y]=>(ATP b x).bind fun xs=>(ATP c y).bind fun ys=>some (List.zipWith (fun a b=>PyData.tuple [a,b]) xs ys)
 | _=>none
theorem AJB {b:Bool} {K:PySem.W.Frag} {H:Hp} {t:T} {v:V} {xs:List T} (r:Rep K H t v) (e:ATP b t=some xs):∃l vs,v=.ref l∧SqB b K H l vs∧RepL K H xs vs:=by
 cases b with
 | false =>
  cases t with
  | list ys =>
   cases e
   unfold Rep at r
   obtain ⟨a,vs,rfl,q,l⟩:=r
   exact ⟨a,vs,rfl,q,l⟩
  | _=>cases e
 | true =>
  cases t with
  | tuple ys =>
   cases e
   unfold Rep at r
   obtain ⟨a,vs,rfl,q,l⟩:=r
   exact ⟨a,vs,rfl,q,l⟩
  | _=>cases e
def P8:List T→Option (List Int)
 | []=>some []
 | .int i::r=>(P8 r).map (i::·)
 | _::_=>none
def AcF:List T→Option T
 | [.list xs]=>(P8 xs).map fun ns=>.int ns.sum
 | _=>none
theorem AC5 {K:PySem.W.Frag} {H:Hp}:∀{ts:List T} {vs:List V} {us:List Value} {ns:List Int},RepL K H ts vs→Vals vs us→P8 ts=some ns→∃xs:Array (Int × Tok),us.toArray=intItems xs∧xs.toList.map (·.1)=ns
 | [],_,_,_,r,q,e=>by
  unfold RepL at r;subst r;cases q;cases e
  exact ⟨#[],by simp[intItems],rfl⟩
 | t::ts,_,us,ns,r,q,e=>by
  unfold RepL at r
  obtain ⟨v,vr,rfl,r1,r2⟩:=r
  cases q with
  | cons q1 q2 =>
   rename_i u ur
   match t,e,r1 with
   | .int i,e,r1 =>
    unfold Rep at r1;subst r1
    obtain ⟨tk,rfl⟩:=q1
    have e':(P8 ts).map (i::·)=some ns:=e
    cases e1:P8 ts with
    | none=>rw[e1]at e';cases e'
    | some ms =>
     rw[e1]at e'
     have e2:i::ms=ns:=Option.some.inj e'
     subst e2
     obtain ⟨xs,h1,h2⟩:=AC5 r2 q2 e1
     refine ⟨⟨(i,tk)::xs.toList⟩,?_,by simp[h2]⟩
     have h3:ur=(intItems xs).toList:=by rw[←h1]
     rw[h3]
     unfold intItems
     simp
def AeX (K:PySem.W.Frag):List V→Hp→VK→Prop:=fun vs H Q=>∃x ts ns,vs=[x]∧Rep K H (.list ts) x∧P8 ts=some ns∧Q (.int ns.sum) H
theorem AM4 (hc:X.calm=true):AAY X (.builtin "sum") (AeX X.K):=by
 intro pins s σ H xs us Q I r h
 obtain ⟨x,ts,ns,rfl,rt,e,q⟩:=h
 obtain ⟨u,rfl,ru⟩:=r.one
 unfold Rep at rt
 obtain ⟨a,vs,rfl,hq,l⟩:=rt
 cases ru
 obtain ⟨its,rv,p,_⟩:=I.list hq
 obtain ⟨xs,h1,h2⟩:=AC5 l rv e
 refine sum_intListG (I.ok.hd hc) (h1▸p.isList) fun h' tk t' k=>⟨.int ns.sum,H,I.kept k,⟨t',?_⟩,q⟩
 rw[preSum_eq,List.take_of_length_le (by simp),h2]
theorem AQC {K:PySem.W.Frag}:APK K (AeX K) AcF:=fun xs ts a H Q r e q=>by
 match ts,e,r with
 | [.list ys],e,r =>
  unfold RepL at r
  obtain ⟨v,vr,rfl,r1,r⟩:=r
  unfold RepL at r;subst r
  have e':(P8 ys).map (fun ns=>PyData.int ns.sum)=some a:=e
  cases e1:P8 ys with
  | none=>rw[e1]at e';cases e'
  | some ns =>
   rw[e1]at e'
   have e2:PyData.int ns.sum=a:=Option.some.inj e'
   subst e2
   exact ⟨v,ys,ns,rfl,r1,e1,q _ H (Same.refl H) C3⟩
theorem AZW {e:Expr} {t:FA} {p pos:Pos} (hc:X.calm=true) (hm:X.mg "sum" = none) (hg:Gl X "sum") (ha:JA X Ek [e] t) (he:starEach [e] X.env=(false,eval e X.env)::starEach [] X.env):JE X Ek (.Call (.Name "sum" p) [e] [] pos) (eN AcF t) :=
 ADT (AM4 hc) AQC (by decide +kernel) (by decide +kernel) (by decide +kernel) hm hg ha he rfl
def AbV:List T→Option (List T)
 | [.int i,.int j]=>if (-100000<i∧i<100000)∧(-100000<j∧j<100000) then some (L1 i (j-i).toNat) else none
 | _=>none
theorem APG {tg a b:Expr} {t:FA} {p pos:Pos} (hg:Gl X "range") (hm:X.mg "range" = none) (ha:JA X Ek [a,b] t) (hs:starEach [a,b] X.env=[(false,eval a X.env),(false,eval b X.env)]) (hs2:starEach [b] X.env=[(false,eval b X.env)]):JI X Ek tg (.Call (.Name "range" p) [a,b] [] pos) (iN AbV t):=by
 refine PI.weak (AP8 hg hm ha hs hs2) fun σ H Q h=>?_
 obtain ⟨ρ,R,h⟩:=h
 refine ⟨ρ,R,A7 (Same.refl H) (fun x hx=>?_) (A5 h)⟩
 intro vs H1 s1 rx
 obtain ⟨ts,e,q⟩:=Q5 hx
 match x,e,rx with
 | [.int i,.int j],e,rx =>
  unfold RepL at rx
  obtain ⟨v,r,rfl,r1,rx⟩:=rx
  unfold RepL at rx
  obtain ⟨v2,r',rfl,r2,rx⟩:=rx
  unfold RepL at rx
  subst rx
  unfold Rep at r1 r2
  subst r1;subst r2
  have e':(if (-100000<i∧i<100000)∧(-100000<j∧j<100000) then some (L1 i (j-i).toNat) else none)=some ts:=e
  by_cases hj:(-100000<i∧i<100000)∧(-100000<j∧j<100000)
  ·rw[if_pos hj]at e'
   have e'':=Option.some.inj e'
   subst e''
   exact ⟨i,j,rfl,⟨by omega,by omega,by omega,by omega⟩,q _ H1 s1 Z3⟩
  ·rw[if_neg hj]at e';cases e'
end
def AGQ (e:Expr) (d:Nat) (target:Expr) (ifs:List Expr) (ip:Pos) (it acc:Value) (env:Env) (B:Sem Unit):Sem PySem.Fin:=do
 standAt ip
 match←pyNext it with
 | none=>pure (.done .next)
 | some v =>
  letOwnedTupleGo target it v
  assign target env v
  let mut ok:=true
  for c in ifs do
   if ok then ok←isTrue c env (eval c env)
  if ok then B
  again (.compLoop e d it acc env)
def m6 (g:FG) (test:FT) (it2:FI) (k:Nat) (test2:FT) (te:FE) (ρ:Ev):List T→R (List T)
 | []=>.ok []
 | t::ts=>match g t ρ with
  | none=>.bad
  | some ρ1=>match test ρ1 with
   | .ok true=>match it2 ρ1 with
    | .ok us=>if us.length≤1000 then match C4 (Tr.gName k) test2 te ρ1 us with
      | .ok zs=>(m6 g test it2 k test2 te ρ ts).bind fun xs=>.ok (zs++xs)
      | _=>.bad
     else .bad
    | _=>.bad
   | .ok false=>m6 g test it2 k test2 te ρ ts
   | _=>.bad
theorem Y9 {g:FG} {test:FT} {te:FE} {ρ:Ev}:∀(us zs:List T),C4 g test te ρ us=.ok zs→zs.length≤us.length
 | [],zs,e=>by rw[C4]at e;cases e;exact Nat.le_refl _
 | u::us,zs,e=>by
  rw[C4]at e
  cases eg:g u ρ with
  | none=>simp only[eg]at e;cases e
  | some ρ1 =>
   simp only[eg]at e
   cases et:test ρ1 with
   | bad=>simp only[et]at e;cases e
   | ex c fs=>simp only[et]at e;cases e
   | ok b =>
    simp only[et]at e
    cases b with
    | false=>have:=Y9 us zs e;rw[List.length_cons];omega
    | true =>
     cases ee:te ρ1 with
     | bad=>simp only[ee]at e;cases e
     | ex c fs=>simp only[ee]at e;cases e
     | ok x =>
      simp only[ee]at e
      cases ec:C4 g test te ρ us with
      | bad=>rw[ec]at e;cases e
      | ex c fs=>rw[ec]at e;cases e
      | ok ys =>
       rw[ec]at e
       have e':x::ys=zs:=by injection e
       subst e'
       have:=Y9 us ys ec
       rw[List.length_cons,List.length_cons];omega
theorem AMI {A:Around} (h:A.handled=none):A.mark none=A:=by
 cases A
 cases h
 rfl
def AJE (k:Nat) (g:FG):Prop:=∀t ρ ρ1,g t ρ=some ρ1→ρ1[k]?=ρ[k]?
theorem AHY {i k:Nat} (h:i≠k):AJE k (Tr.gName i):=fun t ρ ρ1 e=>by
 have e':ρ.set i (some t)=ρ1:=Option.some.inj e
 subst e'
 rw[List.getElem?_set_ne h]
section
variable {X:Cx} {Ek:EK}
theorem AN2 {tg l:Expr} {t:FE} (hl:JE X Ek l t):JIy X Ek tg l (iOf L4 t):=by
 refine PI.weak (AT0 hl) fun σ H Q h=>?_
 obtain ⟨ρ,R,h⟩:=h
 refine ⟨ρ,R,A7 (Same.refl H) (fun x hx=>?_) (A5 h)⟩
 intro v H1 s1 rx
 obtain ⟨ts,e,q⟩:=Q5 hx
 cases x with
 | tuple xs =>
  have e':xs=ts:=Option.some.inj e
  subst e'
  unfold Rep at rx
  obtain ⟨a,vs,rfl,hq,l⟩:=rx
  refine ⟨a,rfl,⟨vs,hq⟩,q _ H1 s1 (fun i H2 s2=>⟨fun t ht=>?_,fun hi=>⟨vs,L6 s2 hq,by rw[l.length];exact hi⟩⟩) Aa4⟩
  obtain ⟨v,e1,e2⟩:=l.get ht
  refine ⟨⟨vs,v,L6 s2 hq,e1⟩,fun x H3 y=>?_⟩
  obtain ⟨y1,y2⟩:=y
  have y3:=y2 vs (L6 s2 hq)
  rw[e1]at y3
  have y4:v=x:=Option.some.inj y3
  subst y4
  subst y1
  exact ⟨Same.refl _,Rep.mono s2 t v e2⟩
 | _=>cases e
end
theorem ARH {h g:Heap} (C L:Addr) (hn:L≠C) (e:g.objs.size=h.objs.size) (k:∀b,b≠C→b≠L→g.get? b=h.get? b):∃h',Heap.SameBut C h h'∧Heap.SameBut L h' g:=by
 by_cases hC:C<h.objs.size
 ·have hC':C<g.objs.size:=Nat.lt_of_lt_of_eq hC e.symm
  refine ⟨h.update C fun _=>g.objs[C],Heap.SameBut.update h C _,?_,fun b hb=>?_⟩
  ·rw[(Heap.SameBut.update h C fun _=>g.objs[C]).1];exact e
  ·by_cases hbC:b=C
   ·subst hbC
    have e1:(h.update b fun _=>g.objs[b]).objs[b]?=g.objs[b]?:=by
     rw[Array.getElem?_eq_getElem hC']
     cases h
     simp only[Heap.update,Array.getElem?_modify,if_true]
     rw[Array.getElem?_eq_getElem hC];rfl
    unfold Heap.get?
    rw[e1]
   ·rw[Heap.get?_update_other h _ (Ne.symm hbC)]
    exact k b hbC hb
 ·refine ⟨h,Heap.SameBut.refl _ _,e,fun b hb=>?_⟩
  by_cases hbC:b=C
  ·subst hbC
   rw[Heap.get?_none_of_le (Nat.le_of_not_lt hC),Heap.get?_none_of_le (Nat.le_trans (Nat.le_of_eq e) (Nat.le_of_not_lt hC))]
  ·exact k b hbC hb
section
variable {X:Cx} {Ek:EK}
theorem ANJ {i:Nat} {x:Str} {elt:Expr} {gens:List Comprehension} {scope:Scope} {cp:Pos} {te:TE} {pos pos':Pos} (hN:X.N.Nodup) (hi:X.N[i]?=some x) (hx:X.env.scope.names.lookup x=some .local) (he:JCt X elt gens scope cp te)
  (hs:swapsWith (.ListComp elt gens scope cp) (some (.Name x pos')) pos.line X.env=pure true):PS X (.Assign [.Name x pos'] (.ListComp elt gens scope cp) pos) (fun D σ H=>te σ H fun v H1=>D.nx (σ.set i (some v)) H1):=by
 intro pins s σ H D I h
 rw[exec_Assign_Name_used _ _ _ _ hs]
 refine wpAny_bind (wpAny_standAt (wpAny_bind ?_))
 show wpAny _ X.A (do let _←comprehension (.ListComp elt gens scope cp) scope X.env (firstIterPos gens cp) (newList []) (firstAsync gens) (firstIter gens X.env) (some (assign (.Name x pos') X.env))) _ _ s
 refine wpAny_bind (wpAny_mono (he (firstIterPos gens cp) (some (assign (.Name x pos') X.env)) (fun _ s'=>SP X pins D .next s') pins s σ H (fun v H1=>D.nx (σ.set i (some v)) H1) I h ?_) (fun _ s' q=>wpAny_pure (wpAny_pure q)) fun _ _ z=>z)
 ·intro acc C s' nL nc ⟨m,hn,hk⟩
  obtain ⟨v,H1,I1,r1,q1⟩:=hk s'.heap (Heap.SameBut.refl _ _)
  obtain ⟨mL,hnL,hlL⟩:=id I1.loc
  have hcls:(X.env.scope.kind == .class||(X.env.scope.kind == .module&&X.env.locals != X.env.globals))=false:=by rw[I1.ok.kind];rfl
  have hiσ:i<σ.length:=by rw[I1.len];exact (List.getElem?_eq_some_iff.mp hi).1
  refine wpAny_assign_Name (wpAny_storeName_local hx hnL (fun h2 hn2 hs2=>?_) hcls)
  refine ⟨m,hn.sameBut hs2 (Ne.symm nL),fun h3 hs3=>?_⟩
  obtain ⟨hm,b1,b2⟩:=ARH (h:=s'.heap) (g:=h3) C X.env.locals nL (hs3.1.trans hs2.1) fun b hb hb'=>(hs3.2 b hb).trans (hs2.2 b hb')
  obtain ⟨v',H3,I3,r3,q3⟩:=hk hm b1
  have cne:=I3.cne
  obtain ⟨oL,_,_,hoL,_⟩:=id I3.loc.choose_spec.1
  have I4:Inv X pins (σ.set i (some v')) H3 {s' with heap:=h3}:=by
   refine ⟨I3.ok,I3.os,I3.bare,⟨fun b o e n hb hx=>?_,fun b o e n hb hx=>?_,I3.base.free,fun b o e hx=>?_,I3.base.tups,I3.base.frzs,I3.base.tbls⟩,⟨_,hn2.sameBut hs3 nL,fun j y v' e1 e2 e3=>?_⟩,fun y c e=>?_,I3.free,I3.freeC,fun p hp=>?_,?_,by simpa using I3.len⟩
   ·exact (b2.2 b (Nat.ne_of_lt (Nat.lt_of_lt_of_le (Heap.lt_size e) I3.ok.above))).trans (I3.base.keep b o e n hb hx)
   ·obtain ⟨sl,e1⟩:=I3.base.slot b o e n hb hx
    exact ⟨sl,(b2.2 b (Nat.ne_of_lt (Nat.lt_of_lt_of_le (Heap.lt_size e) I3.ok.above))).trans e1⟩
   ·obtain ⟨o',e1⟩:=I3.base.there b o e hx
    exact ⟨o',(b2.2 b (Nat.ne_of_lt (Nat.lt_of_lt_of_le (Heap.lt_size e) I3.ok.above))).trans e1⟩
   ·by_cases hj:j=i
    ·subst hj
     rw[hi]at e1;cases e1
     rw[List.getElem?_set_self hiσ]at e2
     cases e2
     exact ⟨_,r3,.inl ⟨hx,by simp⟩⟩
    ·rw[List.getElem?_set_ne (Ne.symm hj)]at e2
     obtain ⟨u',r',q⟩:=hlL j y v' e1 e2 e3
     refine ⟨u',r',?_⟩
     rcases q with ⟨k,e⟩ | ⟨k,c,e,z⟩
     ·refine .inl ⟨k,?_⟩
      have:y≠x:=fun e=>hj (AEE hN e1 (e▸hi))
      simp[this,e]
     ·exact .inr ⟨k,c,e,(z.sameBut hs2 (cne y c e)).sameBut hs3 (nc y c e)⟩
   ·obtain ⟨w',z⟩:=I3.cell y c e
    exact ⟨w',z.sameBut b2 (cne y c e)⟩
   ·obtain ⟨e,n,ne,nf,d⟩:=I3.pin p hp
    exact ⟨(b2.2 p.1 ne).trans e,n,ne,nf,d⟩
   ·intro b ob e
    refine (I3.hok b ob e).stay (fun c w' hc q=>(b2.2 c ?_).trans q) (fun _ q=>q) fun _ _ q=>q
    rintro rfl
    have hfree:=I3.free
    rcases hc with rfl | hc
    ·rw[hfree]at e;cases e
    ·rw[hfree]at hc;cases hc
  exact ⟨_,H3,I4.tok _,q3⟩
theorem AW4 {i:Nat} {x:Str} {elt:Expr} {gens:List Comprehension} {scope:Scope} {cp:Pos} {t:FE} {pos pos':Pos} (hN:X.N.Nodup) (hi:X.N[i]?=some x) (hx:X.env.scope.names.lookup x=some .local) (he:JC X Ek elt gens scope cp t)
  (hs:swapsWith (.ListComp elt gens scope cp) (some (.Name x pos')) pos.line X.env=pure true):JS X Ek (.Assign [.Name x pos'] (.ListComp elt gens scope cp) pos) (C0 (gName i) t):=by
 refine PS.weak (ANJ hN hi hx he hs) fun D σ H h=>?_
 obtain ⟨ρ,R,h⟩:=h
 refine ⟨ρ,R,A7 (Same.refl H) (fun a ha=>?_) (Q2 h)⟩
 intro v H1 s1 ra
 exact ha _ H1 s1 ((R.mono s1).set i ra)
end
section
variable {prog:Program} {w:World} {A:Around} {E:Value→Shared→Prop} {s:Shared}
theorem v0 {t sl:Addr} {items:Array Value} {vl vu:Value} {lo hi:Option Int} {Q:Value→Shared→Prop} (ht:IsTup s.heap t items) (hs:s.heap.IsSliceOf sl vl vu .none) (pl:IsPart vl lo) (pu:IsPart vu hi)
  (hw:HT.sIx items.size 0 lo=0∧HT.sIx items.size items.size hi=items.size) (h:Q (.ref t) s):wpAny (model prog w) A (getItem (.ref t) (.ref sl)) Q E s:=by
 obtain ⟨os,hos,hcs,hds⟩:=id hs
 have hTs:s.TypeIs (.ref sl) "slice":=⟨os,hos,hcs⟩
 unfold getItem
 try with_reducible refine wpAny_holding ?_
 first | refine wpAny_bind (wpAny_pure ?_) | skip
 refine wpAny_bind (wpAny_sequenceKey ht.typeIs (by decide) ?_)
 refine wpAny_bind (wpAny_callSpecial?_slot (name:=Str.ofString "__getitem__") ht.typeIs PyProof.Rows.slot_tuple_getitem
  (wpAny_call_entry PyProof.Rows.slot_tuple_getitem ht.typeIs PyProof.Rows.entry_tuple_getitem ?_ (PyProof.Rows.args_tuple_getitem _ _)))
 show wpAny _ _ (Builtin.Tuple.tupleItemsOf (.ref t) >>= _) _ _ s
 refine wpAny_bind (PyProof.Rows.tupleItemsOf_ ht ?_)
 refine wpAny_bind (wpAny_typeOf hTs ?_)
 rw[if_pos (by decide)]
 refine wpAny_bind (HT.sliceApplied_gen hs pl pu ?_)
 have hyes:((((HT.sIx items.size 0 lo:Nat):Int) == 0&&(1:Int) == 1&&(HT.sIx items.size items.size hi-HT.sIx items.size 0 lo) == items.size)=true):=by
  rw[hw.1,hw.2];simp
 show wpAny _ _ (if (((HT.sIx items.size 0 lo:Nat):Int) == 0&&(1:Int) == 1&&(HT.sIx items.size items.size hi-HT.sIx items.size 0 lo) == items.size)=true then _ else _) _ _ s
 rw[if_pos hyes]
 refine wpAny_bind ?_
 unfold Builtin.Tuple.tupleIsExact
 refine wpAny_bind (wpAny_typeOf ht.typeIs (wpAny_pure ?_))
 rw[if_pos (by decide)]
 refine wpAny_bind (wpAny_rule ?_)
 exact wpAny_pure ⟨_,rfl,wpAny_pure h⟩
end
section
variable {X:Cx} {Ek:EK}
def AfE (K:PySem.W.Frag):V→Option Int→Option Int→Hp→VK→Prop:=fun x lo hi H Q=>∃a xs,x=.ref a∧SqT K H a xs∧(HT.sIx xs.length 0 lo=0∧HT.sIx xs.length xs.length hi=xs.length)∧Q (.ref a) H
theorem AV3:SlR X (AfE X.K):=by
 intro pins s σ H x v vl vu lo hi sl Q I rx hs pl pu h
 obtain ⟨a,xs,rfl,hx,hw,q⟩:=h
 cases rx
 obtain ⟨its,r,ht,hz⟩:=I.tuple hx
 have hlen:its.toArray.size=xs.length:=by rw[List.size_toArray];exact r.length.symm
 refine ⟨"tuple",_,PyProof.Rows.slot_tuple_getitem.lookup,ht.typeIs,?_⟩
 exact v0 ht hs pl pu (by rw[hlen];exact hw) ⟨.ref a,H,I,rfl,q⟩
def AGX (a:FE) (lo hi:FO):FE:=fun ρ=>(a ρ).bind fun x=>(AWZ lo ρ).bind fun l=>(AWZ hi ρ).bind fun h=>match x with
 | .tuple xs=>.ok (.tuple (ADK xs l h))
 | _=>.bad
theorem AL9 {xs:List T} {l h:Option Int} (e:HT.sIx xs.length 0 l=0∧HT.sIx xs.length xs.length h=xs.length):ADK xs l h=xs:=by
 unfold ADK
 rw[e.1,e.2,List.drop_zero,Nat.sub_zero,List.take_length]
theorem AaF {a:Expr} {lo hi:Option Expr} {ta:FE} {tl th:FO} {pos p2:Pos} (ha:JE X Ek a ta) (hl:JO X Ek lo tl) (hh:JO X Ek hi th):JE X Ek (.Subscript a (.Slice lo hi none p2) pos) (AGX ta tl th):=by
 refine PE.weak (AK3 (sl_tup.or AV3) ha hl hh) fun σ H Q h=>?_
 obtain ⟨ρ,R0,h⟩:=h
 refine ⟨ρ,R0,A7 (Same.refl H) (fun x hx=>?_) (A5 h)⟩
 intro v H1 s1 rx
 refine ⟨ρ,R0.mono s1,A7 s1 (fun l hl=>?_) (A5 hx)⟩
 intro H2 s2
 refine ⟨ρ,R0.mono (s1.trans s2),A7 (s1.trans s2) (fun u hu=>?_) (A5 hl)⟩
 intro H3 s3
 cases x with
 | tuple xs =>
  have rx0:=rx
  unfold Rep at rx
  obtain ⟨p,vs,rfl,hp,l1⟩:=rx
  by_cases hw:HT.sIx vs.length 0 l=0∧HT.sIx vs.length vs.length u=vs.length
  ·refine .inr ⟨p,vs,rfl,L6 (s2.trans s3) hp,hw,?_⟩
   rw[l1.length]at hw
   refine hu _ _ (s1.trans (s2.trans s3)) ?_
   rw[AL9 hw]
   exact Rep.mono (s2.trans s3) _ _ rx0
  ·refine .inl ⟨p,vs,rfl,L6 (s2.trans s3) hp,hw,fun r hr=>?_⟩
   refine hu _ _ (s1.trans (s2.trans (s3.trans (B0 hr _)))) ?_
   unfold Rep
   exact ⟨r,_,rfl,SqT.of A8,RepL.mono (s2.trans (s3.trans (B0 hr _))) _ _ (AEY l u l1)⟩
 | _=>exact hu.elim
def AUR (K:PySem.W.Frag):R2:=fun x y H Q=>∃a b ys,x=.ref a∧y=.ref b∧SqT K H a []∧SqT K H b ys∧Q (.ref b) H
theorem AW0:OpR X (binaryOp .Add) (AUR X.K):=by
 intro pins s σ H x y v u Q I rx ry h
 obtain ⟨a,b,ys,rfl,rfl,ha,hb,q⟩:=h
 cases rx
 cases ry
 obtain ⟨its,r1,p1,_⟩:=I.tuple ha
 obtain ⟨its2,r2,p2,_⟩:=I.tuple hb
 have e1:its=[]:=r1.nil_iff.mpr rfl
 subst e1
 obtain ⟨⟨cls,dd,data,sl⟩,ho,hc,n,hd⟩:=id p1
 obtain ⟨⟨cls2,dd2,data2,sl2⟩,ho2,hc2,n2,hd2⟩:=id p2
 simp only at hc hd hc2 hd2
 subst hc hd hc2 hd2
 exact concat_meets ⟨_,ho,rfl⟩ ⟨_,ho2,rfl⟩ noFill_tuple_add seq_tuple_add PySem.F.slot_tuple_add PySem.F.entry_tuple_add (PySem.F.args_tuple_add_2 _ _)
   (tuple_addW0 a b [].toArray its2.toArray n n2 dd dd2 sl sl2 (by simp)) ⟨ho,ho2,⟨.ref b,H,I,rfl,q⟩⟩
def AEZ:T→T→Option T
 | .tuple xs,.tuple ys=>if J4 (xs.length+ys.length)=true then some (.tuple (xs++ys)) else none
 | _,_=>none
theorem AWX:OpR X (binaryOp .Add) (fun x y H Q=>AMG X.K x y H Q∨AUR X.K x y H Q):=op_addU.or AW0
theorem AR9 {K:PySem.W.Frag}:Z7 K (fun x y H Q=>AMG K x y H Q∨AUR K x y H Q) AEZ:=fun x y tx ty a H Q rx ry e q=>by
 match tx,ty,e,rx,ry with
 | .tuple xs,.tuple ys,e,rx,ry =>
  have e':(if J4 (xs.length+ys.length)=true then some (PyData.tuple (xs++ys)) else none)=some a:=e
  by_cases hl:J4 (xs.length+ys.length)=true
  ·rw[if_pos hl]at e'
   cases xs with
   | nil =>
    rw[List.nil_append]at e'
    cases e'
    have ry0:=ry
    unfold Rep at rx ry
    obtain ⟨p,vs,rfl,hp,l1⟩:=rx
    obtain ⟨p',vs',rfl,hp',l2⟩:=ry
    have hv:vs=[]:=List.length_eq_zero_iff.mp l1.length
    subst hv
    exact .inr ⟨p,p',vs',rfl,rfl,hp,hp',q _ H (Same.refl H) ry0⟩
   | cons z zs =>
    refine .inl (AQK x y (.tuple (z::zs)) (.tuple ys) a H Q rx ry ?_ q)
    show (if (!(z::zs).isEmpty&&J4 ((z::zs).length+ys.length))=true then some (PyData.tuple ((z::zs)++ys)) else none)=some a
    rw[if_pos (by simpa using hl)]
    exact e'
  ·rw[if_neg hl]at e';cases e'
def AWY:FS:=fun ρ=>.ct ρ
theorem AX9 {pos:Pos}:JS X Ek (.Continue pos) AWY:=by
 refine PS.weak AIG fun D σ H h=>?_
 obtain ⟨ρ,R,h⟩:=h
 exact h σ H (Same.refl H) R
end
section
variable {X:Cx} {Ek:EK}
def YH (J:It):Prop:=∀i H0 a vs x H3,H0 a=none→J.yld i (upd H0 a (.lst vs)) x H3→∃H03,H03 a=none∧H3=upd H03 a (.lst vs)∧J.yld i H0 x H03
theorem YM.yh {J:It} (h:YM J):YH J:=fun i H0 a vs x H3 n y=>by
 obtain ⟨e,y0⟩:=h i H0 _ x H3 (B0 n _) y
 exact ⟨H0,n,e,y0⟩
def lIh (K:PySem.W.Frag) (Ek:EK) (t:FI):TI:=fun σ H R=>∃ρ,RepEnv K H ρ σ∧wR Ek H (t ρ) fun ts=>∀J H',Same H H'→w9 K J ts H'→YH J→R J H'
abbrev JIh (X:Cx) (Ek:EK) (tg iter:Expr) (t:FI):Prop:=PI X tg iter (lIh X.K Ek t)
theorem AaI {tg iter:Expr} {t:FI} (h:JIy X Ek tg iter t):JIh X Ek tg iter t:=by
 refine PI.weak h fun σ H Q h=>?_
 obtain ⟨ρ,R,h⟩:=h
 exact ⟨ρ,R,A7 (Same.refl H) (fun x hx J H' s iO ym=>hx J H' s iO ym.yh) h⟩
theorem AJG {H:Hp} {a b:Addr} {u v:HO} (h:a≠b):upd (upd H a u) b v=upd (upd H b v) a u:=by
 funext c
 by_cases h1:c=a
 ·subst h1
  rw[A6 h,A8,A8]
 ·by_cases h2:c=b
  ·subst h2
   rw[A8,A6 h1,A8]
  ·rw[A6 h2,A6 h1,A6 h1,A6 h2]
theorem AaM {K:PySem.W.Frag} {b c:Bool} {l m:Addr}:YH (Itz K b c l m):=fun i H0 a vs x H3 n y=>by
 obtain ⟨p,u,v,rfl,hp,rfl,k1,k2⟩:=y
 have hpa:p≠a:=fun z=>by rw[z,A8]at hp;cases hp
 rw[A6 hpa]at hp
 refine ⟨upd H0 p (.tup [u,v]),by rw[A6 hpa.symm];exact n,AJG hpa.symm,p,u,v,rfl,hp,rfl,fun xs h=>k1 xs (S9 (B0 n _) h),fun ys h=>k2 ys (S9 (B0 n _) h)⟩
theorem ATQ {elts:List Expr} {k0:Nat} {tp:Pos} {a b':Expr} {t:FA} {p pos:Pos} (b c:Bool) (hg:Gl X "zip") (hm:X.mg "zip" = none) (ha:JA X Ek [a,b'] t) (hs:starEach [a,b'] X.env=(false,eval a X.env)::starEach [b'] X.env) (hpl:(backTo pos (starEach [b'] X.env)).any (·.1)=false) :
  JIh X Ek (.Tuple elts k0 tp) (.Call (.Name "zip" p) [a,b'] [] pos) (iN (AXE b c) t):=by
 refine PI.weak (AbA b c hg hm ha hs hpl) fun σ H Q h=>?_
 obtain ⟨ρ,R,h⟩:=h
 refine ⟨ρ,R,A7 (Same.refl H) (fun x hx=>?_) (A5 h)⟩
 intro vs H1 s1 rx
 obtain ⟨ts,e,q⟩:=Q5 hx
 match x,e,rx with
 | [tx,ty],e,rx =>
  unfold RepL at rx
  obtain ⟨v,r,rfl,r1,rx⟩:=rx
  unfold RepL at rx
  obtain ⟨v2,r',rfl,r2,rx⟩:=rx
  unfold RepL at rx
  subst rx
  have e':((ATP b tx).bind fun xs=>(ATP c ty).bind fun ys=>some (List.zipWith (fun a b=>PyData.tuple [a,b]) xs ys))=some ts:=e
  cases ex:ATP b tx with
  | none=>rw[ex]at e';cases e'
  | some xs =>
   cases ey:ATP c ty with
   | none=>rw[ex,ey]at e';cases e'
   | some ys =>
    rw[ex,ey]at e'
    have e'':List.zipWith (fun a b=>PyData.tuple [a,b]) xs ys=ts:=Option.some.inj e'
    subst e''
    obtain ⟨l,vx,rfl,q1,l1⟩:=AJB r1 ex
    obtain ⟨m,vy,rfl,q2,l2⟩:=AJB r2 ey
    refine ⟨l,m,vx,vy,rfl,q1,q2,q _ H1 s1 (fun i H2 s2=>⟨fun t ht=>?_,fun hi=>?_⟩) AaM⟩
    ·rw[List.getElem?_zipWith]at ht
     cases exi:xs[i]? with
     | none=>rw[exi]at ht;simp at ht
     | some xi =>
      cases eyi:ys[i]? with
      | none=>rw[exi,eyi]at ht;simp at ht
      | some yi =>
       rw[exi,eyi]at ht
       have ht':PyData.tuple [xi,yi]=t:=Option.some.inj ht
       subst ht'
       obtain ⟨wx,f1,f2⟩:=l1.get exi
       obtain ⟨wy,f3,f4⟩:=l2.get eyi
       refine ⟨⟨vx,vy,wx,wy,S9 s2 q1,S9 s2 q2,f1,f3⟩,fun x H3 y=>?_⟩
       obtain ⟨p,x1,y1,rfl,n,rfl,k1,k2⟩:=y
       have k3:=k1 vx (S9 s2 q1)
       have k4:=k2 vy (S9 s2 q2)
       rw[f1]at k3
       rw[f3]at k4
       have k5:=Option.some.inj k3
       have k6:=Option.some.inj k4
       subst k5
       subst k6
       have sm:=B0 n (.tup [wx,wy])
       refine ⟨sm,?_⟩
       unfold Rep
       exact ⟨p,[wx,wy],rfl,SqT.of A8,B6 (Rep.mono (s2.trans sm) xi wx f2) (B6 (Rep.mono (s2.trans sm) yi wy f4) C5)⟩
    ·rw[List.length_zipWith]at hi
     refine ⟨vx,vy,S9 s2 q1,S9 s2 q2,?_⟩
     rw[l1.length,l2.length]
     omega
theorem AWJ {i:Nat} {tg iter:Expr} {body:List Stmt} {it:FI} {g:FG} {tb:FB} {pos:Pos} (hp:PassesOwn (model X.prog X.w) X.A X.env X.xe) (hc:X.calm=true) (hi:JIh X Ek tg iter it) (hg:JG X tg g) (hb:JBs X i body tb)
  (hs:∀x,foldedSetIterable iter X.env x=pure x):JB X i (.For tg iter body [] pos) (AHA i it g tb):=by
 refine PS.weak (ATF hp hc (AaR hi) (Ab5 hg) hb hs) fun D σ H hh=>?_
 obtain ⟨a,Hb,ρ,acc,H0,vs,e,o,q⟩:=hh
 refine ⟨a,vs,H0,o.free,e,ρ,o.env,?_⟩
 unfold AHA at q
 cases er:it ρ with
 | ex c fs=>rw[er]at q;exact q.elim
 | bad=>rw[er]at q;exact q.elim
 | ok ts =>
  simp only[er]at q
  generalize hg':(fun t ρ=>(g t ρ).bind fun ρ'=>if J3 i a ρ'=true then some ρ' else none)=g' at q
  have sub:∀{G0:Hp} {ws:List V} {G:Hp},Same G G0→G a=none→Same G (upd G0 a (.lst ws)):=fun {G0 ws G} s n b u z=>by
   rw[A6 (fun e=>by rw[e,n]at z;cases z)];exact s b u z
  intro J H1 s1 iO ym n1
  refine ⟨fun k m σ H=>m=ts.length-k∧k≤ts.length∧∃ρ acc G vs,H=upd G a (.lst vs)∧Same H1 G∧Own X.K i a Hb ρ acc σ G vs∧lBR X.K i a Hb D (O4 g' tb (ts.drop k) a ρ acc),
   ⟨ts.length,by simp,Nat.zero_le _,ρ,acc,H1,vs,rfl,Same.refl H1,⟨o.base.trans s1,n1,o.env.mono s1,RepL.mono s1 acc vs o.rep,o.slot⟩,by rw[List.drop_zero];exact q⟩,?_⟩
  rintro k m σ H ⟨rfl,hk,ρ,acc,G,vs,rfl,sG,o,q⟩
  by_cases hlt:k<ts.length
  ·refine .inr ?_
   have ht:ts[k]?=some ts[k]:=List.getElem?_eq_getElem hlt
   obtain ⟨go,_⟩:=(iO k (upd G a (.lst vs)) (sub sG n1)).1 _ ht
   refine ⟨go,fun σ' H'=>∃ρ acc G vs,H'=upd G a (.lst vs)∧Same H1 G∧Own X.K i a Hb ρ acc σ' G vs∧lBR X.K i a Hb D (O4 g' tb (ts.drop (k+1)) a ρ acc),fun σ' H' q'=>⟨ts.length-(k+1),by omega,rfl,hlt,q'⟩,fun x H' y=>?_⟩
   obtain ⟨G3,n3,e3,y0⟩:=ym k G a vs x H' o.free y
   subst e3
   obtain ⟨_,yl⟩:=(iO k G sG).1 _ ht
   obtain ⟨s3,rx⟩:=yl x G3 y0
   rw[List.drop_eq_getElem_cons hlt]at q
   rw[O4]at q
   have hgt:g' ts[k] ρ=((g ts[k] ρ).bind fun ρ'=>if J3 i a ρ'=true then some ρ' else none):=by rw[←hg']
   cases eg:g ts[k] ρ with
   | none=>rw[hgt,eg]at q;exact q.elim
   | some ρ1 =>
    by_cases hkb:J3 i a ρ1=true
    ·have hgt':g' ts[k] ρ=some ρ1:=by rw[hgt,eg];show (if J3 i a ρ1=true then some ρ1 else none)=some ρ1;rw[if_pos hkb]
     simp only[hgt']at q
     refine ⟨a,vs,G3,n3,rfl,ts[k],ρ,ρ1,rx,o.env.mono s3,eg,fun σ1 R1 n2=>?_⟩
     refine ⟨a,G3,ρ1,acc,G3,vs,rfl,⟨Same.refl G3,n2,R1,RepL.mono s3 acc vs o.rep,AB7 hkb⟩,?_⟩
     cases eb:tb a ρ1 acc with
     | nx ρ2 acc2=>simp only[eb]at q;exact fun σ2 G2 vs2 o2=>⟨ρ2,acc2,G2,vs2,rfl,sG.trans (s3.trans o2.base),⟨o.base.trans (s3.trans o2.base),o2.free,o2.env,o2.rep,o2.slot⟩,q⟩
     | ct ρ2 acc2=>simp only[eb]at q;exact fun σ2 G2 vs2 o2=>⟨ρ2,acc2,G2,vs2,rfl,sG.trans (s3.trans o2.base),⟨o.base.trans (s3.trans o2.base),o2.free,o2.env,o2.rep,o2.slot⟩,q⟩
     | bad=>simp only[eb]at q;exact q.elim
    ·have hgt':g' ts[k] ρ=none:=by rw[hgt,eg];show (if J3 i a ρ1=true then some ρ1 else none)=none;rw[if_neg hkb]
     simp only[hgt']at q
     exact q.elim
  ·refine .inl ⟨(iO k (upd G a (.lst vs)) (sub sG n1)).2 (by omega),?_⟩
   rw[List.drop_eq_nil_of_le (by omega)]at q
   exact q σ G vs o
theorem ASD {tg l:Expr} {t:FE} (hl:JE X Ek l t):JIy X Ek tg l (iOf A9 t):=by
 refine PI.weak (ANI hl) fun σ H Q h=>?_
 obtain ⟨ρ,R,h⟩:=h
 refine ⟨ρ,R,A7 (Same.refl H) (fun x hx=>?_) (A5 h)⟩
 intro v H1 s1 rx
 obtain ⟨ts,e,q⟩:=Q5 hx
 cases x with
 | list xs =>
  have e':xs=ts:=Option.some.inj e
  subst e'
  unfold Rep at rx
  obtain ⟨a,vs,rfl,hq,l⟩:=rx
  refine ⟨a,rfl,⟨vs,hq⟩,q _ H1 s1 (fun i H2 s2=>⟨fun t ht=>?_,fun hi=>⟨vs,K6 s2 hq,by rw[l.length];exact hi⟩⟩) AVK⟩
  obtain ⟨v,e1,e2⟩:=l.get ht
  refine ⟨⟨vs,v,K6 s2 hq,e1⟩,fun x H3 y=>?_⟩
  obtain ⟨y1,y2⟩:=y
  have y3:=y2 vs (K6 s2 hq)
  rw[e1]at y3
  have y4:v=x:=Option.some.inj y3
  subst y4
  subst y1
  exact ⟨Same.refl _,Rep.mono s2 t v e2⟩
 | _=>cases e
theorem ANK {r r':R2} {f g:T→T→Option T} {ta tb tc:FE} (hr:Z7 X.K r f) (hr':Z7 X.K r' g) (hf:∀x y c,f x y=some c→∃k,c=.bool k) (σ:L2.St) (H:Hp) (Q:VK) (h:lE X.K Ek (j9 f g ta tb tc) σ H Q) :
  AJA r r' (lE X.K Ek ta) (lE X.K Ek tb) (lE X.K Ek tc) σ H Q:=by
 obtain ⟨ρ,R,h⟩:=h
 refine ⟨ρ,R,A7 (Same.refl H) (fun x hx=>?_) (A5 h)⟩
 intro v H1 s1 rx
 refine ⟨ρ,R.mono s1,A7 s1 (fun y hy=>?_) (A5 hx)⟩
 intro u H2 s2 ry
 obtain ⟨z,hz,q⟩:=Q5 (A5 hy)
 obtain ⟨k,rfl⟩:=hf x y z hz
 refine hr v u x y _ H2 _ (Rep.mono s2 x v rx) ry hz fun w' H3 s3 rz=>?_
 unfold Rep at rz;subst rz
 refine ⟨k,rfl,?_⟩
 cases k with
 | true =>
  rw[if_pos rfl]
  refine ⟨ρ,R.mono (s1.trans (s2.trans s3)),A7 (s1.trans (s2.trans s3)) (fun w2 hw=>?_) (A5 q)⟩
  intro v4 H4 s4 r4
  obtain ⟨a,ha,q'⟩:=Q5 hw
  exact hr' u v4 y w2 a H4 Q (Rep.mono (s3.trans s4) y u ry) r4 ha fun v5 H5 s5=>q' v5 H5 (s1.trans (s2.trans (s3.trans (s4.trans s5))))
 | false =>
  rw[if_neg Bool.false_ne_true]
  exact q _ H3 (s1.trans (s2.trans s3)) D9
def j7 (f g:T→T→Option T) (a b c:FE):FT:=fun ρ=>(j9 f g a b c ρ).bind fun z=>match z with
 | .bool k=>.ok k
 | _=>.bad
theorem AQ8 {op op':CmpOp} {r r':R2} {f g:T→T→Option T} {a b c:Expr} {ta tb tc:FE} {pos:Pos} (ho:OpR X (compareOp op) r) (ho':OpR X (compareOp op') r') (hr:Z7 X.K r f) (hr':Z7 X.K r' g)
  (hf:∀x y c,f x y=some c→∃k,c=.bool k) (ha:JE X Ek a ta) (hb:JE X Ek b tb) (hc:JE X Ek c tc) (hm:lastMarks [op,op'] [b,c]=false):JT X Ek (.Compare a [op,op'] [b,c] pos) (j7 f g ta tb tc):=by
 refine PT.weak (ARQ ho ho' ha hb hc hm) fun σ H Q h=>?_
 obtain ⟨ρ,R,h⟩:=h
 refine ANK (Ek:=Ek) hr hr' hf σ H _ ⟨ρ,R,A7 (Same.refl H) (fun z hz=>?_) (A5 h)⟩
 cases z with
 | bool k =>
  intro v H' s1 rz
  unfold Rep at rz
  subst rz
  exact ⟨k,rfl,hz H' s1⟩
 | _=>exact hz.elim
end
end Tr
end
section
namespace PySem
open AutoSeq1 (wpAny_loadPart')
end PySem
namespace Tr
open PySem hiding start
open PyProof.Rows hiding St
open L2 PySem.Spec
section
variable {prog:Program} {w:World} {A:Around} {E:Value→Shared→Prop} {s:Shared}
theorem AK0 (its:List Value):∀(n:Nat) (acc:Array Value),(List.replicate n its.toArray).foldl (fun x1 x2=>x1++x2) acc=acc++((List.replicate n its).flatten).toArray
 | 0,acc=>by simp
 | n+1,acc=>by
  rw[List.replicate_succ,List.foldl_cons,AK0 its n,List.replicate_succ,List.flatten_cons]
  simp
theorem AJZ {α:Type} (xs:List α):∀n:Nat,((List.replicate n xs).flatten).length=n*xs.length
 | 0=>by simp
 | n+1=>by rw[List.replicate_succ,List.flatten_cons,List.length_append,AJZ xs n,Nat.succ_mul];omega
end
section
variable {X:Cx} {Ek:EK}
theorem AIO {vs:List V} {us:List Value} (h:Vals vs us):∀n:Nat,Vals (List.replicate n vs).flatten (List.replicate n us).flatten
 | 0=>.nil
 | n+1=>by
  rw[List.replicate_succ,List.replicate_succ,List.flatten_cons,List.flatten_cons]
  exact h.append (AIO h n)
variable {o e:Expr} {es:List Expr} {to:FE} {t:FA} {apos cpos:Pos}
end
section
variable {X:Cx} {Ek:EK}
open Classical in
noncomputable def t5 (i:Nat) (t:FE) (tb:FB):FS:=fun ρ=>if h:i<ρ.length∧∃r:Ev,∃xs,t ρ=.ok (.list xs)∧∀a,∃ρ' acc,tb a (ρ.set i (some (E8 a))) xs=.nx ρ' acc∧ρ'.set i (some (.list acc))=r then .nx (Classical.choose h.2) else .bad
theorem ADD {i:Nat} {t:FE} {tb:FB} {ρ r:Ev} {xs:List T} (hi:i<ρ.length) (ht:t ρ=.ok (.list xs)) (h:∀a,∃ρ' acc,tb a (ρ.set i (some (E8 a))) xs=.nx ρ' acc∧ρ'.set i (some (.list acc))=r):t5 i t tb ρ=.nx r:=by
 have hh:i<ρ.length∧∃r:Ev,∃xs,t ρ=.ok (.list xs)∧∀a,∃ρ' acc,tb a (ρ.set i (some (E8 a))) xs=.nx ρ' acc∧ρ'.set i (some (.list acc))=r:=⟨hi,r,xs,ht,h⟩
 unfold t5
 rw[dif_pos hh]
 obtain ⟨ys,e0,hy⟩:=Classical.choose_spec hh.2
 rw[ht]at e0
 injection e0 with e00
 injection e00 with e01
 subst e01
 obtain ⟨ρ1,acc1,e1,e2⟩:=hy 0
 obtain ⟨ρ2,acc2,e3,e4⟩:=h 0
 rw[e1]at e3
 injection e3 with e5 e6
 rw[←e2,e5,e6,e4]
end
section
variable {X:Cx} {Ek:EK}
def Ite (K:PySem.W.Frag) (l:Addr):It :=
 ⟨fun i H=>∃xs x,SqL K H l xs∧xs[i]?=some x,
  fun i H v H'=>∃p x,v=.ref p∧H p=none∧H'=upd H p (.tup [.int (i:Int),x])∧∀xs,SqL K H l xs→xs[i]?=some x,
  fun i H=>∃xs,SqL K H l xs∧xs.length≤i⟩
theorem AIT {pins:List (Addr × Obj)} {σ:L2.St} {H:Hp} {s:Shared} {h':Heap} {e0 it:Addr} {t:Nat} (I:L2.Inv X pins σ H s) (hf:∀a∈[e0,it],AHB X pins H a) (old:∀a o,a≠e0→a≠it→s.heap.get? a=some o→h'.get? a=some o):L2.Inv X pins σ H {s with heap:=h',toks:=t}:=by
 have fe:=hf e0 (by simp)
 have fi:=hf it (by simp)
 have far:∀a u,H a=some u→a≠e0∧a≠it:=fun a u q=>⟨fun z=>(by rw[z,fe.1]at q;cases q),fun z=>(by rw[z,fi.1]at q;cases q)⟩
 have off:∀a,a ∉ [e0,it]→a≠e0∧a≠it:=fun a q=>by
  simp only[List.mem_cons,List.not_mem_nil,or_false,not_or]at q
  exact q
 refine I.step (g':=s.gens) (d':=s.drawn) (t':=t) (ch:=[e0,it]) (fun a ha=>?_) (fun a o _ _ q e _=>?_) (fun a o _ _ q e _=>⟨o.slots,?_⟩) (fun _ _ _ _ q=>q) (fun a o q e=>⟨o,?_⟩) (fun _ _ e=>e) (fun _ _ _ e=>e) (fun a ps e=>⟨#[],by rw[e];simp⟩) (fun mm hm=>?_) (fun a u e=>?_) I.bare
 ·simp only[List.mem_cons,List.not_mem_nil,or_false]at ha
  rcases ha with rfl | rfl
  ·exact ⟨fe.2.2.2.1,fe.2.1,fe.2.2.2.2.1,fe.2.2.2.2.2⟩
  ·exact ⟨fi.2.2.2.1,fi.2.1,fi.2.2.2.2.1,fi.2.2.2.2.2⟩
 ·obtain ⟨q1,q2⟩:=off a q
  exact old a o q1 q2 e
 ·obtain ⟨q1,q2⟩:=off a q
  exact old a o q1 q2 e
 ·obtain ⟨q1,q2⟩:=off a q
  exact old a o q1 q2 e
 ·obtain ⟨o,es,ep,ho,r⟩:=hm
  exact ⟨o,es,ep,old _ o (Ne.symm fe.2.1) (Ne.symm fi.2.1) ho,r⟩
 ·refine (I.hok a u e).stay (fun c' v hc q=>?_) (fun _ q=>q) fun _ _ q=>q
  have hfar:c'≠e0∧c'≠it:=by
   rcases hc with r | r
   ·rw[r];exact far a u e
   ·exact far c' _ r
  exact old c' v hfar.1 hfar.2 q
theorem AOZ {P:Program} {w:World} {K:PySem.W.Frag} {elts:List Expr} {k0:Nat} {pos:Pos} {e it l:Addr} (hei:e≠it) (hle:l≠e) (hli:l≠it) :
  Turn P w K (.Tuple elts k0 pos) (Ite K l) [e,it] e (fun n h=>(∃old,IsEnum h e it (n:Int) old)∧h.IsListIter it l n) where
 mem:=by simp
 obj:=fun n h st a ha=>by
  obtain ⟨⟨old,he⟩,o,ho,hc,hd⟩:=st
  simp only[List.mem_cons,List.not_mem_nil,or_false]at ha
  rcases ha with rfl | rfl
  ·exact ⟨_,he,fun v r=>by cases r⟩
  ·exact ⟨o,ho,fun v r=>by rw[hd]at r;cases r⟩
 keep:=fun n h h' st k=>by
  obtain ⟨⟨old,he⟩,o,ho,r⟩:=st
  exact ⟨⟨old,k e (by simp) _ he⟩,o,k it (by simp) _ ho,r⟩
 item:=by
  intro X hP hw hK hc n pins s σ H E I hf st hg
  subst hP hw hK
  obtain ⟨xs,x,hq,hx⟩:=hg
  obtain ⟨⟨old,he⟩,hit⟩:=st
  obtain ⟨its,r,p,_⟩:=I.list hq
  obtain ⟨u,hu,ru⟩:=r.get hx
  have helt:e<s.heap.objs.size:=Heap.lt_size he
  have hilt:it<s.heap.objs.size:=by obtain ⟨_,y,_⟩:=hit;exact Heap.lt_size y
  refine wpAny_pyNext_enum_item he hit p.isList (x:=u) (by simpa using hu) hei fun h1 ho hit1 hT hsz hk=>⟨_,rfl,?_⟩
  refine wpAny_letOwnedTupleGo_enum ho fun h2 he2 sb=>?_
  replace sb:Heap.SameBut e h1 h2:=sb
  have T2:h2.get? s.heap.objs.size=some {cls:=.type "tuple",data:=.seq #[.int n s.toks,u] }:=(sb.2 _ (Nat.ne_of_gt helt)).trans hT
  have it2:h2.IsListIter it l (n+1):=hit1.at fun o y=>(sb.2 it hei.symm).trans y
  have I2:L2.Inv X pins σ H {s with heap:=h2,toks:=s.toks+1}:=AIT I hf fun a o a1 a2 q=>(sb.2 a a1).trans (hk a o a1 a2 q)
  have fresh:H s.heap.objs.size=none:=I.hok.fresh (Nat.le_refl _)
  have I3:=AFG (p:=s.heap.objs.size) (x:=.int (n:Int)) (u:=.int n s.toks) I2 T2 fresh I.sz (Nat.ne_of_lt I.lt) (fun a cc q=>by
   obtain ⟨w',o,ho,_⟩:=I.cell a cc q
   exact Nat.ne_of_lt (Heap.lt_size ho)) (fun q hq=>Nat.ne_of_lt (Heap.lt_size (I.pin q hq).1)) ⟨_,rfl⟩ ru
  refine ⟨.ref s.heap.objs.size,_,I3,rfl,⟨_,x,rfl,fresh,rfl,fun xs' h=>?_⟩,⟨⟨_,by simpa using he2⟩,it2⟩,fun a ha=>?_⟩
  ·rw[I.list_inj h hq];exact hx
  ·have hne:a≠s.heap.objs.size:=by
    simp only[List.mem_cons,List.not_mem_nil,or_false]at ha
    rcases ha with rfl | rfl
    ·exact Nat.ne_of_lt helt
    ·exact Nat.ne_of_lt hilt
   rw[A6 hne];exact (hf a ha).1
 done:=by
  intro X hP hw hK hc n pins s σ H E I hf st hg
  subst hP hw hK
  obtain ⟨xs,hq,hx⟩:=hg
  obtain ⟨⟨old,he⟩,hit⟩:=st
  obtain ⟨its,r,p,_⟩:=I.list hq
  have e1:=r.length
  refine wpAny_pyNext_enum_end (I.ok.hd hc) he hit p.isList (by simp;omega) fun h1 hk=>⟨rfl,?_⟩
  exact AIT (t:=s.toks) I hf fun a o _ a2 q=>hk a o a2 q
 self:=fun _ _ _ _ _ st h=>by
  obtain ⟨⟨old,he⟩,_⟩:=st
  exact wpAny_pyIter_enum he h
def AcJ (K:PySem.W.Frag) (ta:TA):TI:=fun σ H R=>ta σ H fun vs H1=>∃l xs,vs=[.ref l]∧SqL K H1 l xs∧R (Ite K l) H1
theorem AV1 {elts:List Expr} {k0:Nat} {tp:Pos} {a:Expr} {ta:TA} {p pos:Pos} (hg:Gl X "enumerate") (hm:X.mg "enumerate" = none) (ha:PA X [a] ta) (hs:starEach [a] X.env=(false,eval a X.env)::starEach [] X.env) (hpl:(backTo pos (starEach [] X.env)).any (·.1)=false) :
  PI X (.Tuple elts k0 tp) (.Call (.Name "enumerate" p) [a] [] pos) (AcJ X.K ta):=by
 intro pins s σ H R I h
 refine Call_ (P9 I hg hm boot_enumerate (PyProof.Rows.callWith_type1 (thn (ha pos pins s σ H _ I h) fun us s1 ⟨vs,H1,I1,r1,q1⟩=>?_) hs hpl))
 obtain ⟨l,xs,e,hq,q⟩:=q1
 subst e
 obtain ⟨u1,rfl,ru1⟩:=r1.one
 cases ru1
 obtain ⟨its,r,p,_⟩:=I1.list hq
 have hl:l<s1.heap.objs.size:=by obtain ⟨_,y,_⟩:=p.isList;exact Heap.lt_size y
 refine call_enumerate_list p.isList fun h' he hit hz old=>?_
 refine wpAny_pyIter_enum he ⟨_,[_,_],_,_,H1,rfl,I1.kept (t':=s1.toks) old,AOZ (Nat.succ_ne_self _) (Nat.ne_of_lt (Nat.lt_succ_of_lt hl)) (Nat.ne_of_lt hl),⟨⟨_,he⟩,hit⟩,fun a ha=>?_,q⟩
 have hle:s1.heap.objs.size≤a:=by
  simp only[List.mem_cons,List.not_mem_nil,or_false]at ha
  rcases ha with rfl | rfl
  ·exact Nat.le_succ _
  ·exact Nat.le_refl _
 exact I1.fpOk hle (I1.hok.fresh hle)
def w8:Nat→List T→List T
 | _,[]=>[]
 | n,x::xs=>.tuple [.int (n:Int),x]::w8 (n+1) xs
theorem AF1:∀(xs:List T) (n i:Nat),(w8 n xs)[i]?=(xs[i]?).map fun x=>PyData.tuple [.int ((n+i:Nat):Int),x]
 | [],_,_=>by simp[w8]
 | x::xs,n,0=>by simp[w8]
 | x::xs,n,i+1=>by
  have:=AF1 xs (n+1) i
  simp only[w8,List.getElem?_cons_succ]
  rw[this,show n+1+i=n+(i+1) by omega]
theorem AF2:∀(xs:List T) (n:Nat),(w8 n xs).length=xs.length
 | [],_=>rfl
 | x::xs,n=>by rw[w8,List.length_cons,List.length_cons,AF2 xs]
def AWC:List T→Option (List T)
 | [.list xs]=>some (w8 0 xs)
 | _=>none
theorem ATZ {elts:List Expr} {k0:Nat} {tp:Pos} {a:Expr} {t:FA} {p pos:Pos} (hg:Gl X "enumerate") (hm:X.mg "enumerate" = none) (ha:JA X Ek [a] t) (hs:starEach [a] X.env=(false,eval a X.env)::starEach [] X.env) (hpl:(backTo pos (starEach [] X.env)).any (·.1)=false) :
  JI X Ek (.Tuple elts k0 tp) (.Call (.Name "enumerate" p) [a] [] pos) (iN AWC t):=by
 refine PI.weak (AV1 hg hm ha hs hpl) fun σ H Q h=>?_
 obtain ⟨ρ,R,h⟩:=h
 refine ⟨ρ,R,A7 (Same.refl H) (fun x hx=>?_) (A5 h)⟩
 intro vs H1 s1 rx
 obtain ⟨ts,e,q⟩:=Q5 hx
 match x,e,rx with
 | [.list xs],e,rx =>
  have e':w8 0 xs=ts:=Option.some.inj e
  subst e'
  unfold RepL at rx
  obtain ⟨v,r,rfl,r1,rx⟩:=rx
  unfold RepL at rx
  subst rx
  unfold Rep at r1
  obtain ⟨l,vx,rfl,q1,l1⟩:=r1
  refine ⟨l,vx,rfl,q1,q _ H1 s1 fun i H2 s2=>⟨fun t ht=>?_,fun hi=>?_⟩⟩
  ·rw[AF1,Nat.zero_add]at ht
   cases exi:xs[i]? with
   | none=>rw[exi]at ht;cases ht
   | some xi =>
    rw[exi]at ht
    have ht':PyData.tuple [.int (i:Int),xi]=t:=Option.some.inj ht
    subst ht'
    obtain ⟨wx,f1,f2⟩:=l1.get exi
    refine ⟨⟨vx,wx,K6 s2 q1,f1⟩,fun x H3 y=>?_⟩
    obtain ⟨p,x1,rfl,n,rfl,k1⟩:=y
    have k3:=k1 vx (K6 s2 q1)
    rw[f1]at k3
    have k5:=Option.some.inj k3
    subst k5
    have sm:=B0 n (.tup [.int (i:Int),wx])
    refine ⟨sm,?_⟩
    unfold Rep
    exact ⟨p,[.int (i:Int),wx],rfl,SqT.of A8,B6 C3 (B6 (Rep.mono (s2.trans sm) xi wx f2) C5)⟩
  ·rw[AF2]at hi
   refine ⟨vx,K6 s2 q1,?_⟩
   rw[l1.length]
   exact hi
end
abbrev cx (P:Program) (w:World) (K:PySem.W.Frag) (mg:Str→Option Value) (base:Heap) (N:List Str) (x:Str) (st:Stmt) (f:Addr) (cdv:Value) (A:Around) (outer:List Env) (s:Shared) (H:Hp) (E:XK):Cx:=W1 (CXE P w base) P w K mg base N x (C6 st) f cdv A outer s H E
abbrev Df (P:Program) (w:World) (K:PySem.W.Frag) (mg:Str→Option Value) (base:Heap) (x:Str) (k n:Nat) (m:List T→R T):Prop:=Dfn (CXE P w base) P w K mg base x k n m
section
variable {X:Cx} {Ek:EK}
theorem aj1 {e:Expr} {t:FE} (h:JE X Ek e t) (hs:starEach [e] X.env=(false,eval e X.env)::starEach [] X.env):JA X Ek [e] (A0 t A2):=ABO h ALY hs
theorem aj2 {e e2:Expr} {t t2:FE} (h:JE X Ek e t) (h2:JE X Ek e2 t2) (hs:starEach [e,e2] X.env=(false,eval e X.env)::starEach [e2] X.env) (hs2:starEach [e2] X.env=(false,eval e2 X.env)::starEach [] X.env):JA X Ek [e,e2] (A0 t (A0 t2 A2)):=ABO h (aj1 h2 hs2) hs
theorem aj3 {e e2 e3:Expr} {t t2 t3:FE} (h:JE X Ek e t) (h2:JE X Ek e2 t2) (h3:JE X Ek e3 t3) (hs:starEach [e,e2,e3] X.env=(false,eval e X.env)::starEach [e2,e3] X.env) (hs2:starEach [e2,e3] X.env=(false,eval e2 X.env)::starEach [e3] X.env) (hs3:starEach [e3] X.env=(false,eval e3 X.env)::starEach [] X.env):JA X Ek [e,e2,e3] (A0 t (A0 t2 (A0 t3 A2))):=ABO h (aj2 h2 h3 hs2 hs3) hs
end
def FnX (K:PySem.W.Frag) (x:Str) (st:Stmt):Prop:=∃(f:Addr) (od an:Option Addr) (sl:Array (Option Value)) (oc kV dc pm cd ct:Value),PySem.W.nsIn K mainGlobals x=some (some (.ref f))∧K.lookup f=some ⟨oc,od,.func (PySem.W.fnOf x x (S5 st) (L7 st) (C6 st) .none kV dc pm an cd ct),sl⟩∧PySem.W.codeIn K cd x=true∧PySem.W.keepIn K (.ref f)=true
theorem fnX_mk {K:PySem.W.Frag} {x:Str} {st:Stmt} {f:Addr} {od an:Option Addr} {sl:Array (Option Value)} {oc kV dc pm cd ct:Value} (a:PySem.W.nsIn K mainGlobals x=some (some (.ref f))) (l:K.lookup f=some ⟨oc,od,.func (PySem.W.fnOf x x (S5 st) (L7 st) (C6 st) .none kV dc pm an cd ct),sl⟩) (c:PySem.W.codeIn K cd x=true) (k:PySem.W.keepIn K (.ref f)=true):FnX K x st:=⟨f,od,an,sl,oc,kV,dc,pm,cd,ct,a,l,c,k⟩
end Tr
end
section
namespace PySem
namespace F
theorem sub_rgi_reversed:isSubtype (.type "range_iterator") (.type "reversed")=pure false:=by rw[isSubtype_type];kernel_rfl
end F
theorem ABU (r:Addr) (a b c:Int) (t u v:Tok) (hc0:¬(!(Builtin.Range.rangeFitsLong a&&Builtin.Range.rangeFitsLong b&&Builtin.Range.rangeFitsLong c&&Builtin.Range.rangeFitsLong (-c)&&Builtin.Range.rangeFitsLong (a-c)&&Builtin.Range.rangeFitsLong (Builtin.Range.rangeSize a b c)))=true) :
  Meets (Builtin.«range.__reversed__» ⟨[.ref r],[]⟩) (fun _ R s=>s.heap.get? r=some {cls:=.type "range",dict:=none,data:=.fields #[.int a t,.int b u,.int c v],slots:=#[] }∧R (.ok (.ret (Value.ref s.heap.objs.size))) {s with heap:=s.heap.push {cls:=Value.type (if (Builtin.Range.rangeFitsLong a&&Builtin.Range.rangeFitsLong b&&Builtin.Range.rangeFitsLong c&&Builtin.Range.rangeFitsLong (-c)&&Builtin.Range.rangeFitsLong (a-c)&&Builtin.Range.rangeFitsLong (Builtin.Range.rangeSize a b c))=true then "range_iterator" else "longrange_iterator"),data:=Data.fields #[rawInt (a+(Builtin.Range.rangeSize a b c-1)*c),rawInt (Builtin.Range.rangeSize a b c),rawInt (-c)] },toks:=s.toks}) :=
 .of_wp fun prog w A R s h=>by obtain ⟨hp,g,d,tk,os⟩:=s;obtain ⟨hl,h⟩:=h;wp_walk;exact ⟨_,rfl,h⟩
section
variable {prog:Program} {w:World} {A:Around} {E:Value→Shared→Prop} {s:Shared}
abbrev rgi (a n c:Int):Obj:={cls:=.type "range_iterator",data:=.fields #[rawInt a,rawInt n,rawInt c] }
theorem i6 {r:Addr} {n:Int} {t u v:Tok} {Q:Value→Shared→Prop} (hr:IsRange s.heap r 0 n 1 t u v) (h0:0≤n) (h1:n<2 ^ 62)
  (h:Q (.ref s.heap.objs.size) {s with heap:=s.heap.push (rgi (n-1) n (-1))}):wpAny (model prog w) A (call (.builtin "range.__reversed__") [.ref r]) Q E s:=by
 have hT:s.TypeIs (.ref r) "range":=⟨_,hr,rfl⟩
 have hz:Builtin.Range.rangeSize 0 n 1=n:=by rw[rangeSize_one];split<;>omega
 have hf:(Builtin.Range.rangeFitsLong 0&&Builtin.Range.rangeFitsLong n&&Builtin.Range.rangeFitsLong 1&&Builtin.Range.rangeFitsLong (-1)&&Builtin.Range.rangeFitsLong (0-1)&&Builtin.Range.rangeFitsLong (Builtin.Range.rangeSize 0 n 1))=true:=by
  rw[hz]
  simp only[Builtin.Range.rangeFitsLong,Bool.and_eq_true,decide_eq_true_eq]
  omega
 refine call_meets F.slot_range_reversed hT F.entry_range_reversed (F.args_range_reversed_1 _) (ABU r 0 n 1 t u v (by rw[hf];decide)) ⟨hr,?_⟩
 rw[if_pos hf,hz]
 have e:(0:Int)+(n-1)*1=n-1:=by omega
 rw[e]
 exact h
theorem i9 {r:Addr} {n:Int} {t u v:Tok} {Q₁:Value→Shared→Prop} (hr:IsRange s.heap r 0 n 1 t u v) (h0:0≤n) (h1:n<2 ^ 62)
  (h:Q₁ (.ref s.heap.objs.size) {s with heap:=s.heap.push (rgi (n-1) n (-1))}) :
  codeAny (model prog w) A (.call (.builtin "reversed.__new__") ⟨[.type "reversed",.ref r],[]⟩) (wants Q₁ E) s:=by
 have hT:s.TypeIs (.ref r) "range":=⟨_,hr,rfl⟩
 refine codeAny_of_tree ?_
 show wpAny _ A.in1 (do checkBuiltinCall "reversed.__new__" ⟨[.type "reversed",.ref r],[]⟩;again (.builtin "reversed.__new__" ⟨[.type "reversed",.ref r],[]⟩)) _ _ s
 refine wpAny_bind (wpAny_of_eq (F.newCall_reversed_1 _) (wpAny_pure ⟨plainId_quiet F.plain_reversed_new _,codeAny_builtin F.entry_reversed_new ?_⟩))
 rw[Around.under_plainId F.plain_reversed_new _]
 unfold Builtin.«reversed.__new__»
 refine wpAny_bind (wpAny_of_eq (newClass_reversed _) ?_)
 try dsimp only
 refine wpAny_bind (wpAny_of_eq (a:=()) (by first | rfl | kernel_rfl) ?_)
 refine wpAny_bind (wpAny_of_eq (a:=()) (by first | rfl | kernel_rfl) ?_)
 try dsimp only
 refine wpAny_bind (wpAny_specialOf hT F.slot_range_reversed.lookup ?_)
 try dsimp only
 refine wpAny_bind (wpAny_of_eq (F.slot_range_reversed.bind _) ?_)
 try dsimp only
 first
 | rw[if_neg (show ¬((Value.builtin "range.__reversed__" == Value.none)=true) from Bool.false_ne_true)]
 | (show wpAny _ _ (if (Value.builtin "range.__reversed__" == Value.none)=true then _ else _) _ _ _;rw[if_neg (show ¬((Value.builtin "range.__reversed__" == Value.none)=true) from Bool.false_ne_true)])
 refine wpAny_bind (wpAny_rule ?_)
 refine wpAny_bind (m:=runValue (.call (.builtin "range.__reversed__") ⟨[.ref r],[]⟩)) (show wpAny _ _ (call (.builtin "range.__reversed__") [.ref r]) _ _ _ from i6 hr h0 h1 ?_)
 first
 | exact wpAny_pure h
 | exact wpAny_bind (wpAny_pure (wpAny_pure h))
theorem i8 {r:Addr} {n:Int} {t u v:Tok} {Q:Value→Shared→Prop} (hr:IsRange s.heap r 0 n 1 t u v) (h0:0≤n) (h1:n<2 ^ 62)
  (h:Q (.ref s.heap.objs.size) {s with heap:=s.heap.push (rgi (n-1) n (-1))}):wpAny (model prog w) A (call (.type "reversed") [.ref r]) Q E s:=by
 refine callType_other (U:="range_iterator") (Q₁:=fun obj s₁=>obj=.ref s.heap.objs.size∧s₁={s with heap:=s.heap.push (rgi (n-1) n (-1))}) (by decide +kernel) F.create_reversed ⟨_,_,F.mro_reversed⟩ F.made_reversed F.sub_rgi_reversed (F.typeCall_reversed_1 _) (i9 hr h0 h1 ⟨rfl,rfl⟩) ?_
 rintro obj s₁ ⟨rfl,rfl⟩
 exact ⟨⟨_,Heap.get?_push_size _ rfl,rfl⟩,h⟩
end
end PySem
namespace L2
open PySem PySem.Spec PyProof.Rows
def Itd (n:Nat):It:=⟨fun i _=>i<n,fun i H x H'=>H'=H∧x=.int ((n:Int)-1-i),fun i _=>n≤i⟩
theorem AOP {P:Program} {w:World} {K:PySem.W.Frag} {tg:Expr} (it:Addr) (n:Nat):Turn P w K tg (Itd n) [it] it (fun i h=>IsRangeIter h it (((n:Int)-1)+(i:Nat)*(-1)) ((n:Int)-(i:Nat)) (-1)) where
 mem:=by simp
 obj:=fun i h st b hb=>by
  have e:b=it:=by simpa using hb
  subst e
  exact ⟨_,st,fun v z=>by
   have z':Data.fields _=Data.cell v:=z
   cases z'⟩
 keep:=fun i h h' st k=>k it (by simp) _ st
 item:=by
  intro X hP hw hK hc i pins s σ H E I hf st hg
  subst hP hw hK
  obtain ⟨f0,f1,f2,f3,f4,f5⟩:=hf it (by simp)
  have W:=Walks.range (prog:=X.prog) (w:=X.w) (I.ok.hd hc) it ((n:Int)-1) (-1) n
  refine W.item i s _ _ hg st fun v h' tk hv st' kk=>?_
  obtain ⟨t,rfl⟩:=hv
  have I1:Inv X pins σ H {s with heap:=h',toks:=tk}:=I.turned (fun b o hb e=>kk b o (by simpa using hb) e) f0 f1 f3 f4 f5
  refine ⟨_,rfl,AS3 (s:={s with heap:=h',toks:=tk}) (n:="range_iterator") st' rfl rfl (by decide) ⟨.int ((n:Int)-1-i),H,I1,⟨t,?_⟩,⟨rfl,rfl⟩,st',fun b hb=>(hf b hb).1⟩⟩
  have e:((n:Int)-1)+(i:Int)*(-1)=(n:Int)-1-i:=by omega
  rw[e]
 done:=by
  intro X hP hw hK hc i pins s σ H E I hf st hg
  subst hP hw hK
  obtain ⟨f0,f1,f2,f3,f4,f5⟩:=hf it (by simp)
  exact wpAny_pyNext_range_end (I.ok.hd hc) st (by have:n≤i:=hg;omega) fun h' eb=>⟨rfl,I.turned (t':=s.toks) (fun b o hb e=>eb b o hb e) f0 f1 f3 f4 f5⟩
 self:=fun _ _ _ _ _ st h=>wpAny_pyIter_rangeiter st h
section
variable {X:Cx} {tg:Expr}
def Ad4 (ta:TA):TI:=fun σ H R=>ta σ H fun vs H1=>∃j:Int,vs=[.int j]∧0≤j∧j<2 ^ 62∧R (Itd j.toNat) H1
theorem AVJ {a:Expr} {ta:TA} {p p2 pos pos2:Pos} (hg:Gl X "range") (hm:X.mg "range" = none) (hg2:Gl X "reversed") (hm2:X.mg "reversed" = none) (ha:PA X [a] ta) (hs:starEach [a] X.env=[(false,eval a X.env)])
  (hs2:starEach [.Call (.Name "range" p2) [a] [] pos2] X.env=[(false,eval (.Call (.Name "range" p2) [a] [] pos2) X.env)]):PI X tg (.Call (.Name "reversed" p) [.Call (.Name "range" p2) [a] [] pos2] [] pos) (Ad4 ta):=by
 intro pins s σ H R I h
 refine Call_ (P9 I hg2 hm2 boot_reversed (PyProof.Rows.callWith_type1 ?_ hs2 rfl))
 rw[hs2]
 show wpAny _ _ (spliced ((false,eval (.Call (.Name "range" p2) [a] [] pos2) X.env)::backTo pos [])) _ _ s
 refine Calls.spliced_cons ?_
 refine Call_ (P9 I hg hm boot_range (PyProof.Rows.callWith_type1 (thn (ha pos2 pins s σ H _ I h) fun us s1 ⟨vs,H1,I1,r1,q1⟩=>?_) hs rfl))
 obtain ⟨j,e,q1,q2,q⟩:=q1
 subst e
 cases r1 with
 | cons r rr =>
  cases rr
  obtain ⟨t,rfl⟩:=r
  refine call_range_1 (Calls.spliced_nil ?_)
  have I2:Inv X pins σ H1 {s1 with heap:=s1.heap.push {cls:=.type "range",data:=.fields #[.int 0 s1.toks,.int j t,.int 1 (s1.toks+1)] },toks:=s1.toks+1+1}:=I1.kept fun b o e=>Heap.get?_push_of_some _ e
  refine i8 (IsRange.new ..) q1 q2 ?_
  have hj:((j.toNat:Nat):Int)=j:=Int.toNat_of_nonneg q1
  refine wpAny_pyIter_rangeiter (Heap.get?_push_size _ rfl) ?_
  refine ⟨_,[_],_,_,H1,rfl,I2.kept (t':=s1.toks+1+1) fun b o e=>Heap.get?_push_of_some _ e,AOP _ j.toNat,?_,fun b hb=>?_,q⟩
  ·have e1:(((j.toNat:Nat):Int)-1)+((0:Nat):Int)*(-1)=j-1:=by omega
   have e2:((j.toNat:Nat):Int)-((0:Nat):Int)=j:=by omega
   show IsRangeIter _ _ ((((j.toNat:Nat):Int)-1)+((0:Nat):Int)*(-1)) (((j.toNat:Nat):Int)-((0:Nat):Int)) (-1)
   rw[e1,e2]
   exact Heap.get?_push_size _ rfl
  ·have e:=List.mem_singleton.mp hb
   subst e
   exact I2.fpOk (Nat.le_refl _) (I2.hok.fresh (Nat.le_refl _))
end
end L2
end
section
namespace Tr
open PySem hiding start
open PyProof.Rows hiding St
open L2 PySem.Spec
section
variable {X:Cx} {Ek:EK} {tg:Expr}
def AbO:FS:=fun ρ=>.bk ρ
theorem AaS {pos:Pos}:JS X Ek (.Break pos) AbO:=by
 refine PS.weak ASA fun D σ H h=>?_
 obtain ⟨ρ,R,h⟩:=h
 exact h σ H (Same.refl H) R
def AB3 (n:Nat):List T:=(List.range n).map fun (i:Nat)=>PyData.int ((n:Int)-1-(i:Int))
def Ab7:List T→Option (List T)
 | [.int j]=>if 0≤j∧j<100000 then some (AB3 j.toNat) else none
 | _=>none
theorem AHX {K:PySem.W.Frag} {n:Nat} {H:Hp}:w9 K (Itd n) (AB3 n) H:=by
 intro i H2 _
 refine ⟨fun t ht=>?_,fun hi=>?_⟩
 ·unfold AB3 at ht
  rw[List.getElem?_map]at ht
  by_cases hi:i<n
  ·rw[List.getElem?_range hi]at ht
   have ht':PyData.int ((n:Int)-1-(i:Int))=t:=Option.some.inj ht
   subst ht'
   refine ⟨hi,fun x H3 y=>?_⟩
   obtain ⟨y1,rfl⟩:=y
   subst y1
   exact ⟨Same.refl _,C3⟩
  ·rw[List.getElem?_eq_none (by simpa using hi)]at ht;cases ht
 ·unfold AB3 at hi
  rw[List.length_map,List.length_range]at hi
  exact hi
theorem AUE {n:Nat}:YM (Itd n):=fun i H0 H x H3 _ y=>⟨y.1,rfl,y.2⟩
theorem ARL {a:Expr} {t:FA} {p p2 pos pos2:Pos} (hg:Gl X "range") (hm:X.mg "range" = none) (hg2:Gl X "reversed") (hm2:X.mg "reversed" = none) (ha:JA X Ek [a] t) (hs:starEach [a] X.env=[(false,eval a X.env)])
  (hs2:starEach [.Call (.Name "range" p2) [a] [] pos2] X.env=[(false,eval (.Call (.Name "range" p2) [a] [] pos2) X.env)]):JIy X Ek tg (.Call (.Name "reversed" p) [.Call (.Name "range" p2) [a] [] pos2] [] pos) (iN Ab7 t):=by
 refine PI.weak (AVJ hg hm hg2 hm2 ha hs hs2) fun σ H Q h=>?_
 obtain ⟨ρ,R,h⟩:=h
 refine ⟨ρ,R,A7 (Same.refl H) (fun x hx=>?_) (A5 h)⟩
 intro vs H1 s1 rx
 obtain ⟨ts,e,q⟩:=Q5 hx
 match x,e,rx with
 | [.int j],e,rx =>
  unfold RepL at rx
  obtain ⟨v,r,rfl,r1,rx⟩:=rx
  unfold RepL at rx
  subst rx
  unfold Rep at r1
  subst r1
  have e':(if 0≤j∧j<100000 then some (AB3 j.toNat) else none)=some ts:=e
  by_cases h:0≤j∧j<100000
  ·rw[if_pos h]at e'
   cases e'
   exact ⟨j,rfl,h.1,by omega,q _ H1 s1 AHX AUE⟩
  ·rw[if_neg h]at e';cases e'
def tLR (ta:TA):TE:=fun σ H Q=>ta σ H fun vs H1=>∃i j:Int,vs=[.int i,.int j]∧-1000000≤i∧i≤j∧j≤i+1000000∧j<1000000∧∀p,H1 p=none→Q (.ref p) (upd H1 p (.lst ((List.range (j-i).toNat).map fun (k:Nat)=>V.int (i+k))))
theorem Y8 {acc:Array Value} {i:Int} {n:Nat} (h:ItemsOf (fun k v=>∃t,v=.int (i+(k:Nat)*1) t) acc n):Vals ((List.range n).map fun (k:Nat)=>V.int (i+k)) acc.toList:=by
 have key:∀(m:Nat) (l:List Value) (o:Int),l.length=m→(∀(k:Nat) (v:Value),l[k]?=some v→∃t,v=.int (o+(k:Int)) t)→Vals ((List.range m).map fun (k:Nat)=>V.int (o+k)) l:=by
  intro m
  induction m with
  | zero=>intro l o hl _;have:=List.length_eq_zero_iff.mp hl;subst this;exact .nil
  | succ m ih =>
   intro l o hl hg
   match l,hl with
   | v::r,hl =>
    rw[List.range_succ_eq_map,List.map_cons,List.map_map]
    obtain ⟨t,rfl⟩:=hg 0 v rfl
    refine .cons ⟨t,rfl⟩ ?_
    have:=ih r (o+1) (by simpa using hl) fun k v' hv=>by
     obtain ⟨t,rfl⟩:=hg (k+1) v' hv
     exact ⟨t,by congr 1;omega⟩
    have e:((fun (k:Nat)=>V.int (o+(k:Int)))∘Nat.succ)=fun (k:Nat)=>V.int (o+1+(k:Int)):=by
     funext k;show V.int _=V.int _;congr 1;simp only[Nat.succ_eq_add_one];omega
    rw[e]
    exact this
 refine key n acc.toList i (by simpa using h.1) fun k v hv=>?_
 obtain ⟨t,rfl⟩:=h.2 k v (by simpa using hv)
 exact ⟨t,by congr 1;omega⟩
theorem AcV {a b:Expr} {ta:TA} {p p2 pos pos2:Pos} (hc:X.calm=true) (hg:Gl X "range") (hm:X.mg "range" = none) (hg2:Gl X "list") (hm2:X.mg "list" = none) (ha:PA X [a,b] ta) (hs:starEach [a,b] X.env=[(false,eval a X.env),(false,eval b X.env)]) (hsb:starEach [b] X.env=[(false,eval b X.env)])
  (hs2:starEach [.Call (.Name "range" p2) [a,b] [] pos2] X.env=[(false,eval (.Call (.Name "range" p2) [a,b] [] pos2) X.env)]):PE X (.Call (.Name "list" p) [.Call (.Name "range" p2) [a,b] [] pos2] [] pos) (tLR ta):=by
 intro pins s σ H Q I h
 refine Call_ (P9 I hg2 hm2 (by decide +kernel) (PyProof.Rows.callWith_type1 (T:="list") ?_ hs2 rfl))
 rw[hs2]
 show wpAny _ _ (spliced ((false,eval (.Call (.Name "range" p2) [a,b] [] pos2) X.env)::backTo pos [])) _ _ s
 refine Calls.spliced_cons ?_
 refine Call_ (P9 I hg hm boot_range (PyProof.Rows.callWith_type1 (thn (ha pos2 pins s σ H _ I h) fun us s1 ⟨vs,H1,I1,r1,q1⟩=>?_) (by rw[hs,hsb]) (by rw[hsb];rfl)))
 obtain ⟨i,j,e,q1,q2,q3,q4,q⟩:=q1
 subst e
 cases r1 with
 | cons r rr =>
  cases rr with
  | cons r' rr =>
   cases rr
   obtain ⟨t,rfl⟩:=r
   obtain ⟨t',rfl⟩:=r'
   refine call_range_2 (Calls.spliced_nil ?_)
   have I2:Inv X pins σ H1 {s1 with heap:=s1.heap.push {cls:=.type "range",data:=.fields #[.int i t,.int j t',.int 1 s1.toks] },toks:=s1.toks+1}:=I1.kept fun b o e=>Heap.get?_push_of_some _ e
   have hz:Builtin.Range.rangeSize i j 1=(((j-i).toNat:Nat):Int):=by rw[rangeSize_one];split<;>omega
   refine call_list_range (I2.ok.hd hc) (IsRange.new ..) (small_one (by omega) (by omega) (by omega) (by omega)) hz (by omega) fun h' tk acc' c' hk hS' hacc=>?_
   refine ⟨.ref _,_,I2.laid (t':=tk) (o:=.lst ((List.range (j-i).toNat).map fun (k:Nat)=>V.int (i+k))) (fun b ob e=>hk b ob e) (Nat.le_refl _) ⟨?_,acc'.toList,c',Y8 hacc,by simpa using hS'⟩,rfl,q _ (I2.hok.fresh (Nat.le_refl _))⟩
   rw[List.length_map,List.length_range,sizeLine_eq]
   omega
def lr2:List T→Option T
 | [.int i,.int j]=>if -1000000≤i∧i≤j∧j≤i+1000000∧j<1000000 then some (.list (L1 i (j-i).toNat)) else none
 | _=>none
theorem ADF {K:PySem.W.Frag} {H:Hp} (i:Int) (n:Nat):RepL K H (L1 i n) ((List.range n).map fun (k:Nat)=>V.int (i+k)):=by
 unfold L1
 generalize List.range n=l
 induction l with
 | nil=>exact C5
 | cons a r ih=>exact B6 C3 ih
theorem Ac1 {a b:Expr} {t:FA} {p p2 pos pos2:Pos} (hc:X.calm=true) (hg:Gl X "range") (hm:X.mg "range" = none) (hg2:Gl X "list") (hm2:X.mg "list" = none) (ha:JA X Ek [a,b] t) (hs:starEach [a,b] X.env=[(false,eval a X.env),(false,eval b X.env)]) (hsb:starEach [b] X.env=[(false,eval b X.env)])
  (hs2:starEach [.Call (.Name "range" p2) [a,b] [] pos2] X.env=[(false,eval (.Call (.Name "range" p2) [a,b] [] pos2) X.env)]):JE X Ek (.Call (.Name "list" p) [.Call (.Name "range" p2) [a,b] [] pos2] [] pos) (eN lr2 t):=by
 refine PE.weak (AcV hc hg hm hg2 hm2 ha hs hsb hs2) fun σ H Q h=>?_
 obtain ⟨ρ,R,h⟩:=h
 refine ⟨ρ,R,A7 (Same.refl H) (fun x hx=>?_) (A5 h)⟩
 intro vs H1 s1 rx
 obtain ⟨y,e,q⟩:=Q5 hx
 match x,e,rx with
 | [.int i,.int j],e,rx =>
  unfold RepL at rx
  obtain ⟨v,r,rfl,r1,rx⟩:=rx
  unfold RepL at rx
  obtain ⟨v2,r',rfl,r2,rx⟩:=rx
  unfold RepL at rx
  subst rx
  unfold Rep at r1 r2
  subst r1;subst r2
  have e':(if -1000000≤i∧i≤j∧j≤i+1000000∧j<1000000 then some (PyData.list (L1 i (j-i).toNat)) else none)=some y:=e
  by_cases h:-1000000≤i∧i≤j∧j≤i+1000000∧j<1000000
  ·rw[if_pos h]at e'
   cases e'
   refine ⟨i,j,rfl,h.1,h.2.1,h.2.2.1,h.2.2.2,fun p hp=>?_⟩
   have sm:=B0 hp (.lst ((List.range (j-i).toNat).map fun (k:Nat)=>V.int (i+k)))
   refine q _ _ (s1.trans sm) ?_
   unfold Rep
   exact ⟨p,_,rfl,SqL.of A8,ADF i _⟩
  ·rw[if_neg h]at e';cases e'
end
section
variable {prog:Program} {w:World} {A:Around} {E:Value→Shared→Prop} {s:Shared}
theorem ASB {l:Addr} {its:List Value} {k:Nat} {n:Int} {u:Tok} {Q:Value→Shared→Prop} (hl:s.heap.get? l=some {cls:=.type "list",data:=.seq its.toArray k}) (hne:its≠[]) (h0:0≤n) (h1:n≤1000) (hz:its.length≤1000)
  (h:Q (.ref s.heap.objs.size) {s with heap:=s.heap.push {cls:=.type "list",data:=.seq ((List.replicate n.toNat its).flatten).toArray} }):wpAny (model prog w) A (binaryOp .Mult (.ref l) (.int n u)) Q E s:=by
 have hfe:=AK0 its n.toNat #[]
 rw[Array.empty_append]at hfe
 have hem:its.toArray.isEmpty=false:=by simpa using hne
 have hx:its.toArray.size*n.toNat≤1000000:=by
  rw[List.size_toArray]
  exact Nat.le_trans (Nat.mul_le_mul hz (show n.toNat≤1000 by omega)) (by decide)
 refine wpAny_binaryOp_repeat_ref (T:="list") (U:="int") (by decide) ⟨_,hl,rfl⟩ (fun s'=>typeIs_int s' n u) noFill_list_mul F.fills_int_mul F.slot_int_rmul repeat_list F.slot_int_index.lookup
  (call_meets F.slot_int_rmul (typeIs_int s n u) F.entry_int_rmul (F.args_int_rmul_2 _ _) (int___rmul___int_list n u l its.toArray k)
   ⟨hl,rfl,⟨_,hl,rfl⟩,call_meets F.slot_list_mul ⟨_,hl,rfl⟩ F.entry_list_mul (F.args_list_mul_2 _ _)
    (AutoListH.list___mul___list_int_3 l its.toArray k n u (by simp[Builtin.List.listFitsIndex];omega) (by omega) (by simp[Builtin.List.listTooLong,sizeLine];simp at hx;omega))
    ⟨hl,?_⟩⟩)
 rw[hem]
 simp only[Bool.false_eq_true,if_false]
 rw[hfe]
 exact h
end
section
variable {X:Cx} {Ek:EK}
def AdM (K:PySem.W.Frag):R2:=fun x y H Q=>∃a vs n,x=.ref a∧y=.int n∧H a=some (.lst vs)∧vs≠[]∧0≤n∧n≤1000∧vs.length≤1000∧∀p,H p=none→Q (.ref p) (upd H p (.lst (List.replicate n.toNat vs).flatten))
theorem AX7:OpR X (binaryOp .Mult) (AdM X.K):=by
 intro pins s σ H x y v u Q I rx ry h
 obtain ⟨a,vs,n,rfl,rfl,ha,hne,h2,h100,hl,q⟩:=h
 cases rx
 obtain ⟨tk,rfl⟩:=ry
 obtain ⟨its,k,r,ho,hz⟩:=I.lst ha
 have hlen:=r.length
 refine ASB ho (fun z=>hne (r.nil_iff.mp z)) h2 h100 (by rw[←hlen];exact hl) ?_
 refine ⟨.ref s.heap.objs.size,_,I.laid (t':=s.toks) (o:=.lst (List.replicate n.toNat vs).flatten) (fun b ob e=>Heap.get?_push_of_some _ e) (Nat.le_refl _) ⟨?_,_,0,AIO r _,Heap.get?_push_size _ rfl⟩,rfl,q _ (I.hok.fresh (Nat.le_refl _))⟩
 rw[AJZ,sizeLine_eq]
 exact Nat.le_trans (Nat.mul_le_mul (show n.toNat≤1000 by omega) hl) (by decide)
def AeL (te tn:FE):FE:=fun ρ=>(te ρ).bind fun x=>(tn ρ).bind fun y=>match y with
 | .int n=>if 0≤n∧n≤1000 then .ok (.list (List.replicate n.toNat x)) else .bad
 | _=>.bad
theorem AJ3 {α:Type} (x:α):∀n:Nat,(List.replicate n [x]).flatten=List.replicate n x
 | 0=>rfl
 | n+1=>by rw[List.replicate_succ,List.flatten_cons,AJ3 x n,List.replicate_succ];rfl
theorem AH4 {K:PySem.W.Frag} {H:Hp} {t:T} {v:V} (h:Rep K H t v):∀n:Nat,RepL K H (List.replicate n t) (List.replicate n v)
 | 0=>C5
 | n+1=>by rw[List.replicate_succ,List.replicate_succ];exact B6 h (AH4 h n)
theorem AY3 {e n:Expr} {te tn:FE} {lp pos:Pos} (he:JE X Ek e te) (hn:JE X Ek n tn) (hs:starEach [e] X.env=(false,eval e X.env)::starEach [] X.env):PE X (.BinOp (.List [e] lp) .Mult n pos) (lEF X.K Ek (AeL te tn)):=by
 refine PE.weak (AZZ AX7 (AM6 (ABP he AGS hs)) hn) fun σ H Q h=>?_
 obtain ⟨ρ,R,h⟩:=h
 refine ⟨ρ,R,A7 (Same.refl H) (fun x hx=>?_) (A5 h)⟩
 intro v H1 s1 rx
 refine ⟨by rw[sizeLine_eq];show 1≤_;omega,fun p hp=>?_⟩
 have sm:=B0 hp (.lst [v])
 refine ⟨ρ,R.mono (s1.trans sm),A7 (s1.trans sm) (fun y hy=>?_) (A5 hx)⟩
 intro u H2 s2 ry
 cases y with
 | int k =>
  unfold Rep at ry
  subst ry
  by_cases hk:0≤k∧k≤1000
  ·have hy':wR Ek H (if 0≤k∧k≤1000 then Tr.R.ok (PyData.list (List.replicate k.toNat x)) else Tr.R.bad) (AVU X.K H Q):=hy
   rw[if_pos hk]at hy'
   refine ⟨p,[v],k,rfl,rfl,s2 _ _ A8,by simp,hk.1,hk.2,by simp,fun r hr=>?_⟩
   rw[AJ3]
   exact hy' r H2 _ (s1.trans (sm.trans s2)) hr (AH4 (Rep.mono (sm.trans s2) x v rx) _)
  ·have hy':wR Ek H (if 0≤k∧k≤1000 then Tr.R.ok (PyData.list (List.replicate k.toNat x)) else Tr.R.bad) (AVU X.K H Q):=hy
   rw[if_neg hk]at hy'
   exact hy'.elim
 | _=>exact hy.elim
def AbT (ti te:FE):FB:=fun _ ρ acc=>match te ρ with
 | .ok y=>match ti ρ with
  | .ok (.int k)=>if 0≤k∧k<acc.length then .nx ρ (acc.set k.toNat y) else .bad
  | _=>.bad
 | _=>.bad
theorem AJF {K:PySem.W.Frag} {H:Hp} {t:T} {v:V} (r:Rep K H t v):∀{ts:List T} {vs:List V} (n:Nat),RepL K H ts vs→RepL K H (ts.set n t) (vs.set n v)
 | [],vs,n,h=>by
  unfold RepL at h
  subst h
  exact C5
 | a::ts,vs,n,h=>by
  unfold RepL at h
  obtain ⟨w,rr,rfl,r1,r2⟩:=h
  cases n with
  | zero=>exact B6 r r2
  | succ n=>exact B6 r1 (AJF r n r2)
theorem AV4 {n:Nat} {k:Int} (h:0≤k∧k<n):ixN n k=some k.toNat:=by
 unfold ixN
 first
 | (rw[if_pos h.1,if_pos (by omega)])
 | (simp only[h.1,h.2,if_true,and_self])
 | (simp;omega)
theorem AZT {i:Nat} {x:Str} {ie e:Expr} {ti te:FE} {p sp pos:Pos} (hN:X.N[i]?=some x) (hv:Vis X.env.scope x) (hd:(x == ("__debug__" : Str))=false) (hcd:(x == ("__classdict__" : Str))=false) (hi:JE X Ek ie ti) (he:JE X Ek e te)
  (ha:∀v,assign (.Subscript (.Name x p) ie sp) X.env v=(do
   let ov←holding [v] (eval (.Name x p) X.env)
   let iv←holding [v,ov] (eval ie X.env)
   standAt sp
   holding [v,ov,iv] (setItem ov iv v)
   release [v,ov,iv] []))
  (hs:swapsWithSole [.Subscript (.Name x p) ie sp] e pos.line X.env=pure false) (hw:swappedStores [.Subscript (.Name x p) ie sp] e X.env=pure none) (h1:(assignEach [.Subscript (.Name x p) ie sp] X.env).map (·.2)=[assign (.Subscript (.Name x p) ie sp) X.env]) :
  JB X i (.Assign [.Subscript (.Name x p) ie sp] e pos) (AbT ti te):=by
 refine PS.weak (ATH (AO7 he) (AXO (AO4 hN hv hd hcd) (AO7 hi) AQO ha) hs hw h1) fun D σ H hh=>?_
 obtain ⟨a,Hb,ρ,acc,H0,vs,e,o,q⟩:=hh
 subst e
 refine ⟨a,vs,H0,o.free,rfl,ρ,o.env,?_⟩
 unfold AbT at q
 cases er:te ρ with
 | ex c fs=>rw[er]at q;exact q.elim
 | bad=>rw[er]at q;exact q.elim
 | ok y =>
  rw[er]at q
  intro v H1 s1 ry n1
  obtain ⟨w,e1,e2⟩:=o.env.get i _ o.slot
  have e2':=ABE e2
  subst e2'
  refine ⟨.ref a,e1,a,vs,H1,n1,rfl,ρ,o.env.mono s1,?_⟩
  cases ei:ti ρ with
  | ex c fs=>simp only[ei]at q;exact q.elim
  | bad=>simp only[ei]at q;exact q.elim
  | ok z =>
   simp only[ei]at q
   cases z with
   | int k =>
    intro u H2 s2 rk n2
    unfold Rep at rk
    subst rk
    by_cases hk:0≤k∧k<acc.length
    ·simp only[if_pos hk]at q
     have hl:vs.length=acc.length:=o.rep.length
     refine ⟨a,vs,k,k.toNat,rfl,rfl,A8,AV4 (by omega),?_⟩
     rw[AN6]
     exact q σ H2 (vs.set k.toNat v) ⟨o.base.trans (s1.trans s2),n2,o.env.mono (s1.trans s2),AJF (Rep.mono s2 y v ry) _ (RepL.mono (s1.trans s2) acc vs o.rep),o.slot⟩
    ·simp only[if_neg hk]at q
     exact q.elim
   | _=>exact q.elim
def AAW (xs:List T):Bool:=xs.all fun t=>match t with
 | .int _=>true
 | _=>false
theorem ACC {K:PySem.W.Frag} {H H':Hp}:∀{xs:List T} {vs:List V},AAW xs=true→RepL K H xs vs→RepL K H' xs vs
 | [],vs,_,h=>by
  unfold RepL at h
  subst h
  exact C5
 | t::xs,vs,ha,h=>by
  unfold RepL at h
  obtain ⟨w,rr,rfl,r1,r2⟩:=h
  unfold AAW at ha
  rw[List.all_cons,Bool.and_eq_true]at ha
  refine B6 ?_ (ACC (by unfold AAW;exact ha.2) r2)
  have h1:=ha.1
  cases t with
  | int k =>
   unfold Rep at r1
   subst r1
   exact C3
  | _=>simp at h1
def AKG (i j:Nat) (t:FE):FB:=fun a ρ acc=>match t (ρ.set i (some (.list acc))) with
 | .ok (.list xs)=>if AAW xs=true∧J3 i a (ρ.set j (some (.list xs)))=true then .nx (ρ.set j (some (.list xs))) acc else .bad
 | _=>.bad
theorem AXD {i j:Nat} {x:Str} {elt:Expr} {gens:List Comprehension} {scope:Scope} {cp:Pos} {t:FE} {px pos:Pos} (hN:X.N.Nodup) (hj:X.N[j]?=some x) (hx:X.env.scope.names.lookup x=some .local) (he:JCt X elt gens scope cp (lEF X.K Ek t))
  (hs:swapsWith (.ListComp elt gens scope cp) (some (.Name x px)) pos.line X.env=pure true):JB X i (.Assign [.Name x px] (.ListComp elt gens scope cp) pos) (AKG i j t):=by
 refine PS.weak (ANJ hN hj hx he hs) fun D σ H hh=>?_
 obtain ⟨a,Hb,ρ,acc,H0,vs,e,o,q⟩:=hh
 subst e
 obtain ⟨w,e1,e2⟩:=o.env.get i _ o.slot
 have e2':=ABE e2
 subst e2'
 have sm:Same H0 (upd H0 a (.lst vs)):=B0 o.free _
 refine ⟨ρ.set i (some (.list acc)),(o.env.mono sm).put e1 ?_,?_⟩
 ·unfold Rep
  exact ⟨a,vs,rfl,SqL.of A8,RepL.mono sm acc vs o.rep⟩
 unfold AKG at q
 cases er:t (ρ.set i (some (.list acc))) with
 | ex c fs=>rw[er]at q;exact q.elim
 | bad=>rw[er]at q;exact q.elim
 | ok y =>
  rw[er]at q
  cases y with
  | list xs =>
   by_cases hk:AAW xs=true∧J3 i a (ρ.set j (some (.list xs)))=true
   ·simp only[if_pos hk]at q
    intro p G ws sG np rx
    have hpa:p≠a:=fun z=>by
     have:=sG a _ A8
     rw[←z,np]at this
     cases this
    let G0:Hp:=fun b=>if b=a then none else G b
    have g0a:G0 a=none:=if_pos rfl
    have g0n:∀b,b≠a→G0 b=G b:=fun b hb=>if_neg hb
    have s0:Same H0 G0:=fun b u hb=>by
     have hba:b≠a:=fun z=>by rw[z,o.free]at hb;cases hb
     rw[g0n b hba]
     exact sG b u (sm b u hb)
    have n0:G0 p=none:=by rw[g0n p hpa];exact np
    have eG:G=upd G0 a (.lst vs):=by
     funext b
     by_cases hb:b=a
     ·subst hb;rw[A8];exact sG b _ A8
     ·rw[A6 hb,g0n b hb]
    have eH:upd G p (.lst ws)=upd (upd G0 p (.lst ws)) a (.lst vs):=by
     rw[eG,AJG hpa.symm]
    rw[eH]
    have s1:=B0 n0 (.lst ws)
    refine q _ _ vs ⟨o.base.trans (s0.trans s1),by rw[A6 hpa.symm];exact g0a,(o.env.mono (s0.trans s1)).set j ?_,RepL.mono (s0.trans s1) acc vs o.rep,AB7 hk.2⟩
    unfold Rep
    exact ⟨p,ws,rfl,SqL.of A8,ACC hk.1 rx⟩
   ·simp only[if_neg hk]at q
    exact q.elim
  | _=>exact q.elim
theorem AL3 {i:Nat} {x:Str} {e:Expr} {t:FE} {st st2:Stmt} {rest:List Stmt} {tb tb2:FB} {u:FS} {px pos:Pos} (hN:X.N.Nodup) (hi:X.N[i]?=some x) (hx:Loc X.env.scope x) (he:PE X e (lEF X.K Ek t))
  (hs:swapsWith e (some (.Name x px)) pos.line X.env=pure false) (hf:X.fn x=true∨X.env.scope.names.lookup x=some .local)
  (hst:JB X i st tb) (hst2:JB X i st2 tb2) (hr:JSs X Ek rest u):JSs X Ek (.Assign [.Name x px] e pos::st::st2::rest) (B2 (t5 i t (w6 tb tb2)) u):=by
 refine PSs.weak (V5 (AP0 hN hi hx he hs hf) (V5 hst (V5 hst2 hr))) fun D σ H h=>?_
 obtain ⟨ρ,R,h⟩:=h
 by_cases hh:i<ρ.length∧∃r:Ev,∃xs,t ρ=.ok (.list xs)∧∀a,∃ρ' acc,w6 tb tb2 a (ρ.set i (some (E8 a))) xs=.nx ρ' acc∧ρ'.set i (some (.list acc))=r
 ·obtain ⟨hl,r,xs,ht,hr⟩:=hh
  unfold B2 at h
  rw[ADD hl ht hr]at h
  refine ⟨ρ,R,?_⟩
  rw[ht]
  intro l H1 vs1 s1 nl rl
  obtain ⟨ρ',acc,e1,e2⟩:=hr l
  refine ⟨l,H,ρ.set i (some (E8 l)),xs,H1,vs1,rfl,⟨s1,nl,(R.mono s1).set i AK5,rl,List.getElem?_set_self hl⟩,?_⟩
  unfold w6 at e1
  cases em:tb l (ρ.set i (some (E8 l))) xs with
  | bad=>rw[em]at e1;cases e1
  | ct ρ2 acc2=>rw[em]at e1;cases e1
  | nx ρ2 acc2 =>
   rw[em]at e1
   intro σ2 H2 vs2 o2
   refine ⟨l,H,ρ2,acc2,H2,vs2,rfl,o2,?_⟩
   have e1':tb2 l ρ2 acc2=.nx ρ' acc:=e1
   rw[e1']
   intro σ' H0 vs o
   have sm:Same H (upd H0 l (.lst vs)):=o.base.trans (B0 o.free _)
   refine ⟨r,?_,K5 sm h⟩
   obtain ⟨v,q1,q2⟩:=o.env.get i _ o.slot
   have q3:=ABE q2
   subst q3
   rw[←e2]
   refine (o.env.mono (B0 o.free _)).put q1 ?_
   unfold Rep
   exact ⟨l,vs,rfl,SqL.of A8,RepL.mono (B0 o.free _) acc vs o.rep⟩
 ·unfold B2 t5 at h
  rw[dif_neg hh]at h
  exact h.elim
end
section
variable {X:Cx} {Ek:EK}
def Ad9:List T→Option T
 | [.int i,.int j]=>some (.int (if j<i then j else i))
 | _=>none
theorem AWI {K:PySem.W.Frag}:APK K (fun xs H Q=>∃i j,xs=[.int i,.int j]∧Q (.int (if j<i then j else i)) H) Ad9:=fun xs ts a H Q r e q=>by
 match ts,e,r with
 | [.int i,.int j],e,r =>
  unfold RepL at r
  obtain ⟨v,r',rfl,r1,r⟩:=r
  unfold RepL at r
  obtain ⟨v2,r'',rfl,r2,r⟩:=r
  unfold RepL at r
  subst r
  unfold Rep at r1 r2
  subst r1;subst r2
  cases e
  exact ⟨i,j,rfl,q _ H (Same.refl H) C3⟩
theorem AXT {e e':Expr} {t:FA} {p pos:Pos} (hc:X.calm=true) (hm:X.mg "min" = none) (hg:Gl X "min") (ha:JA X Ek [e,e'] t) (he:starEach [e,e'] X.env=(false,eval e X.env)::starEach [e'] X.env) (hpl:(backTo pos (starEach [e'] X.env)).any (·.1)=false):JE X Ek (.Call (.Name "min" p) [e,e'] [] pos) (eN Ad9 t) :=
 ADT (AMR hc) AWI (by decide +kernel) (by decide +kernel) (by decide +kernel) hm hg ha he hpl
end
end Tr
end
section
namespace PySem
open AutoSeq1 (wpAny_loadPart')
end PySem
namespace Tr
open PySem hiding start
open PyProof.Rows hiding St
open L2 PySem.Spec
def okD (P:Program) (w:World) (h:Heap) (D:Addr) (n:Nat) (as:List T):Prop:=∃kvs:List (Option Int × Value),h.DictOf (AEA P w) D kvs∧kvs.length≤n∧∀k,k∈kvs.map (·.1)↔AD2 k∈as
theorem okD.up {P:Program} {w:World} {h:Heap} {D:Addr} {n m:Nat} {as:List T} (x:okD P w h D n as) (hm:n≤m):okD P w h D m as:=by
 obtain ⟨kvs,h1,h2,h3⟩:=x
 exact ⟨kvs,h1,Nat.le_trans h2 hm,h3⟩
theorem ALB {kvs:List (Option Int × Value)} {k:Option Int} {v:Value} {x:Option Int}:x∈(stored kvs k v).map (·.1)↔x=k∨x∈kvs.map (·.1):=by
 unfold stored
 by_cases h:(kvs.any fun kv=>decide (kv.1=k))=true
 ·rw[if_pos h,List.map_map]
  have e:(kvs.map ((·.1)∘fun kv=>if kv.1=k then (kv.1,v) else kv))=kvs.map (·.1):=by
   apply List.map_congr_left
   intro a _
   show (if a.1=k then (a.1,v) else a).1=a.1
   split<;>rfl
  rw[e]
  constructor
  ·exact .inr
  ·rintro (rfl | z)
   ·obtain ⟨a,ha,e2⟩:=List.any_eq_true.mp h
    exact List.mem_map.mpr ⟨a,ha,of_decide_eq_true e2⟩
   ·exact z
 ·rw[if_neg h,List.map_append,List.mem_append]
  show _∨x∈[k]↔_
  rw[List.mem_singleton]
  exact Or.comm
theorem ARB {a b:Option Int} (h:AD2 a=AD2 b):a=b:=by
 cases a<;>cases b<;>first | rfl | (cases h;done) | (unfold AD2 at h;injection h with h;rw[h])
theorem ATD {K:PySem.W.Frag} {H:Hp} {k:Option Int} {v:V} {u:Value} (r:Rep K H (AD2 k) v) (q:RelV v u):AXF k u=true:=by
 cases k with
 | none=>unfold AD2 Rep at r;subst r;cases q;rfl
 | some i=>unfold AD2 Rep at r;subst r;obtain ⟨t,rfl⟩:=q;simp[AXF,Value.isInt]
theorem AC6 {prog:Program} {w:World} {A:Around} {R:Result→Shared→Prop} {s:Shared} {kx vx target:Expr} {gens:List Comprehension} {scope:Scope} {cpos:Pos} {d:Nat} {ifs:List Expr} {ip:Pos} {it acc:Value} {env:Env} {B:Sem Unit} (hB:compTurn (.DictComp kx vx gens scope cpos) d it acc env=AGQ (.DictComp kx vx gens scope cpos) d target ifs ip it acc env B) (I:Nat→Shared→Prop)
  (turn:∀n s,I n s→∃E0:Value→Shared→Prop,(∀e s',E0 e s'→False)∧wpAny (model prog w) A (pyNext it) (fun r s₁=>match r with
   | none=>R (.ok .next) s₁
   | some v=>wpAny (model prog w) A (letOwnedTupleGo target it v) (fun _ s₁'=>wpAny (model prog w) A (assign target env v) (fun _ s₂ =>
     wpAny (model prog w) A (forIn ifs true fun c r=>if r=true then do let ok←isTrue c env (eval c env);pure (ForInStep.yield ok) else pure (ForInStep.yield r)) (fun ok s₃ =>
      if ok=true then wpAny (model prog w) A B (fun _ s₅=>∃m,m<n∧I m s₅) E0 s₃
      else ∃m,m<n∧I m s₃) E0 s₂) E0 s₁') E0 s₁) E0 s)
  (n:Nat) (h:I n s):codeAny (model prog w) A (.compLoop (.DictComp kx vx gens scope cpos) d it acc env) R s:=by
 refine codeAny_loop rfl I (fun n s hI=>?_) n h
 obtain ⟨E0,no,tn⟩:=turn n s hI
 show wpAny _ A ((compTurn (.DictComp kx vx gens scope cpos) d it acc env).onRaise (fun x=>do noteFrame x env;theTreesLotGoes x)) _ _ s
 have fl:∀{E1:Value→Shared→Prop} (e:Value) (s':Shared),E0 e s'→E1 e s':=fun e s' z=>(no e s' z).elim
 refine wpAny_noted ?_
 rw[hB]
 unfold AGQ
 refine wpAny_bind (wpAny_standAt (wpAny_bind (wpAny_mono tn (fun r s₁ h₁=>?_) fl)))
 cases r with
 | none=>exact wpAny_pure h₁
 | some v =>
  refine wpAny_bind (wpAny_mono h₁ (fun _ s₁' h₁'=>wpAny_bind (wpAny_mono h₁' (fun _ s₂ h₂=>wpAny_bind (wpAny_mono h₂ (fun ok s₃ h₃=>?_) fl)) fl)) fl)
  cases ok with
  | false=>exact wpAny_pure ⟨rfl,h₃⟩
  | true=>exact wpAny_bind (wpAny_mono h₃ (fun _ s₅ h₅=>wpAny_pure ⟨rfl,h₅⟩) fl)
section
variable {X:Cx} {Ek:EK}
theorem AI8 {kx vx tg:Expr} {gens:List Comprehension} {scope:Scope} {cpos:Pos} {ifs:List Expr} {ip:Pos} {itA D:Addr} {k:Nat} {test:FT} {te:FE} {pins:List (Addr × Obj)} {ρ1:Ev} {ts zs:List T} {R:Result→Shared→Prop} {J:It} {fp:List Addr} {tn:Nat→Heap→Prop} {H1:Hp} {s1:Shared} {σ1:L2.St} {xs:List T} {n0:Nat}
  (hcalm:X.calm=true) (hxe:∀e s',X.xe e s'→False)
  (hB:compTurn (.DictComp kx vx gens scope cpos) 1 (.ref itA) (.ref D) X.env=AGQ (.DictComp kx vx gens scope cpos) 1 tg ifs ip (.ref itA) (.ref D) X.env (do let kv←eval kx X.env;let vv←holding [kv] (eval vx X.env);standAt {kx.pos with endLine:=vx.pos.endLine,endCol:=vx.pos.endCol};holding [kv,vv] (dictSet D kv vv)))
  (hg:JG X tg (Tr.gName k)) (ht:JTs X Ek0 ifs test) (he:JE X Ek0 kx te) (hvx:JE X Ek0 vx (eC (.bool true))) (hkz:∀z∈zs,∃k,z=AD2 k) (TT:Turn X.prog X.w X.K tg J fp itA tn) (iO:w9 X.K J ts H1) (hk:ρ1[k]?=some none)
  (I1:Inv X pins σ1 H1 s1) (R1:RepEnv X.K H1 ρ1 σ1) (st1:tn 0 s1.heap) (f1:∀b∈fp,AHB X pins H1 b) (fD:AHB X pins H1 D) (nD:∀b∈fp,D≠b)
  (pl:okD X.prog X.w s1.heap D n0 xs) (hz:C4 (Tr.gName k) test te ρ1 ts=.ok zs) (hlen:n0+ts.length≤1000000)
  (hR:∀s' σ' H',Inv X pins σ' H' s'→H' D=none→okD X.prog X.w s'.heap D (n0+ts.length) (xs++zs)→Same H1 H'→RepEnv X.K H' ρ1 σ'→R (.ok .next) s') :
  codeAny (model X.prog X.w) X.A (.compLoop (.DictComp kx vx gens scope cpos) 1 (.ref itA) (.ref D) X.env) R s1:=by
 have stat:∀{H':Hp},(∀b∈D::fp,H' b=none)→∀b∈D::fp,AHB X pins H' b:=fun hn b hb=>by
  rcases List.mem_cons.mp hb with q | q
  ·rw[q];exact ⟨hn D List.mem_cons_self,fD.2⟩
  ·exact ⟨hn b hb,(f1 b q).2⟩
 refine AC6 hB (fun n s'=>∃(i:Nat) (Hs:Hp) (σs:L2.St) (as:List T) (ds:List T),i≤ts.length∧n=ts.length+1-i∧Inv X pins σs Hs s'∧tn i s'.heap∧(∀b∈D::fp,Hs b=none) ∧
  okD X.prog X.w s'.heap D (n0+i) as∧(∀z∈ds,∃k,z=AD2 k)∧Same H1 Hs∧RepEnv X.K Hs ρ1 σs∧C4 (Tr.gName k) test te ρ1 (ts.drop i)=.ok ds∧as++ds=xs++zs) ?_ (ts.length+1)
  ⟨0,H1,σ1,xs,zs,Nat.zero_le _,rfl,I1,st1,fun b hb=>?_,pl,hkz,Same.refl H1,R1,hz,rfl⟩
 ·rintro n s' ⟨i,Hs,σs,as,ds,hi',rfl,Is,st,fr,hpl,hdk,sHs,Rs,hw,hsum⟩
  refine ⟨X.xe,hxe,?_⟩
  obtain ⟨kvs,⟨oA,esA,epA,eA,rA⟩,hkl,hkm⟩:=id hpl
  have Is':=Is.pinned (fp:=[D]) (fun b hb=>stat fr b (by simp at hb;subst hb;exact List.mem_cons_self)) (fun b hb=>by
   simp at hb;subst hb
   exact ⟨_,eA,fun v z=>by rw[rA.2.1]at z;cases z⟩)
  have fpp:∀b∈fp,AHB X (pins++M5 [D] s'.heap) Hs b:=fun b hb=>by
   obtain ⟨p1,p2,p3,p4,p5,p6⟩:=stat fr b (List.mem_cons_of_mem _ hb)
   refine ⟨p1,p2,p3,p4,p5,fun p hp z=>?_⟩
   rw[←List.append_assoc]at hp
   rcases List.mem_append.mp hp with hp | hp
   ·exact p6 p hp z
   ·obtain ⟨q,_⟩:=O9 hp
    have q':p.1=D:=by simpa using q
    exact nD b hb (q'.symm.trans z)
  by_cases hlt:i<ts.length
  ·have ht':ts[i]?=some ts[i]:=List.getElem?_eq_getElem hlt
   obtain ⟨go,yl⟩:=(iO i Hs sHs).1 _ ht'
   refine thn (TT.item X rfl rfl rfl hcalm i _ s' σs Hs X.xe Is' fpp st go) fun r s4 ⟨u,hr,h4⟩=>?_
   subst hr
   refine thn h4 fun _ s5 ⟨x,H5,I5,r5,y5,st5,fr5⟩=>?_
   obtain ⟨sy5,rx⟩:=yl x H5 y5
   have pinA:=I5.pin (D,_) (List.mem_append_right _ (List.mem_append_right _ (B1 (List.mem_singleton.mpr rfl) eA)))
   have fr5':∀b∈D::fp,H5 b=none:=fun b hb=>by
    rcases List.mem_cons.mp hb with q | q
    ·rw[q];exact pinA.2.1
    ·exact fr5 b q
   have I5':=I5.unpinned.pinned (stat fr5') (fun b hb=>by
    rcases List.mem_cons.mp hb with q | q
    ·subst q;exact ⟨_,pinA.1,fun v z=>by rw[rA.2.1]at z;cases z⟩
    ·exact TT.obj _ _ st5 b q)
   rw[List.drop_eq_getElem_cons hlt,C4]at hw
   have eg:Tr.gName k ts[i] ρ1=some (ρ1.set k (some ts[i])):=rfl
   simp only[eg]at hw
   refine thn (hg _ s5 σs H5 x u (fun σ' H'=>H'=H5∧RepEnv X.K H5 (ρ1.set k (some ts[i])) σ') I5' r5 ⟨ts[i],ρ1,_,rx,Rs.mono sy5,eg,fun σ' R'=>⟨rfl,R'⟩⟩) fun _ s6 ⟨σ6,H6,I6,e6,R6⟩=>?_
   subst e6
   cases et:test (ρ1.set k (some ts[i])) with
   | bad=>simp only[et]at hw;cases hw
   | ex c fs=>simp only[et]at hw;cases hw
   | ok kb =>
    refine thn (ht _ s6 σ6 H6 (fun b H'=>b=kb∧Same H6 H') I6 ⟨_,R6,by rw[et];exact fun H' sm=>⟨rfl,sm⟩⟩) fun b s7 ⟨H7,I7,eb,s67⟩=>?_
    subst eb
    have back:∀{H8:Hp},Same H6 H8→RepEnv X.K H8 ρ1 σ6:=fun {H8} sm=>by
     refine ⟨by have:=R6.len;rw[List.length_set]at this;exact this,fun a t q=>?_⟩
     have hak:k≠a:=fun z=>by rw[←z,hk]at q;cases q
     obtain ⟨v,e1,e2⟩:=R6.get a t (by rw[List.getElem?_set_ne hak];exact q)
     exact ⟨v,e1,Rep.mono sm t v e2⟩
    have keepA:∀{s8:Shared} {H8:Hp},Inv X (pins++M5 (D::fp) s5.heap) σ6 H8 s8→tn (i+1) s8.heap∧(∀b∈D::fp,H8 b=none)∧okD X.prog X.w s8.heap D (n0+i) as:=fun {s8 H8} I8=>by
     refine ⟨TT.keep _ _ _ st5 fun b hb o e=>(I8.pin (b,o) (List.mem_append_right _ (List.mem_append_right _ (B1 (List.mem_cons_of_mem _ hb) e)))).1,fun b hb=>?_,kvs,⟨oA,esA,epA,(I8.pin (D,_) (List.mem_append_right _ (List.mem_append_right _ (B1 List.mem_cons_self pinA.1)))).1,rA⟩,hkl,hkm⟩
     rcases List.mem_cons.mp hb with q | q
     ·subst q;exact (I8.pin (b,_) (List.mem_append_right _ (List.mem_append_right _ (B1 List.mem_cons_self pinA.1)))).2.1
     ·obtain ⟨o,e,d⟩:=TT.obj _ _ st5 b q
      exact (I8.pin (b,o) (List.mem_append_right _ (List.mem_append_right _ (B1 hb e)))).2.1
    cases b with
    | false =>
     rw[if_neg Bool.false_ne_true]
     simp only[et]at hw
     obtain ⟨k1,k2,k3⟩:=keepA I7
     exact ⟨ts.length+1-(i+1),by omega,i+1,H7,σ6,as,ds,hlt,rfl,I7.unpinned,k1,k2,k3.up (by omega),hdk,sHs.trans (sy5.trans s67),back s67,hw,hsum⟩
    | true =>
     rw[if_pos rfl]
     simp only[et]at hw
     cases ee:te (ρ1.set k (some ts[i])) with
     | bad=>simp only[ee]at hw;cases hw
     | ex c fs=>simp only[ee]at hw;cases hw
     | ok y =>
      simp only[ee]at hw
      cases ec:C4 (Tr.gName k) test te ρ1 (ts.drop (i+1)) with
      | bad=>rw[ec]at hw;cases hw
      | ex c fs=>rw[ec]at hw;cases hw
      | ok es =>
       rw[ec]at hw
       have hw':y::es=ds:=by injection hw
       subst hw'
       obtain ⟨kk,hkk⟩:=hdk y List.mem_cons_self
       refine wpAny_bind (thn (he _ s7 σ6 H7 (fun v H'=>Same H7 H'∧Rep X.K H' y v) I7 ⟨_,R6.mono s67,by rw[ee];exact fun v H' sm r=>⟨sm,r⟩⟩) fun u8 s8 ⟨v8,H8,I8,r8,s78,rp⟩=>?_)
       refine wpAny_bind (wpAny_holding (thn (hvx _ s8 σ6 H8 (fun v H'=>Same H8 H') I8 ⟨_,R6.mono (s67.trans s78),fun v H' sm r=>sm⟩) fun u9 s9 ⟨v9,H9,I9,r9,s89⟩=>?_))
       refine wpAny_bind (wpAny_standAt ?_)
       obtain ⟨k1,k2,kvs',hD',hl',hm'⟩:=keepA I9
       subst hkk
       refine wpAny_holding (wpAny_dictSet_pairs (knd:=AEA X.prog X.w) (ATD rp r8) hD' (fun h10 hd10 hs10=>?_) (by have:sizeLine=16777216:=sizeLine_eq;omega))
       have I10:Inv X pins σ6 H9 {s9 with heap:=h10,toks:=s9.toks+1}:=by
        obtain ⟨p1,p2,p3,p4,p5,p6⟩:=stat k2 D List.mem_cons_self
        exact I9.unpinned.turned (fun b o hb e=>hs10.extBut b o hb e) p1 p2 p4 p5 p6
       refine ⟨ts.length+1-(i+1),by omega,i+1,H9,σ6,as++[AD2 kk],es,hlt,rfl,I10,TT.keep _ _ _ k1 fun b hb o e=>hs10.extBut b o (Ne.symm (nD b hb)) e,k2,⟨_,hd10,by have:=stored_length_le kvs' kk u9;omega,fun k'=>?_⟩,fun z hz'=>hdk z (List.mem_cons_of_mem _ hz'),sHs.trans (sy5.trans (s67.trans (s78.trans s89))),back (s67.trans (s78.trans s89)),ec,by rw[List.append_assoc];exact hsum⟩
       rw[ALB,hm' k',List.mem_append,List.mem_singleton]
       constructor
       ·rintro (rfl | z)
        ·exact .inr rfl
        ·exact .inl z
       ·rintro (z | z)
        ·exact .inr z
        ·exact .inl (ARB z)
  ·have ei:i=ts.length:=by omega
   refine thn (TT.done X rfl rfl rfl hcalm i _ s' σs Hs X.xe Is' fpp st ((iO i Hs sHs).2 (by omega))) fun r s4 ⟨hr,I4⟩=>?_
   subst hr
   have pinA:=I4.pin (D,_) (List.mem_append_right _ (List.mem_append_right _ (B1 (List.mem_singleton.mpr rfl) eA)))
   rw[List.drop_eq_nil_of_le (by omega),C4]at hw
   have hw':([]:List T)=ds:=by injection hw
   subst hw'
   rw[List.append_nil]at hsum
   exact hR s4 σs Hs I4.unpinned (fr D List.mem_cons_self) (hsum▸⟨kvs,⟨oA,esA,epA,pinA.1,rA⟩,by omega,hkm⟩) sHs Rs
 ·rcases List.mem_cons.mp hb with q | q
  ·rw[q];exact fD.1
  ·exact (f1 b q).1
end
def ABD:T→Bool
 | .none=>true
 | .int _=>true
 | _=>false
theorem AIV {t:T} (h:ABD t=true):∃k,t=AD2 k:=by
 cases t with
 | none=>exact ⟨none,rfl⟩
 | int i=>exact ⟨some i,rfl⟩
 | _=>cases h
def AKZ (te:FE):FE:=fun ρ=>(te ρ).bind fun y=>if ABD y=true then .ok y else .bad
theorem AY8 {X:Cx} {Ek:EK} {e:Expr} {t:FE} (h:JE X Ek e t):JE X Ek e (AKZ t):=by
 refine PE.weak h fun σ H Q q=>?_
 obtain ⟨ρ,R,q⟩:=q
 refine ⟨ρ,R,A7 (Same.refl H) (fun y hy=>?_) (A5 q)⟩
 by_cases k:ABD y=true
 ·rw[if_pos k]at hy;exact hy
 ·rw[if_neg k]at hy;exact hy.elim
theorem AAK {g:FG} {test:FT} {te:FE} {ρ:Ev}:∀(us zs:List T),C4 g test (AKZ te) ρ us=.ok zs→∀z∈zs,∃k,z=AD2 k
 | [],zs,e=>by rw[C4]at e;cases e;exact fun z hz=>(List.not_mem_nil hz).elim
 | u::us,zs,e=>by
  rw[C4]at e
  cases eg:g u ρ with
  | none=>simp only[eg]at e;cases e
  | some ρ1 =>
   simp only[eg]at e
   cases et:test ρ1 with
   | bad=>simp only[et]at e;cases e
   | ex c fs=>simp only[et]at e;cases e
   | ok b =>
    simp only[et]at e
    cases b with
    | false=>exact AAK us zs e
    | true =>
     cases ee:AKZ te ρ1 with
     | bad=>simp only[ee]at e;cases e
     | ex c fs=>simp only[ee]at e;cases e
     | ok x =>
      simp only[ee]at e
      have hx:ABD x=true:=by
       unfold AKZ at ee
       cases e0:te ρ1 with
       | bad=>rw[e0]at ee;cases ee
       | ex c fs=>rw[e0]at ee;cases ee
       | ok y =>
        rw[e0]at ee
        have ee':(if ABD y=true then R.ok y else R.bad)=R.ok x:=ee
        by_cases k:ABD y=true
        ·rw[if_pos k]at ee';injection ee' with ee';rw[←ee'];exact k
        ·rw[if_neg k]at ee';cases ee'
      cases ec:C4 g test (AKZ te) ρ us with
      | bad=>rw[ec]at e;cases e
      | ex c fs=>rw[ec]at e;cases e
      | ok ys =>
       rw[ec]at e
       have e':x::ys=zs:=by injection e
       subst e'
       intro z hz
       rcases List.mem_cons.mp hz with rfl | hz
       ·exact AIV hx
       ·exact AAK us ys ec z hz
theorem ATR {P:Program} {w:World} {H:Hp} {h:Heap} {a:Addr} {n:Nat} {ks:List T} (hs:(a == sysModules)=false) (x:okD P w h a n ks):ObjOk P w H h a (AT2 ks a):=by
 obtain ⟨kvs,hd,_,hm⟩:=x
 have hmo:AaA h a (valueAt kvs):=hd.mapOf
 refine ⟨⟨hs,valueAt kvs,hmo,fun k=>?_⟩,?_,fun h1 h2 ⟨_,f,⟨o,es,ep,e1,e2⟩,e3⟩ st=>⟨hs,f,⟨o,es,ep,st o e1,e2⟩,e3⟩⟩
 ·rw[←hm k]
  unfold valueAt
  rw[Option.isSome_map,List.find?_isSome]
  constructor
  ·rintro ⟨p,hp,e⟩
   exact List.mem_map.mpr ⟨p,hp,of_decide_eq_true e⟩
  ·intro z
   obtain ⟨p,hp,e⟩:=List.mem_map.mp z
   exact ⟨p,hp,decide_eq_true e⟩
 ·obtain ⟨o,es,ep,e1,_⟩:=hd
  exact ⟨o,e1⟩
def AHK (kx vx tg iter:Expr) (ifs:List Expr) (tg2 iter2:Expr) (ifs2:List Expr) (scope:Scope) (pos:Pos) (acc:Value) (env:Env):Sem Unit:=do
 let x←eval iter2 env
 standAt iter2.pos
 let x←foldedSetIterable iter2 env x
 let _←runOwn (.compStart (.DictComp kx vx [⟨tg,iter,ifs,0⟩,⟨tg2,iter2,ifs2,0⟩] scope pos) 1 (←holding [x] (pyIter x)) acc env) env
theorem AaZ (kx vx tg iter:Expr) (ifs:List Expr) (tg2 iter2:Expr) (ifs2:List Expr) (scope:Scope) (pos:Pos) (it acc:Value) (env:Env):compTurn (.DictComp kx vx [⟨tg,iter,ifs,0⟩,⟨tg2,iter2,ifs2,0⟩] scope pos) 0 it acc env=AGQ (.DictComp kx vx [⟨tg,iter,ifs,0⟩,⟨tg2,iter2,ifs2,0⟩] scope pos) 0 tg ifs iter.pos it acc env (AHK kx vx tg iter ifs tg2 iter2 ifs2 scope pos acc env):=by
 unfold AGQ AHK
 simp only[bind_assoc,pure_bind]
 rfl
section
variable {prog:Program} {w:World} {A:Around} {R:Result→Shared→Prop} {s:Shared}
theorem AI6 {kx vx tg iter tg2 iter2:Expr} {ifs ifs2:List Expr} {scope:Scope} {pos:Pos} {it acc:Value} {env:Env} (h0:codeAny (model prog w) A (.compLoop (.DictComp kx vx [⟨tg,iter,ifs,0⟩,⟨tg2,iter2,ifs2,0⟩] scope pos) 1 it acc env) R s)
  (h:wpAny (model prog w) A (pyIter it) (fun it' s'=>codeAny (model prog w) A (.compLoop (.DictComp kx vx [⟨tg,iter,ifs,0⟩,⟨tg2,iter2,ifs2,0⟩] scope pos) 1 it' acc env) R s') (notedBy (model prog w) A env fun x s'=>R (.error x) s') s):codeAny (model prog w) A (.compStart (.DictComp kx vx [⟨tg,iter,ifs,0⟩,⟨tg2,iter2,ifs2,0⟩] scope pos) 1 it acc env) R s:=by
 refine codeAny_of_tree (wpAny_notedAt (pos:=theWindowsPlace) ?_)
 unfold compStart
 show wpAny _ _ (ask >>= _) _ _ _
 refine wpAny_bind (wpAny_askSetting (wpAny_ite ?_))
 split
 ·exact wpAny_bind (wpAny_pure (wpAny_pure ⟨rfl,h0⟩))
 ·exact wpAny_bind (wpAny_rule (wpAny_bind (wpAny_standAt (wpAny_bind (wpAny_mono h (fun it' s' h'=>wpAny_pure ⟨rfl,h'⟩) fun _ _ x=>x)))))
end
def AIH (it:FI) (sel:List (Option Nat)) (g:FG) (test:FT) (it2:FI) (k:Nat) (test2:FT) (te:FE):FE:=fun ρ=>(it ρ).bind fun ts =>
 if ts.length≤1000 then (m6 g test it2 k test2 (AKZ te) (G1 sel ρ) ts).bind fun xs=>.ok (z9 xs) else .bad
def JDt (X:Cx) (kx vx:Expr) (gens:List Comprehension) (scope:Scope) (pos:Pos) (te:TE):Prop :=
 ∀(p0:Pos) (use:Option (Value→Sem Unit)) (QQ:Value→Shared→Prop) (pins:List (Addr × Obj)) (s:Shared) (σ:L2.St) (H:Hp) (Q:VK),Inv X pins σ H s→te σ H Q→AeF X pins σ Q use QQ →
  wpAny (model X.prog X.w) X.A (comprehension (.DictComp kx vx gens scope pos) scope X.env p0 newDict (firstAsync gens) (firstIter gens X.env) use) QQ X.xe s
inductive CLoopD (Xc:Cx) (tn:Nat→Heap→Prop) (D:Addr) (fp:List Addr) (H2:Hp) (ρc:Ev) (len:Nat) (W:Nat→List T→Prop) (n:Nat) (s':Shared):Prop
 | mk (i:Nat) (Hs:Hp) (σs:L2.St) (xs:List T) (hi:i≤len) (hn:n=len+1-i) (I:Inv Xc [] σs Hs s') (st:tn i s'.heap) (fr:∀b∈D::fp,Hs b=none)
   (pl:okD Xc.prog Xc.w s'.heap D (1000*i) xs) (sm:Same H2 Hs) (Rs:RepEnv Xc.K Hs ρc σs) (hw:W i xs):CLoopD Xc tn D fp H2 ρc len W n s'
section
variable {X:Cx} {Ek:EK}
theorem APV {kx vx tg iter tg2 iter2:Expr} {ifs ifs2:List Expr} {it2:FI} {k:Nat} {test2:FT} {scope:Scope} {pos:Pos} {Nc:List Str} {it:FI} {sel:List (Option Nat)} {g:FG} {test:FT} {te:FE}
  (hcalm:X.calm=true) (hi:JI X Ek tg iter it)
  (hfree:∀x,(x,NameKind.free)∈scope.names→X.env.kindOf x=some .cell∨X.env.kindOf x=some .free)
  (hcell:∀y∈scope.names,y.2≠.cell) (hkind:scope.kind=.function)
  (hnames:∀y∈scope.names,y.2=.local→scope.names.lookup y.1=some .local)
  (hlen:sel.length=Nc.length)
  (hsel:∀i j:Nat,sel[i]?=some (some j)→∃x,Nc[i]?=some x∧X.N[j]?=some x∧scope.names.lookup x=some .free)
  (hkeep:∀t ρ ρ1,g t ρ=some ρ1→ρ1.length=ρ.length∧∀i j:Nat,sel[i]?=some (some j)→ρ1[i]?=ρ[i]?)
  (hg:∀cl C s H fp,JG (B8 X scope cl C Nc s H fp) tg g)
  (ht:∀cl C s H fp,JTs (B8 X scope cl C Nc s H fp) Ek0 ifs test)
  (hi2:∀cl C s H fp,JI (B8 X scope cl C Nc s H fp) Ek0 tg2 iter2 it2)
  (hg2:∀cl C s H fp,JG (B8 X scope cl C Nc s H fp) tg2 (Tr.gName k))
  (ht2:∀cl C s H fp,JTs (B8 X scope cl C Nc s H fp) Ek0 ifs2 test2)
  (he:∀cl C s H fp,JE (B8 X scope cl C Nc s H fp) Ek0 kx te) (hvx:∀cl C s H fp,JE (B8 X scope cl C Nc s H fp) Ek0 vx (eC (.bool true)))
  (hs2:∀cl C s H fp x,foldedSetIterable iter2 (B8 X scope cl C Nc s H fp).env x=pure x)
  (hselk:sel[k]?=some none) (hk1:∀t ρ ρ1,g t ρ=some ρ1→ρ1[k]?=ρ[k]?)
  (hs:∀x,foldedSetIterable iter X.env x=pure x) :
  JDt X kx vx [⟨tg,iter,ifs,0⟩,⟨tg2,iter2,ifs2,0⟩] scope pos (lE X.K Ek (AIH it sel g test it2 k test2 te)):=by
 intro p0 use QQ pins s σ H Q I h hfin
 obtain ⟨ρ,R0,h⟩:=h
 have kindL:∀x,X.env.kindOf x=X.env.scope.names.lookup x:=fun x=>rfl
 obtain ⟨cl,hclos,hcl1,hcl2⟩:=ADU (scope:=scope) (env:=X.env) fun x hx=>I.ok.has x (hfree x hx)
 refine wpAny_comprehension_free (use:=use) rfl hs hclos hkind hnames ?_
 refine thn (hi pins s σ H _ I ⟨ρ,R0,A7 (Same.refl H) (fun ts hts J H' sH iO=>(⟨sH,ts,iO,hts⟩:Same H H'∧∃ts,w9 X.K J ts H'∧_)) (A5 h)⟩) fun v s1 h1=>thn h1 fun itv s2 h2=>?_
 obtain ⟨it',fp,tn,J,H2,rfl,I2,TT,st2,f2,sH,ts,iO,h⟩:=h2
 by_cases hts:ts.length≤1000
 ·rw[if_pos hts]at h
  have R2:RepEnv X.K H2 ρ σ:=R0.mono sH
  refine wpAny_newObj_type (wpAny_newFunctionEnv hcell (by intro y hy;simp at hy) (fun h₁ hns₁ hsb₁=>?_) hkind)
  dsimp only at hns₁ hsb₁ ⊢
  generalize hP:s2.heap.push {cls:=.type "dict",dict:=none,data:=.dict #[] }=P2 at hns₁ hsb₁ ⊢
  have hC:P2.objs.size=s2.heap.objs.size+1:=by rw[←hP,Heap.size_push]
  have hDC:s2.heap.objs.size<P2.objs.size:=by rw[hC];exact Nat.lt_succ_self _
  have old:∀b o,s2.heap.get? b=some o→h₁.get? b=some o:=fun b o e=>by
   have hb:=Heap.lt_size e
   exact hsb₁.extBut b o (Nat.ne_of_lt (by rw[hC];exact Nat.lt_succ_of_lt hb)) (Heap.get?_push_of_some _ (hP▸Heap.get?_push_of_some _ e))
  have hD:h₁.get? s2.heap.objs.size=some {cls:=.type "dict",dict:=none,data:=.dict #[] } :=
   hsb₁.extBut _ _ (Nat.ne_of_lt hDC) (Heap.get?_push_of_some _ (hP▸Heap.get?_push_size _ rfl))
  have freshD:H2 s2.heap.objs.size=none:=I2.hok.fresh (Nat.le_refl _)
  have hsys:(s2.heap.objs.size == sysModules)=false:=by
   obtain ⟨o,es,ep,e,_⟩:=I2.mod.glob.keeps I2.bk
   have h3:(3:Nat)<s2.heap.objs.size:=Heap.lt_size e
   exact beq_eq_false_iff_ne.mpr (fun z=>by rw[z]at h3;exact absurd h3 (by decide))
  have freshC:H2 P2.objs.size=none:=I2.hok.fresh (by omega)
  have noC:s2.heap.get? P2.objs.size=none:=Heap.get?_none_of_le (by omega)
  let Xc:=B8 X scope cl P2.objs.size Nc s2 H2 fp
  have okc:Xc.Ok:=by
   refine ⟨I2.ok.mod,by show (relabel scope X.env).kind=_;exact hkind,I2.ok.glob,I2.ok.blt,by show s2.heap.objs.size≤P2.objs.size;omega,fun x y c h1 h2=>I2.ok.inj x y c (hcl1 x c h1) (hcl1 y c h2),fun x hx=>?_,fun x c h _=>(Bool.false_ne_true h).elim,fun _=>I2.ok.hd hcalm,I2.ok.frames,.inl rfl,fun b hb=>⟨?_,fun x c e z=>?_⟩,I2.bs,Nat.le_trans I2.ok.bsz I2.sz,fun b o e hb=>?_,fun b hb z=>?_,I2.stack,I2.stkFree⟩
   ·have hx':(relabel scope X.env).names.lookup x=some .cell∨(relabel scope X.env).names.lookup x=some .free:=hx
    have hm:(x,NameKind.cell)∈scope.names∨(x,NameKind.free)∈scope.names:=by
     rcases hx' with q | q
     ·exact P3 (.inl rfl) q
     ·exact P3 (.inr rfl) q
    rcases hm with q | q
    ·exact absurd rfl (hcell _ q)
    ·exact hcl2 x q
   ·obtain ⟨o,e,_⟩:=TT.obj 0 _ st2 b hb
    exact Nat.ne_of_lt (Nat.lt_trans (Heap.lt_size e) hDC)
   ·exact (f2 b hb).2.2.2.2.1 x c (hcl1 x c e) z
   ·rcases (f2 b hb).2.2.2.1 with z | z
    ·exact I2.ok.noex b o e z
    ·exact absurd (Nat.lt_of_lt_of_le (Heap.lt_size e) (Nat.le_trans I2.ok.bsz z)) (Nat.lt_irrefl _)
   ·rcases List.mem_cons.mp (I2.stkSub b z) with q | q
    ·exact (f2 b hb).2.1 q
    ·exact (f2 b hb).2.2.1 q
  have Ic:Inv Xc [] (G1 sel σ) H2 {s2 with heap:=h₁,toks:=s2.toks+([]:List (Str × Value)).length}:=by
   refine ⟨okc,rfl,I2.bare,Un.kept old,⟨_,hns₁,fun i x v e1 e2 e3=>?_⟩,fun x c e=>?_,?_,fun x c e=>?_,fun p hp=>absurd (show p∈([]:List (Addr × Obj)) from hp) (by simp),?_,?_⟩
   ·have e2':(sel[i]?).map (fun o=>o.bind fun j=>(σ[j]?).join)=some (some v):=by
     rw[←List.getElem?_map];exact e2
    cases es:sel[i]? with
    | none=>rw[es]at e2';cases e2'
    | some o =>
     rw[es]at e2'
     cases o with
     | none =>
      have:(none:Option V)=some v:=Option.some.inj e2'
      cases this
     | some j =>
      obtain ⟨x',n1,n2,n3⟩:=hsel i j es
      have hxx:x'=x:=by
       have e1':Nc[i]?=some x:=e1
       rw[n1]at e1';exact Option.some.inj e1'
      subst hxx
      have hσ:σ[j]?=some (some v):=by
       have q:(σ[j]?).join=some v:=Option.some.inj e2'
       cases z:σ[j]? with
       | none=>rw[z]at q;cases q
       | some w'=>rw[z]at q;have q':w'=some v:=q;rw[q']
      have kf:=hfree x' (PySem.mem_of_lookup n3)
      obtain ⟨m,hn,hl⟩:=I2.loc
      obtain ⟨u,ru,lk⟩:=hl j x' v n2 hσ (kf.elim (fun z=>.inr (.inl z)) fun z=>.inr (.inr z))
      refine ⟨u,ru,.inr ?_⟩
      rcases lk with ⟨kl,_⟩ | ⟨_,c,hc,hcc⟩
      ·rcases kf with z | z<;>(rw[z]at kl;cases kl)
      ·obtain ⟨d,hd⟩:=hcl2 x' (PySem.mem_of_lookup n3)
       have hd':=hcl1 x' d hd
       rw[hc]at hd'
       have hcd:c=d:=Option.some.inj hd'
       subst hcd
       refine ⟨?_,c,hd,?_⟩
       ·exact X8 n3
       ·obtain ⟨o,e,q⟩:=hcc
        exact ⟨o,old c o e,q⟩
   ·obtain ⟨v,o,e',q⟩:=I2.cell x c (hcl1 x c e)
    exact ⟨v,o,old c o e',q⟩
   ·exact freshC
   ·exact I2.freeC x c (hcl1 x c e)
   ·exact I2.hok.kept old
   ·show (G1 sel σ).length=Nc.length
    unfold G1
    rw[List.length_map];exact hlen
  have Rc:RepEnv X.K H2 (G1 sel ρ) (G1 sel σ):=by
   refine ⟨by unfold G1;rw[List.length_map,List.length_map],fun i t q=>?_⟩
   unfold G1 at q ⊢
   rw[List.getElem?_map]at q ⊢
   cases es:sel[i]? with
   | none=>rw[es]at q;cases q
   | some o =>
    rw[es]at q
    cases o with
    | none =>
     have:(none:Option T)=some t:=Option.some.inj q
     cases this
    | some j =>
     have q':(ρ[j]?).join=some t:=Option.some.inj q
     have hρ:ρ[j]?=some (some t):=by
      cases z:ρ[j]? with
      | none=>rw[z]at q';cases q'
      | some w'=>rw[z]at q';have q'':w'=some t:=q';rw[q'']
     obtain ⟨v,e1,e2⟩:=R2.get j t hρ
     refine ⟨v,?_,e2⟩
     show some ((σ[j]?).join)=some (some v)
     rw[e1];rfl
  have ltD:∀b∈fp,b<s2.heap.objs.size:=fun b hb=>by
   obtain ⟨o,e,_⟩:=TT.obj 0 _ st2 b hb
   exact Heap.lt_size e
  have cellLt:∀x c,cl.lookup x=some c→c<s2.heap.objs.size:=fun x c e=>by
   obtain ⟨v,o,e',q⟩:=I2.cell x c (hcl1 x c e)
   exact Heap.lt_size e'
  have notStk:s2.heap.objs.size ∉ frs X.stack:=fun z=>by
   rcases List.mem_cons.mp (I2.stkSub _ z) with q | q
   ·exact absurd q (Nat.ne_of_gt I2.lt)
   ·exact I2.nofs (Nat.le_refl _) q
  have stat:∀{H':Hp},(∀b∈s2.heap.objs.size::fp,H' b=none)→∀b∈s2.heap.objs.size::fp,AHB Xc [] H' b:=fun hn b hb=>by
   refine ⟨hn b hb,?_,fun z=>?_,?_,fun x c e z=>?_,fun p hp=>absurd (show p∈([]:List (Addr × Obj)) from hp) (by simp)⟩
   ·show b≠P2.objs.size
    rcases List.mem_cons.mp hb with q | q
    ·rw[q];exact Nat.ne_of_lt hDC
    ·exact Nat.ne_of_lt (Nat.lt_trans (ltD b q) hDC)
   ·rcases List.mem_cons.mp hb with q | q
    ·subst q;exact notStk z
    ·rcases List.mem_cons.mp (I2.stkSub b z) with y | y
     ·exact (f2 b q).2.1 y
     ·exact (f2 b q).2.2.1 y
   ·rcases List.mem_cons.mp hb with q | q
    ·exact .inr (by rw[q];exact Nat.le_refl _)
    ·exact .inl q
   ·rcases List.mem_cons.mp hb with q | q
    ·rw[q]at z;exact absurd z (Nat.ne_of_lt (cellLt x c e))
    ·exact (f2 b q).2.2.2.2.1 x c (hcl1 x c e) z
  have loop:codeAny (model X.prog X.w) X.A (.compLoop (.DictComp kx vx [⟨tg,iter,ifs,0⟩,⟨tg2,iter2,ifs2,0⟩] scope pos) 0 (.ref it') (.ref s2.heap.objs.size) (compEnvC scope cl P2.objs.size X.env)) (compPost (model X.prog X.w) X.A X.xe use QQ (.ref s2.heap.objs.size) P2.objs.size)
    {s2 with heap:=h₁,toks:=s2.toks+([]:List (Str × Value)).length}:=by
   refine AC6 (AaZ _ _ _ _ _ _ _ _ _ _ _ _ _) (CLoopD Xc tn s2.heap.objs.size fp H2 (G1 sel ρ) ts.length fun i xs=>wR Ek H (m6 g test it2 k test2 (AKZ te) (G1 sel ρ) (ts.drop i)) fun zs=>∀v H',Same H H'→Rep X.K H' (z9 (xs++zs)) v→Q v H') ?_ (ts.length+1)
    ⟨0,H2,G1 sel σ,[],Nat.zero_le _,rfl,Ic,TT.keep _ _ _ st2 fun b _ o e=>old b o e,fun b hb=>?_,⟨[],⟨_,_,_,hD,⟨rfl,rfl,rfl⟩,rfl,fun e he=>by simp at he,.nil,.nil⟩,Nat.zero_le _,fun k=>by simp⟩,Same.refl H2,Rc,A5 h⟩
   ·rintro n s' ⟨i,Hs,σs,xs,hi',rfl,Is,st,fr,hpl,sHs,Rs,hw⟩
    refine ⟨fun _ _=>False,fun _ _ z=>z,?_⟩
    by_cases hlt:i<ts.length
    ·have ht':ts[i]?=some ts[i]:=List.getElem?_eq_getElem hlt
     obtain ⟨go,yl⟩:=(iO i Hs sHs).1 _ ht'
     have Is':=Is.pinned (fp:=[s2.heap.objs.size]) (fun b hb=>stat fr b (by simp at hb;subst hb;exact List.mem_cons_self)) (fun b hb=>by
      simp at hb;subst hb
      obtain ⟨kvs,⟨oA,esA,epA,eA,rA⟩,hkl,hkm⟩:=hpl
      exact ⟨_,eA,fun v z=>by rw[rA.2.1]at z;cases z⟩)
     obtain ⟨kvs,⟨oA,esA,epA,eA,rA⟩,hkl,hkm⟩:=id hpl
     refine thn (TT.item Xc rfl rfl rfl rfl i _ s' σs Hs (fun _ _=>False) Is' (fun b hb=>?_) st go) fun r s4 ⟨u,hr,h4⟩=>?_
     ·obtain ⟨p1,p2,p3,p4,p5,p6⟩:=stat fr b (List.mem_cons_of_mem _ hb)
      refine ⟨p1,p2,p3,p4,p5,fun p hp z=>?_⟩
      have hp':p∈M5 [s2.heap.objs.size] s'.heap:=hp
      obtain ⟨q,_⟩:=O9 hp'
      have q':p.1=s2.heap.objs.size:=by simpa using q
      exact absurd (z.symm.trans q') (Nat.ne_of_lt (ltD b hb))
     subst hr
     refine thn h4 fun _ s5 ⟨x,H5,I5,r5,y5,st5,fr5⟩=>?_
     obtain ⟨sy5,rx⟩:=yl x H5 y5
     replace Rs:=Rs.mono sy5
     replace sHs:=sHs.trans sy5
     have pinA:=I5.pin (s2.heap.objs.size,_) (List.mem_append_right _ (List.mem_append_right _ (B1 (List.mem_singleton.mpr rfl) eA)))
     have fr5':∀b∈s2.heap.objs.size::fp,H5 b=none:=fun b hb=>by
      rcases List.mem_cons.mp hb with q | q
      ·rw[q];exact pinA.2.1
      ·exact fr5 b q
     have I5':=I5.unpinned.pinned (stat fr5') (fun b hb=>by
      rcases List.mem_cons.mp hb with q | q
      ·subst q;exact ⟨_,pinA.1,fun v z=>by rw[rA.2.1]at z;cases z⟩
      ·exact TT.obj _ _ st5 b q)
     rw[List.drop_eq_getElem_cons hlt,m6]at hw
     cases eg:g ts[i] (G1 sel ρ) with
     | none=>simp only[eg]at hw;exact hw.elim
     | some ρ1 =>
      simp only[eg]at hw
      obtain ⟨kl,kk⟩:=hkeep _ _ _ eg
      refine thn (hg cl P2.objs.size s2 H2 fp _ s5 σs H5 x u (fun σ' H'=>H'=H5∧RepEnv X.K H5 ρ1 σ') I5' r5 ⟨ts[i],G1 sel ρ,ρ1,rx,Rs,eg,fun σ' R'=>⟨rfl,R'⟩⟩) fun _ s6 ⟨σ6,H6,I6,e6,R6⟩=>?_
      subst e6
      cases et:test ρ1 with
      | bad=>simp only[et]at hw;exact hw.elim
      | ex c fs=>simp only[et]at hw;exact hw.elim
      | ok k =>
       refine thn (ht cl P2.objs.size s2 H2 fp _ s6 σ6 H6 (fun b H'=>b=k∧Same H6 H') I6 ⟨ρ1,R6,by rw[et];exact fun H' sm=>⟨rfl,sm⟩⟩) fun b s7 ⟨H7,I7,eb,s67⟩=>?_
       subst eb
       have back:∀{H8:Hp},Same H6 H8→RepEnv X.K H8 (G1 sel ρ) σ6:=fun {H8} sm=>by
        refine ⟨by rw[←kl];exact R6.len,fun a t q=>?_⟩
        have hsl:∃j,sel[a]?=some (some j):=by
         unfold G1 at q
         rw[List.getElem?_map]at q
         cases es:sel[a]? with
         | none=>rw[es]at q;cases q
         | some o =>
          cases o with
          | none =>
           rw[es]at q
           have:(none:Option T)=some t:=Option.some.inj q
           cases this
          | some j=>exact ⟨j,rfl⟩
        obtain ⟨j,hj⟩:=hsl
        obtain ⟨v,e1,e2⟩:=R6.get a t (by rw[kk a j hj];exact q)
        exact ⟨v,e1,Rep.mono sm t v e2⟩
       have keepA:∀{s8:Shared} {H8:Hp},Inv Xc ([]++M5 (s2.heap.objs.size::fp) s5.heap) σ6 H8 s8→tn (i+1) s8.heap∧(∀b∈s2.heap.objs.size::fp,H8 b=none)∧okD X.prog X.w s8.heap s2.heap.objs.size (1000*i) xs:=fun {s8 H8} I8=>by
        refine ⟨TT.keep _ _ _ st5 fun b hb o e=>(I8.pin (b,o) (List.mem_append_right _ (List.mem_append_right _ (B1 (List.mem_cons_of_mem _ hb) e)))).1,fun b hb=>?_,kvs,⟨oA,esA,epA,(I8.pin (s2.heap.objs.size,_) (List.mem_append_right _ (List.mem_append_right _ (B1 List.mem_cons_self pinA.1)))).1,rA⟩,hkl,hkm⟩
        rcases List.mem_cons.mp hb with q | q
        ·subst q;exact (I8.pin (s2.heap.objs.size,_) (List.mem_append_right _ (List.mem_append_right _ (B1 List.mem_cons_self pinA.1)))).2.1
        ·obtain ⟨o,e,d⟩:=TT.obj _ _ st5 b q
         exact (I8.pin (b,o) (List.mem_append_right _ (List.mem_append_right _ (B1 hb e)))).2.1
       cases b with
       | false =>
        rw[if_neg Bool.false_ne_true]
        simp only[et]at hw
        obtain ⟨k1,k2,k3⟩:=keepA I7
        exact ⟨ts.length+1-(i+1),by omega,i+1,H7,σ6,xs,hlt,rfl,I7.unpinned,k1,k2,k3.up (by omega),sHs.trans s67,back s67,hw⟩
       | true =>
        rw[if_pos rfl]
        simp only[et]at hw
        cases ei2:it2 ρ1 with
        | bad=>simp only[ei2]at hw;exact hw.elim
        | ex c fs=>simp only[ei2]at hw;exact hw.elim
        | ok us =>
         simp only[ei2]at hw
         by_cases hus:us.length≤1000
         ·rw[if_pos hus]at hw
          cases ec:C4 (Tr.gName k) test2 (AKZ te) ρ1 us with
          | bad=>simp only[ec]at hw;exact hw.elim
          | ex c fs=>simp only[ec]at hw;exact hw.elim
          | ok zs1 =>
           simp only[ec]at hw
           have hρk:ρ1[k]?=some none:=by
            rw[hk1 _ _ _ eg]
            unfold G1
            rw[List.getElem?_map,hselk]
            rfl
           have hzl:=Y9 us zs1 ec
           unfold AHK
           refine wpAny_bind (thn (hi2 cl P2.objs.size s2 H2 fp _ s7 σ6 H7 (fun J2 H'=>Same H7 H'∧w9 X.K J2 us H') I7 ⟨ρ1,R6.mono s67,by rw[ei2];exact fun J2 H' sm iO2=>⟨sm,iO2⟩⟩) fun v8 s8 h8=>?_)
           refine wpAny_bind (wpAny_standAt (wpAny_bind (wpAny_of_eq (hs2 cl P2.objs.size s2 H2 fp v8) (wpAny_bind (wpAny_holding (thn h8 fun itv9 s9 h9=>?_))))))
           obtain ⟨it9,fp9,tn9,J9,H9,rfl,I9,TT9,st9,f9,s79,iO9⟩:=h9
           obtain ⟨k1,k2,k3⟩:=keepA I9
           have memD:(s2.heap.objs.size,oA)∈Xc.pn++([]++M5 (s2.heap.objs.size::fp) s5.heap):=List.mem_append_right _ (List.mem_append_right _ (B1 List.mem_cons_self pinA.1))
           have subp:∀p∈([]++M5 fp s5.heap:List (Addr × Obj)),p∈([]++M5 (s2.heap.objs.size::fp) s5.heap:List (Addr × Obj)):=fun p hp=>by
            rw[List.nil_append]at hp ⊢
            obtain ⟨q1,q2⟩:=O9 hp
            have:=B1 (h:=s5.heap) (List.mem_cons_of_mem s2.heap.objs.size q1) q2
            exact this
           have I9':Inv Xc ([]++M5 fp s5.heap) σ6 H9 s9:=I9.pins_of fun p hp=>I9.pin p (List.mem_append_right _ (subp p hp))
           have fD:AHB Xc ([]++M5 fp s5.heap) H9 s2.heap.objs.size:=by
            obtain ⟨p1,p2,p3,p4,p5,p6⟩:=stat k2 s2.heap.objs.size List.mem_cons_self
            refine ⟨p1,p2,p3,p4,p5,fun p hp z=>?_⟩
            rcases List.mem_append.mp hp with hp | hp
            ·exact p6 p (List.mem_append_left _ hp) z
            ·rw[List.nil_append]at hp
             obtain ⟨q1,_⟩:=O9 hp
             exact absurd z (Nat.ne_of_lt (ltD p.1 q1))
           have f9':∀b∈fp9,AHB Xc ([]++M5 fp s5.heap) H9 b:=fun b hb=>by
            obtain ⟨p1,p2,p3,p4,p5,p6⟩:=f9 b hb
            refine ⟨p1,p2,p3,p4,p5,fun p hp z=>?_⟩
            rcases List.mem_append.mp hp with hp | hp
            ·exact p6 p (List.mem_append_left _ hp) z
            ·exact p6 p (List.mem_append_right _ (subp p hp)) z
           have nD9:∀b∈fp9,s2.heap.objs.size≠b:=fun b hb=>(f9 b hb).2.2.2.2.2 _ memD
           have hA:X.A.mark none=X.A:=AMI (I2.ok.hd hcalm)
           have inner:∀RR:Result→Shared→Prop,(∀s' σ' H',Inv Xc ([]++M5 fp s5.heap) σ' H' s'→H' s2.heap.objs.size=none→okD X.prog X.w s'.heap s2.heap.objs.size (1000*i+us.length) (xs++zs1)→Same H9 H'→RepEnv X.K H' ρ1 σ'→RR (.ok .next) s') →
             codeAny (model X.prog X.w) X.A (.compLoop (.DictComp kx vx [⟨tg,iter,ifs,0⟩,⟨tg2,iter2,ifs2,0⟩] scope pos) 1 (.ref it9) (.ref s2.heap.objs.size) (compEnvC scope cl P2.objs.size X.env)) RR s9:=fun RR hRR =>
            AI8 (X:=Xc) (D:=s2.heap.objs.size) (R:=RR) rfl (fun _ _ z=>z) rfl (hg2 cl P2.objs.size s2 H2 fp) (ht2 cl P2.objs.size s2 H2 fp) (AY8 (he cl P2.objs.size s2 H2 fp)) (hvx cl P2.objs.size s2 H2 fp) (AAK us zs1 ec) TT9 iO9 hρk I9' (R6.mono (s67.trans s79)) st9 f9' fD nD9 k3 ec (by have:i<ts.length:=hlt;omega) hRR
           refine wpAny_bind (wpAny_runOwn ?_)
           rw[hA]
           have post:∀s' σ' H',Inv Xc ([]++M5 fp s5.heap) σ' H' s'→H' s2.heap.objs.size=none→okD X.prog X.w s'.heap s2.heap.objs.size (1000*i+us.length) (xs++zs1)→Same H9 H'→RepEnv X.K H' ρ1 σ'→(∃m,m<ts.length+1-i∧CLoopD Xc tn s2.heap.objs.size fp H2 (G1 sel ρ) ts.length (fun i xs=>wR Ek H (m6 g test it2 k test2 (AKZ te) (G1 sel ρ) (ts.drop i)) fun zs=>∀v H',Same H H'→Rep X.K H' (z9 (xs++zs)) v→Q v H') m s'):=fun s' σ' H' I' hD' pl' sm' Re'=>by
            refine ⟨ts.length+1-(i+1),by omega,i+1,H',σ',xs++zs1,hlt,rfl,I'.unpinned,TT.keep _ _ _ st5 fun b hb o e=>(I'.pin (b,o) (List.mem_append_right _ (List.mem_append_right _ (B1 hb e)))).1,fun b hb=>?_,pl'.up (by omega),sHs.trans (s67.trans (s79.trans sm')),?_,?_⟩
            ·rcases List.mem_cons.mp hb with q | q
             ·rw[q];exact hD'
             ·obtain ⟨o,e,d⟩:=TT.obj _ _ st5 b q
              exact (I'.pin (b,o) (List.mem_append_right _ (List.mem_append_right _ (B1 q e)))).2.1
            ·refine ⟨by rw[←kl];exact Re'.len,fun a t q=>?_⟩
             have hsl:∃j,sel[a]?=some (some j):=by
              unfold G1 at q
              rw[List.getElem?_map]at q
              cases es:sel[a]? with
              | none=>rw[es]at q;cases q
              | some o =>
               cases o with
               | none =>
                rw[es]at q
                have:(none:Option T)=some t:=Option.some.inj q
                cases this
               | some j=>exact ⟨j,rfl⟩
             obtain ⟨j,hj⟩:=hsl
             obtain ⟨v,e1,e2⟩:=Re'.get a t (by rw[kk a j hj];exact q)
             exact ⟨v,e1,e2⟩
            ·refine A7 (Same.refl H) (fun zs hz v H' sm r=>?_) (A5 hw)
             have hz':∀v H',Same H H'→Rep X.K H' (z9 (xs++(zs1++zs))) v→Q v H':=hz
             exact hz' v H' sm (by rw[List.append_assoc]at r;exact r)
           exact AI6 (inner _ fun s' σ' H' a1 a2 a3 a4 a5=>wpAny_pure (post s' σ' H' a1 a2 a3 a4 a5)) (TT9.self _ 0 _ _ _ st9 (inner _ fun s' σ' H' a1 a2 a3 a4 a5=>wpAny_pure (post s' σ' H' a1 a2 a3 a4 a5)))
         ·rw[if_neg hus]at hw;exact hw.elim
    ·have ei:i=ts.length:=by omega
     have Is':=Is.pinned (fp:=[s2.heap.objs.size]) (fun b hb=>stat fr b (by simp at hb;subst hb;exact List.mem_cons_self)) (fun b hb=>by
      simp at hb;subst hb
      obtain ⟨kvs,⟨oA,esA,epA,eA,rA⟩,hkl,hkm⟩:=hpl
      exact ⟨_,eA,fun v z=>by rw[rA.2.1]at z;cases z⟩)
     obtain ⟨kvs,⟨oA,esA,epA,eA,rA⟩,hkl,hkm⟩:=id hpl
     refine thn (TT.done Xc rfl rfl rfl rfl i _ s' σs Hs (fun _ _=>False) Is' (fun b hb=>?_) st ((iO i Hs sHs).2 (by omega))) fun r s4 ⟨hr,I4⟩=>?_
     ·obtain ⟨p1,p2,p3,p4,p5,p6⟩:=stat fr b (List.mem_cons_of_mem _ hb)
      refine ⟨p1,p2,p3,p4,p5,fun p hp z=>?_⟩
      have hp':p∈M5 [s2.heap.objs.size] s'.heap:=hp
      obtain ⟨q,_⟩:=O9 hp'
      have q':p.1=s2.heap.objs.size:=by simpa using q
      exact absurd (z.symm.trans q') (Nat.ne_of_lt (ltD b hb))
     subst hr
     have pinA:=I4.pin (s2.heap.objs.size,_) (List.mem_append_right _ (List.mem_append_right _ (B1 (List.mem_singleton.mpr rfl) eA)))
     obtain ⟨m,hn,_⟩:=I4.loc
     refine hfin _ _ _ (Nat.ne_of_lt (Nat.lt_trans I2.lt hDC)) (fun x c e=>by
      obtain ⟨v,o,e',q⟩:=I2.cell x c e
      exact Nat.ne_of_lt (Nat.lt_trans (Heap.lt_size e') hDC)) ⟨m,hn,fun h' sb=>?_⟩
     have k:∀b o,b≠P2.objs.size→s4.heap.get? b=some o→h'.get? b=some o:=fun b o hb e=>sb.extBut b o hb e
     have un0:Un (frs X.stack) fp H2 Hs s2.heap h':=AD9 I4.base noC k
     have freeC':Hs P2.objs.size=none:=I4.free
     have hok0:HOk X.prog X.w Hs h':=fun b u e=>by
      refine (I4.hok b u e).stay (fun c v hc q=>k c v ?_ q) (fun _ q=>q) fun _ _ q=>q
      rcases hc with z | z
      ·rw[z];intro y;rw[y,freeC']at e;cases e
      ·intro y;rw[y,freeC']at z;cases z
     have freeD:Hs s2.heap.objs.size=none:=fr _ List.mem_cons_self
     have eD:h'.get? s2.heap.objs.size=some oA:=k _ _ (Nat.ne_of_lt hDC) pinA.1
     have neD:∀b o,s2.heap.get? b=some o→b≠s2.heap.objs.size:=fun b o e=>Nat.ne_of_lt (Heap.lt_size e)
     have un1:Un (frs X.stack) fp H2 (upd Hs s2.heap.objs.size (AT2 xs s2.heap.objs.size)) s2.heap h':=by
      refine ⟨un0.keep,un0.slot,fun b o e n hx=>by rw[A6 (neD b o e)];exact un0.free b o e n hx,un0.there,fun b xs e=>?_,fun b o u e=>?_,fun b ps e=>?_⟩
      ·rw[A6 (C2 e freshD)];exact un0.tups b xs e
      ·rw[A6 (C2 e freshD)];exact un0.frzs b o u e
      ·rw[A6 (C2 e freshD)];exact un0.tbls b ps e
     have hok1:HOk X.prog X.w (upd Hs s2.heap.objs.size (AT2 xs s2.heap.objs.size)) h':=fun b u e=>by
      by_cases hb:b=s2.heap.objs.size
      ·subst hb
       rw[A8]at e
       cases e
       exact ATR hsys ⟨kvs,⟨oA,esA,epA,eD,rA⟩,hkl,hkm⟩
      ·rw[A6 hb]at e
       exact (hok0 b u e).stay (fun c v hc q=>q) (fun c q=>by rw[A6 (C2 q freeD)];exact q) fun c o q=>by rw[A6 (C2 q freeD)];exact q
     obtain ⟨hh,gg,dd,tt,os'⟩:=s4
     obtain rfl:os'=s2.os:=I4.os
     have I':=I2.call (ch:=fp) (h':=h') (g':=gg) (t':=tt) (d':=dd) un1 hok1 I4.bare (fun b hb=>⟨(f2 b hb).2.2.2.1,(f2 b hb).2.1,(f2 b hb).2.2.2.2.1,(f2 b hb).2.2.2.2.2⟩)
     rw[List.drop_eq_nil_of_le (by omega),m6]at hw
     have hw2:∀v H',Same H H'→Rep X.K H' (z9 (xs++[])) v→Q v H':=hw
     rw[List.append_nil]at hw2
     have sFin:Same Hs (upd Hs s2.heap.objs.size (AT2 xs s2.heap.objs.size)):=B0 freeD _
     refine ⟨.ref s2.heap.objs.size,_,I',rfl,hw2 _ _ (sH.trans (sHs.trans sFin)) ?_⟩
     exact ANA A8
   ·rcases List.mem_cons.mp hb with q | q
    ·rw[q];exact freshD
    ·exact (f2 b q).1
  exact codeAny_compStart_dict loop (TT.self _ 0 _ _ _ (TT.keep _ _ _ st2 fun b _ o e=>old b o e) loop)
 ·rw[if_neg hts]at h;exact h.elim
end
theorem Ad0 {X:Cx} {Ek:EK} {kx vx:Expr} {gens:List Comprehension} {scope:Scope} {pos:Pos} {t:FE} (h:JDt X kx vx gens scope pos (lE X.K Ek t)):JE X Ek (.DictComp kx vx gens scope pos) t:=by
 intro pins s σ H Q I q
 rw[arm_eval_DictComp]
 exact h _ none _ pins s σ H Q I q fun _ _ _ _ _ z=>z
section
variable {X:Cx} {Ek:EK}
def kEq:T→T→Bool
 | .none,.none=>true
 | .int a,.int b=>a == b
 | _,_=>false
theorem kEq_is {k:Option Int} {t:T}:kEq (AD2 k) t=true↔t=AD2 k:=by
 constructor
 ·intro h
  cases k with
  | none =>
   cases t with
   | none=>rfl
   | _=>cases h
  | some i =>
   cases t with
   | int j =>
    have h':(i == j)=true:=h
    rw[eq_of_beq h']
    rfl
   | _=>cases h
 ·rintro rfl
  cases k with
  | none=>rfl
  | some i=>exact beq_self_eq_true i
def AFD:T→T→Option T
 | x,.dict [(.none,.list ks)]=>if ABD x=true then some (.bool (!(ks.any (kEq x)))) else none
 | _,_=>none
def Aa3 (K:PySem.W.Frag):R2:=fun x y H Q=>∃k a ks,Rep K H (AD2 k) x∧y=.ref a∧H a=some (AT2 ks a)∧Q (.bl (!(ks.any (kEq (AD2 k))))) H
theorem AN8:OpR X (compareOp .NotIn) (Aa3 X.K):=by
 intro pins s σ H x y v u Q I rx ry h
 obtain ⟨k,a,ks,rk,rfl,ha,q⟩:=h
 cases ry
 obtain ⟨⟨hs,f,hm,hf⟩,_⟩:=I.hok a _ ha
 have hm':s.heap.MapOf (AEA X.prog X.w) a f:=hm
 refine wpAny_notIn_of (knd:=AEA X.prog X.w) (ATD rk rx) hs hm' ?_
 have e:(f k).isSome=ks.any (kEq (AD2 k)):=by
  rw[Bool.eq_iff_iff,hf k,List.any_eq_true]
  constructor
  ·intro z;exact ⟨AD2 k,z,kEq_is.mpr rfl⟩
  ·rintro ⟨t,ht,z⟩
   rw[kEq_is.mp z]at ht
   exact ht
 rw[e]
 exact ⟨.bl (!(ks.any (kEq (AD2 k)))),H,I.tok _,rfl,q⟩
theorem AK7 {K:PySem.W.Frag}:Z7 K (Aa3 K) AFD:=fun x y tx ty a H Q rx ry e q=>by
 match ty,e,ry with
 | .dict [(.none,.list ks)],e,ry =>
  have e':(if ABD tx=true then some (PyData.bool (!(ks.any (kEq tx)))) else none)=some a:=by
   cases tx<;>exact e
  by_cases h:ABD tx=true
  ·rw[if_pos h]at e'
   cases e'
   obtain ⟨k,rfl⟩:=AIV h
   obtain ⟨b,rfl,hb⟩:=ARJ (ks:=ks) ry
   exact ⟨k,b,ks,rx,rfl,hb,q _ H (Same.refl H) D9⟩
  ·rw[if_neg h]at e';cases e'
theorem AHR (x y c:T) (h:AFD x y=some c):∃k,c=.bool k:=by
 unfold AFD at h
 split at h
 ·split at h
  ·exact ⟨_,(Option.some.inj h).symm⟩
  ·cases h
 ·cases h
theorem AGC {kx vx tg iter tg2 iter2:Expr} {ifs ifs2:List Expr} {it2:FI} {k:Nat} {test2:FT} {scope so:Scope} {pos:Pos} {N Nc:List Str} {it:FI} {sel:List (Option Nat)} {g:FG} {test:FT} {te:FE}
  (hcalm:X.calm=true) (hso:X.env.scope=so) (hXN:X.N=N) (hok:ACB scope so N Nc sel=true) (hkeep:AAJ sel g) (hi:JI X Ek tg iter it)
  (hg:∀cl C s H fp,JG (B8 X scope cl C Nc s H fp) tg g)
  (ht:∀cl C s H fp,JTs (B8 X scope cl C Nc s H fp) Ek0 ifs test)
  (hi2:∀cl C s H fp,JI (B8 X scope cl C Nc s H fp) Ek0 tg2 iter2 it2)
  (hg2:∀cl C s H fp,JG (B8 X scope cl C Nc s H fp) tg2 (Tr.gName k))
  (ht2:∀cl C s H fp,JTs (B8 X scope cl C Nc s H fp) Ek0 ifs2 test2)
  (he:∀cl C s H fp,JE (B8 X scope cl C Nc s H fp) Ek0 kx te) (hvx:∀cl C s H fp,JE (B8 X scope cl C Nc s H fp) Ek0 vx (eC (.bool true)))
  (hs:∀x,foldedSetIterable iter X.env x=pure x) (hs2:∀cl C s H fp x,foldedSetIterable iter2 (B8 X scope cl C Nc s H fp).env x=pure x) (hselk:sel[k]?=some none) (hk1:AJE k g):JDt X kx vx [⟨tg,iter,ifs,0⟩,⟨tg2,iter2,ifs2,0⟩] scope pos (lE X.K Ek (AIH it sel g test it2 k test2 te)):=by
 unfold ACB at hok
 obtain ⟨hok,h4⟩:=Bool.and_eq_true_iff.mp hok
 obtain ⟨hok,h3⟩:=Bool.and_eq_true_iff.mp hok
 obtain ⟨h1,h2⟩:=Bool.and_eq_true_iff.mp hok
 have h1':=List.all_eq_true.mp h1
 have h4':=List.all_eq_true.mp h4
 refine APV hcalm hi (fun x hx=>?_) (fun y hy=>?_) (by simpa using h2) (fun y hy hl=>?_) (by simpa using h3) (fun i j hij=>?_) hkeep hg ht hi2 hg2 ht2 he hvx hs2 hselk hk1 hs
 ·have q:=h1' _ hx
  have q2:=(Bool.and_eq_true_iff.mp (Bool.and_eq_true_iff.mp q).1).2
  show X.env.scope.names.lookup x=_∨X.env.scope.names.lookup x=_
  rw[hso]
  simp only[bne_self_eq_false,Bool.false_or,Bool.or_eq_true,beq_iff_eq]at q2
  exact q2
 ·have q:=(Bool.and_eq_true_iff.mp (Bool.and_eq_true_iff.mp (h1' _ hy)).1).1
  intro z
  rw[z]at q
  simp at q
 ·have q:=(Bool.and_eq_true_iff.mp (h1' _ hy)).2
  rw[hl]at q
  simpa using q
 ·have hlt:i<sel.length:=by
   by_cases z:i<sel.length
   ·exact z
   ·rw[List.getElem?_eq_none (by omega)]at hij;cases hij
  have q:=h4' i (List.mem_range.mpr hlt)
  rw[hij]at q
  cases e:Nc[i]? with
  | none=>rw[e]at q;cases q
  | some x =>
   rw[e]at q
   have q':((N[j]? == some x)&&(scope.names.lookup x == some .free))=true:=q
   obtain ⟨a,b⟩:=Bool.and_eq_true_iff.mp q'
   exact ⟨x,rfl,by rw[hXN];exact eq_of_beq a,eq_of_beq b⟩
theorem AF8 {kx vx tg iter tg2 iter2:Expr} {ifs ifs2:List Expr} {it2:FI} {k:Nat} {test2:FT} {scope so:Scope} {pos:Pos} {N Nc:List Str} {it:FI} {sel:List (Option Nat)} {g:FG} {test:FT} {te:FE}
  (hcalm:X.calm=true) (hso:X.env.scope=so) (hXN:X.N=N) (hok:ACB scope so N Nc sel=true) (hkeep:AAJ sel g) (hi:JI X Ek tg iter it)
  (hg:∀cl C s H fp,JG (B8 X scope cl C Nc s H fp) tg g)
  (ht:∀cl C s H fp,JTs (B8 X scope cl C Nc s H fp) Ek0 ifs test)
  (hi2:∀cl C s H fp,JI (B8 X scope cl C Nc s H fp) Ek0 tg2 iter2 it2)
  (hg2:∀cl C s H fp,JG (B8 X scope cl C Nc s H fp) tg2 (Tr.gName k))
  (ht2:∀cl C s H fp,JTs (B8 X scope cl C Nc s H fp) Ek0 ifs2 test2)
  (he:∀cl C s H fp,JE (B8 X scope cl C Nc s H fp) Ek0 kx te) (hvx:∀cl C s H fp,JE (B8 X scope cl C Nc s H fp) Ek0 vx (eC (.bool true)))
  (hs:∀x,foldedSetIterable iter X.env x=pure x) (hs2:∀cl C s H fp x,foldedSetIterable iter2 (B8 X scope cl C Nc s H fp).env x=pure x) (hselk:sel[k]?=some none) (hk1:AJE k g):JE X Ek (.DictComp kx vx [⟨tg,iter,ifs,0⟩,⟨tg2,iter2,ifs2,0⟩] scope pos) (AIH it sel g test it2 k test2 te) :=
 Ad0 (AGC hcalm hso hXN hok hkeep hi hg ht hi2 hg2 ht2 he hvx hs hs2 hselk hk1)
def AfC (ta:TA):TE:=fun σ H Q=>ta σ H fun vs H1=>∃j:Int,vs=[.int j]∧0≤j∧j<1000000∧∀p,H1 p=none→Q (.ref p) (upd H1 p (.lst ((List.range j.toNat).map fun (k:Nat)=>V.int (0+k))))
theorem AXU {a:Expr} {ta:TA} {p p2 pos pos2:Pos} (hc:X.calm=true) (hg:Gl X "range") (hm:X.mg "range" = none) (hg2:Gl X "list") (hm2:X.mg "list" = none) (ha:PA X [a] ta) (hs:starEach [a] X.env=[(false,eval a X.env)])
  (hs2:starEach [.Call (.Name "range" p2) [a] [] pos2] X.env=[(false,eval (.Call (.Name "range" p2) [a] [] pos2) X.env)]):PE X (.Call (.Name "list" p) [.Call (.Name "range" p2) [a] [] pos2] [] pos) (AfC ta):=by
 intro pins s σ H Q I h
 refine Call_ (P9 I hg2 hm2 (by decide +kernel) (PyProof.Rows.callWith_type1 (T:="list") ?_ hs2 rfl))
 rw[hs2]
 show wpAny _ _ (spliced ((false,eval (.Call (.Name "range" p2) [a] [] pos2) X.env)::backTo pos [])) _ _ s
 refine Calls.spliced_cons ?_
 refine Call_ (P9 I hg hm boot_range (PyProof.Rows.callWith_type1 (thn (ha pos2 pins s σ H _ I h) fun us s1 ⟨vs,H1,I1,r1,q1⟩=>?_) hs rfl))
 obtain ⟨j,e,q1,q2,q⟩:=q1
 subst e
 cases r1 with
 | cons r rr =>
  cases rr
  obtain ⟨t,rfl⟩:=r
  refine call_range_1 (Calls.spliced_nil ?_)
  have I2:Inv X pins σ H1 {s1 with heap:=s1.heap.push {cls:=.type "range",data:=.fields #[.int 0 s1.toks,.int j t,.int 1 (s1.toks+1)] },toks:=s1.toks+1+1}:=I1.kept fun b o e=>Heap.get?_push_of_some _ e
  have hz:Builtin.Range.rangeSize 0 j 1=((j.toNat:Nat):Int):=by rw[rangeSize_one];split<;>omega
  refine call_list_range (I2.ok.hd hc) (IsRange.new ..) (small_one (by omega) (by omega) (by omega) (by omega)) hz (by omega) fun h' tk acc' c' hk hS' hacc=>?_
  refine ⟨.ref _,_,I2.laid (t':=tk) (o:=.lst ((List.range j.toNat).map fun (k:Nat)=>V.int (0+k))) (fun b ob e=>hk b ob e) (Nat.le_refl _) ⟨?_,acc'.toList,c',Y8 hacc,by simpa using hS'⟩,rfl,q _ (I2.hok.fresh (Nat.le_refl _))⟩
  rw[List.length_map,List.length_range,sizeLine_eq]
  omega
def lr1:List T→Option T
 | [.int j]=>if 0≤j∧j<1000000 then some (.list (L1 0 j.toNat)) else none
 | _=>none
theorem AbG {a:Expr} {t:FA} {p p2 pos pos2:Pos} (hc:X.calm=true) (hg:Gl X "range") (hm:X.mg "range" = none) (hg2:Gl X "list") (hm2:X.mg "list" = none) (ha:JA X Ek [a] t) (hs:starEach [a] X.env=[(false,eval a X.env)])
  (hs2:starEach [.Call (.Name "range" p2) [a] [] pos2] X.env=[(false,eval (.Call (.Name "range" p2) [a] [] pos2) X.env)]):JE X Ek (.Call (.Name "list" p) [.Call (.Name "range" p2) [a] [] pos2] [] pos) (eN lr1 t):=by
 refine PE.weak (AXU hc hg hm hg2 hm2 ha hs hs2) fun σ H Q h=>?_
 obtain ⟨ρ,R,h⟩:=h
 refine ⟨ρ,R,A7 (Same.refl H) (fun x hx=>?_) (A5 h)⟩
 intro vs H1 s1 rx
 obtain ⟨y,e,q⟩:=Q5 hx
 match x,e,rx with
 | [.int j],e,rx =>
  unfold RepL at rx
  obtain ⟨v,r,rfl,r1,rx⟩:=rx
  unfold RepL at rx
  subst rx
  unfold Rep at r1
  subst r1
  have e':(if 0≤j∧j<1000000 then some (PyData.list (L1 0 j.toNat)) else none)=some y:=e
  by_cases h:0≤j∧j<1000000
  ·rw[if_pos h]at e'
   cases e'
   refine ⟨j,rfl,h.1,h.2,fun p hp=>?_⟩
   have sm:=B0 hp (.lst ((List.range j.toNat).map fun (k:Nat)=>V.int (0+k)))
   refine q _ _ (s1.trans sm) ?_
   unfold Rep
   exact ⟨p,_,rfl,SqL.of A8,ADF 0 _⟩
  ·rw[if_neg h]at e';cases e'
end
end Tr
end
section
namespace Tr
open PySem
def byT (w:World):Bool:=w.params.followText "set-order"
def ACU (w:World) (a:Addr) (es:Array (Int × Value)) (ep:Nat):Array (Int × Value):=if byT w=true then pickOrder (w.params.setOrder a ep) es else es
def AQP (t:SetTable):Nat→Nat
 | 0=>0
 | j+1=>t.place.getD j 0+1
def AHD (w:World) (t:SetTable) (i:Nat):Nat:=if byT w=true then 0 else AQP t i
structure SGood (w:World) (t:SetTable) (n:Nat):Prop where
 fits:t.fits n=true
 ok:byT w=true∨(t.led=true∧t.plain=true∧∀j,j≤n→SetTable.below t.place (AQP t j)=j)
theorem ALC {α:Type} {l:List α} {i:Nat} (h:i<l.length):List.Perm ([l[i]]++l.eraseIdx i) l:=by
 have e:l=l.take i++l[i]::l.drop (i+1):=by rw[List.getElem_cons_drop,List.take_append_drop]
 rw[List.eraseIdx_eq_take_drop_succ]
 refine List.Perm.trans ?_ (List.Perm.of_eq e.symm)
 exact (List.perm_middle (l₁:=l.take i) (l₂:=l.drop (i+1)) (a:=l[i])).symm
theorem ABY {α:Type} (f:Nat→Nat):∀(n k:Nat) (l:List α) (out:Array α),l.length=n→List.Perm (pickOrder.go f n k l out).toList (out.toList++l)
 | 0,k,l,out,h=>by
  have:l=[]:=List.eq_nil_of_length_eq_zero h
  subst this
  simp[pickOrder.go]
 | n+1,k,l,out,h=>by
  have hlt:f k % l.length<l.length:=Nat.mod_lt _ (by omega)
  unfold pickOrder.go
  rw[List.getElem?_eq_getElem hlt]
  refine (ABY f n (k+1) _ _ (by rw[List.length_eraseIdx,if_pos hlt];omega)).trans ?_
  rw[Array.toList_push,List.append_assoc]
  exact List.Perm.append_left _ (ALC hlt)
theorem AFK (w:World) (a:Addr) (es:Array (Int × Value)) (ep:Nat):List.Perm (ACU w a es ep).toList es.toList:=by
 unfold ACU
 split
 ·exact (ABY _ _ _ _ _ (by simp)).trans (by simp)
 ·exact .refl _
theorem X1 (w:World) (a:Addr) (es:Array (Int × Value)) (ep:Nat):(ACU w a es ep).size=es.size:=by
 have:=(AFK w a es ep).length_eq
 simpa using this
section
variable {prog:Program} {w:World} {A:Around} {E:Value→Shared→Prop} {s:Shared} {a:Addr} {o:Obj} {es:Array (Int × Value)} {ep:Nat} {t:SetTable}
theorem AHS {α:Type} {M:Model} {c:Prop} [Decidable c] {m m':Sem α} {Q:α→Shared→Prop} (hc:¬c) (h:wpAny M A m' Q E s):wpAny M A (if c then m else m') Q E s:=by rw[if_neg hc];exact h
theorem ABW {Q:Bool→Shared→Prop} (h:Q (byT w) s):wpAny (model prog w) A setsByText Q E s:=wpAny_bind (wpAny_askSetting (wpAny_pure h))
theorem APS {Q:Array (Int × Value)→Shared→Prop} (ho:s.heap.get? a=some o) (hd:o.data=.set es ep t) (hf:t.fits es.size=true) (hb:byT w=true) (h:Q (ACU w a es ep) s):wpAny (model prog w) A (setWalk a) Q E s:=by
 unfold setWalk
 refine wpAny_bind (wpAny_setState_of ho hd hf (wpAny_bind (ABW ?_)))
 rw[hb]
 refine wpAny_bind (wpAny_askSetting (wpAny_pure ?_))
 rw[ACU,if_pos hb]at h
 exact h
theorem AD1 {Q:Option (Value × Nat)→Shared→Prop} {i:Nat} (ho:s.heap.get? a=some o) (hd:o.data=.set es ep t) (G:SGood w t es.size) (hi:i≤es.size)
  (h:Q ((ACU w a es ep)[i]?.map fun e=>(e.2,AHD w t (i+1))) s):wpAny (model prog w) A (setNext a (AHD w t i) i ep) Q E s:=by
 unfold setNext
 refine wpAny_bind (wpAny_setState_of ho hd G.fits (wpAny_bind (ABW ?_)))
 cases hb:byT w with
 | true =>
  simp only[↓reduceIte]
  rw[show (ep != ep)=false from bne_self_eq_false ep]
  simp only[Bool.false_eq_true,↓reduceIte]
  refine wpAny_bind (APS ho hd G.fits hb (wpAny_pure ?_))
  have e:AHD w t i=AHD w t (i+1):=by simp[AHD,hb]
  rw[e]
  exact h
 | false =>
  obtain ⟨g1,g2,g3⟩:t.led=true∧t.plain=true∧∀j,j≤es.size→SetTable.below t.place (AQP t j)=j:=by
   rcases G.ok with z | z
   ·rw[hb]at z;cases z
   ·exact z
  simp only[Bool.false_eq_true,↓reduceIte]
  have e1:AHD w t i=AQP t i:=by simp[AHD,hb]
  have e2:AHD w t (i+1)=AQP t (i+1):=by simp[AHD,hb]
  have e3:ACU w a es ep=es:=by simp[ACU,hb]
  have ez:t.place.size=es.size:=by
   have:=G.fits
   simp only[SetTable.fits,Bool.and_eq_true,beq_iff_eq]at this
   exact this.1
  rw[e2,e3]at h
  rw[e1,g3 i hi]
  refine AHS (c:=(!t.plain&&decide (es.size>1))=true) (by simp[g2]) ?_
  refine wpAny_bind (AHS (c:=(!t.led&&!es.isEmpty)=true) (by simp[g1]) (wpAny_pure (wpAny_pure ?_)))
  by_cases q:i<es.size
  ·have q2:i<t.place.size:=by omega
   rw[Array.getElem?_eq_getElem q]at h ⊢
   rw[Array.getElem?_eq_getElem q2]
   have e4:AQP t (i+1)=t.place[i]+1:=by simp[AQP,Array.getD,q2]
   rw[e4]at h
   exact h
  ·rw[Array.getElem?_eq_none (by omega)]at h ⊢
   rw[Array.getElem?_eq_none (by omega)]
   exact h
def AZ3 (w:World) (h:Heap) (it a:Addr) (t:SetTable) (n ep i:Nat):Prop:=∃o,h.get? it=some o∧o.cls=.type "set_iterator"∧o.data=.fields #[rawInt (AHD w t i),rawInt i,.ref a,rawInt n,rawInt ep]
def AIF (h:Heap) (a:Addr) (es:Array (Int × Value)) (ep:Nat) (t:SetTable):Prop:=∃o,h.get? a=some o∧o.cls=.type "set"∧o.data=.set es ep t
theorem sit_slot:Slot "set_iterator" "__next__" "set_iterator.__next__":=.of (owner:="set_iterator") (n:="__next__") (by rw[typeLookup_type,builtinLookup_eq_fast];kernel_rfl) (by decide +kernel) (by decide +kernel) (by decide +kernel) (by first | exact .inl (by decide +kernel) | exact .inr (by decide +kernel)) (by rw[isSubtype_type];kernel_rfl)
theorem AGB:entryFor table "set_iterator.__next__" = some Builtin.«set_iterator.__next__»:=entryFor_of_tree (by kernel_rfl)
theorem AIP (a:Value):argsOk "set_iterator.__next__" ⟨[a],[]⟩:=by unfold argsOk;kernel_rfl
theorem AQM:entryFor table "set.__iter__" = some Builtin.«frozenset.__iter__»:=entryFor_alias (id':="frozenset.__iter__") (by kernel_rfl) rfl (by decide +kernel) (by kernel_rfl)
theorem AJJ:Slot "set_iterator" "__iter__" "set_iterator.__iter__":=.of (owner:="set_iterator") (n:="__iter__") (by rw[typeLookup_type,builtinLookup_eq_fast];kernel_rfl) (by decide +kernel) (by decide +kernel) (by decide +kernel) (by first | exact .inl (by decide +kernel) | exact .inr (by decide +kernel)) (by rw[isSubtype_type];kernel_rfl)
theorem ACW:entryFor table "set_iterator.__iter__" = some Builtin.«dict_keyiterator.__iter__»:=entryFor_alias (id':="dict_keyiterator.__iter__") (by kernel_rfl) rfl (by decide +kernel) (by kernel_rfl)
theorem AEQ (a:Value):argsOk "set_iterator.__iter__" ⟨[a],[]⟩:=by unfold argsOk;kernel_rfl
theorem AG7 {it:Addr} {ob:Obj} {vs:Array Value} {Q:Array Value→Shared→Prop} (ho:s.heap.get? it=some ob) (hd:ob.data=.fields vs) (h:Q vs s):wpAny (model prog w) A (fieldsOf (.ref it)) Q E s:=by
 simp only[fieldsOf]
 refine wpAny_bind (wpAny_load ho ?_)
 rw[hd];exact wpAny_pure h
theorem AFT {it:Addr} {i:Nat} {e:Int × Value} {Q:Option Value→Shared→Prop} (hit:AZ3 w s.heap it a t es.size ep i) (hs:AIF s.heap a es ep t) (G:SGood w t es.size) (hx:(ACU w a es ep)[i]?=some e)
  (hQ:∀h',AZ3 w h' it a t es.size ep (i+1)→Heap.SameBut it s.heap h'→Q (some e.2) {s with heap:=h'}):wpAny (model prog w) A (pyNext (.ref it)) Q E s:=by
 obtain ⟨oi,hoi,hci,hdi⟩:=hit
 obtain ⟨oa,hoa,hca,hda⟩:=hs
 have hi:i<es.size:=by
  rw[←X1 w a es ep]
  exact (Array.getElem?_eq_some_iff.mp hx).1
 have hT:s.TypeIs (.ref it) "set_iterator":=⟨oi,hoi,hci⟩
 unfold pyNext
 refine wpAny_bind (wpAny_attempt (wpAny_callSpecial?_slot (name:=Str.ofString "__next__") hT sit_slot (wpAny_call_entry sit_slot hT AGB ?_ (AIP _))))
 show wpAny _ _ (fieldsOf (.ref it) >>= _) _ _ s
 refine wpAny_bind (AG7 hoi hdi ?_)
 show wpAny _ _ (setEntries a >>= _) _ _ s
 refine wpAny_bind (wpAny_setEntries_of hoa hda G.fits ?_)
 refine AHS (c:=(((es.size:Nat):Int) != ((es.size:Nat):Int))=true) (by simp) ?_
 show wpAny _ _ (setNext a (AHD w t i) i ep >>= _) _ _ s
 refine wpAny_bind (AD1 hoa hda G (Nat.le_of_lt hi) ?_)
 rw[hx]
 show wpAny _ _ (setField (.ref it) 0 (rawInt (AHD w t (i+1))) >>= _) _ _ s
 refine wpAny_bind (wpAny_setField hoi hdi (by simp) ?_)
 have g1:=Heap.get?_update_self (Obj.mapFields (·.setIfInBounds 0 (rawInt (AHD w t (i+1))))) hoi (Obj.isFreed_of_fields (Obj.data_mapFields hdi _))
 have d1:=Obj.data_mapFields hdi (·.setIfInBounds 0 (rawInt (AHD w t (i+1))))
 refine wpAny_bind (wpAny_setField g1 d1 (by simp) (wpAny_pure ⟨_,rfl,wpAny_pure (hQ _ ?_ ((Heap.SameBut.update ..).trans (Heap.SameBut.update ..)))⟩))
 exact ⟨_,Heap.get?_update_self _ g1 (Obj.isFreed_of_fields (Obj.data_mapFields d1 _)),(Obj.cls_mapFields ..).trans ((Obj.cls_mapFields ..).trans hci),by rw[Obj.data_mapFields d1];simp[rawInt]⟩
theorem AI9 {it:Addr} {Q:Option Value→Shared→Prop} (hh:A.handled=none) (hit:AZ3 w s.heap it a t es.size ep es.size) (hs:AIF s.heap a es ep t) (G:SGood w t es.size)
  (hQ:∀h',Heap.ExtBut it s.heap h'→Q none {s with heap:=h'}):wpAny (model prog w) A (pyNext (.ref it)) Q E s:=by
 obtain ⟨oi,hoi,hci,hdi⟩:=hit
 obtain ⟨oa,hoa,hca,hda⟩:=hs
 have hT:s.TypeIs (.ref it) "set_iterator":=⟨oi,hoi,hci⟩
 unfold pyNext
 refine wpAny_bind (wpAny_attempt (wpAny_callSpecial?_slot (name:=Str.ofString "__next__") hT sit_slot (wpAny_call_entry sit_slot hT AGB ?_ (AIP _))))
 show wpAny _ _ (fieldsOf (.ref it) >>= _) _ _ s
 refine wpAny_bind (AG7 hoi hdi ?_)
 show wpAny _ _ (setEntries a >>= _) _ _ s
 refine wpAny_bind (wpAny_setEntries_of hoa hda G.fits (AHS (c:=(((es.size:Nat):Int) != ((es.size:Nat):Int))=true) (by simp) ?_))
 show wpAny _ _ (setNext a (AHD w t es.size) es.size ep >>= _) _ _ s
 refine wpAny_bind (AD1 hoa hda G (Nat.le_refl _) ?_)
 rw[Array.getElem?_eq_none (by rw[X1];exact Nat.le_refl _)]
 show wpAny _ _ (setField (.ref it) 2 .none >>= _) _ _ s
 refine wpAny_bind (wpAny_setField hoi hdi (by simp) (wpAny_bind ?_))
 simp only[newExc,newTuple]
 refine wpAny_bind (wpAny_newObj_type (wpAny_bind (m:=firstArgMember _ _) (wpAny_of_eq (a:=Value.none) (by first | rfl | (simp only[firstArgMember];rfl)) (wpAny_newObj_type ?_ (by size_fits)))) (by size_fits))
 simp only[raiseNew]
 refine wpAny_bind (wpAny_handled ?_)
 rw[show A.in1.handled=none from hh]
 refine wpAny_bind (wpAny_pure (wpAny_throw ?_))
 refine wpAny_bind (wpAny_isInstance (b:=true) (T:="StopIteration") ⟨_,Heap.get?_push_size _ rfl,rfl⟩ isSubtype_stop (wpAny_pure (hQ _ ?_)))
 exact ((Heap.SameBut.update ..).extBut.push _).push _
theorem AGW {it:Addr} {i:Nat} {Q:Value→Shared→Prop} (hit:AZ3 w s.heap it a t es.size ep i) (hQ:Q (.ref it) s):wpAny (model prog w) A (pyIter (.ref it)) Q E s:=by
 obtain ⟨oi,hoi,hci,hdi⟩:=hit
 have hT:s.TypeIs (.ref it) "set_iterator":=⟨oi,hoi,hci⟩
 refine wpAny_pyIter_slot hT AJJ (wpAny_call_entry AJJ hT ACW ?_ (AEQ _))
 exact wpAny_pure ⟨_,rfl,"set_iterator",_,hT,sit_slot.lookup,hQ⟩
theorem AOK (hh:A.handled=none) (I:Addr) (hne:a≠I) (G:SGood w t es.size) :
  Walks prog w A I [I,a] [I] es.size (fun i v=>∃e,(ACU w a es ep)[i]?=some e∧v=e.2) (fun i h=>AZ3 w h I a t es.size ep i∧AIF h a es ep t) where
 sub:=fun b hb=>by simp at hb;simp[hb]
 frame:=fun _ _ _ st hk=>⟨let ⟨o,x,r⟩:=st.1;⟨o,hk I (by simp) o x,r⟩,let ⟨o,x,r⟩:=st.2;⟨o,hk a (by simp) o x,r⟩⟩
 item:=fun i s Q E hi st hQ=>by
  have hlt:i<(ACU w a es ep).size:=by rw[X1];exact hi
  refine AFT st.1 st.2 G (Array.getElem?_eq_getElem hlt) fun h' hit' hs'=>?_
  exact hQ _ h' s.toks ⟨_,Array.getElem?_eq_getElem hlt,rfl⟩ ⟨hit',let ⟨o,x,r⟩:=st.2;⟨o,hs'.extBut a o hne x,r⟩⟩ fun b o hb e=>hs'.extBut b o (fun h=>hb (by simp[h])) e
 done:=fun s Q E st hQ=>AI9 hh st.1 st.2 G fun h' he'=>hQ h' s.toks fun b o hb e=>he' b o (fun h=>hb (by simp[h])) e
 self:=fun _ _ _ _ st hQ=>AGW st.1 hQ
end
section
variable {prog:Program} {w:World} {A:Around} {E:Value→Shared→Prop} {s:Shared} {a:Addr} {es:Array (Int × Value)} {ep:Nat} {t:SetTable}
abbrev AQL (a:Addr) (n ep:Nat):Obj:={cls:=.type "set_iterator",data:=.fields #[rawInt 0,rawInt 0,.ref a,rawInt n,rawInt ep] }
theorem ASR {α:Type} {M:Model} {c:Prop} [Decidable c] {m m':Sem α} {Q:α→Shared→Prop} (hc:c) (h:wpAny M A m Q E s):wpAny M A (if c then m else m') Q E s:=by rw[if_pos hc];exact h
theorem AHE {Q:Value→Shared→Prop} (hs:AIF s.heap a es ep t) (G:SGood w t es.size) (hQ:Q (.ref s.heap.objs.size) {s with heap:=s.heap.push (AQL a es.size ep)}):wpAny (model prog w) A (pyIter (.ref a)) Q E s:=by
 obtain ⟨oa,hoa,hca,hda⟩:=hs
 have hT:s.TypeIs (.ref a) "set":=⟨oa,hoa,hca⟩
 refine wpAny_pyIter_slot hT F.slot_set_iter (wpAny_call_entry F.slot_set_iter hT AQM ?_ (F.args_set_iter_1 _))
 show wpAny _ _ (Builtin.Frozenset.sizeOf a >>= _) _ _ s
 unfold Builtin.Frozenset.sizeOf
 refine wpAny_bind (wpAny_bind (wpAny_setEntries_of hoa hda G.fits (wpAny_pure ?_)))
 refine wpAny_bind ?_
 unfold setDrawn
 refine wpAny_bind (wpAny_setState_of hoa hda G.fits (wpAny_bind (ABW (wpAny_pure ?_))))
 refine AHS (c:=(!byT w&&(!t.plain&&decide (es.size>1)))=true) ?_ (wpAny_bind (wpAny_pure ?_))
 ·rcases G.ok with z | z
  ·simp[z]
  ·simp[z.2.1]
 refine wpAny_bind (wpAny_setEpoch_of hoa hda G.fits (wpAny_bind ?_))
 refine wpAny_newObj_type (wpAny_pure ⟨_,rfl,"set_iterator",_,⟨_,Heap.get?_push_size _ rfl,rfl⟩,sit_slot.lookup,?_⟩) (by size_fits)
 exact hQ
theorem AW9:typeLookup (.type "set") "__len__" = pure (some (.builtin "set.__len__")):=by rw[typeLookup_type,builtinLookup_eq_fast];kernel_rfl
theorem AHM {Q:Bool→Shared→Prop} (hT:s.TypeIs (.ref a) "set") (hQ:Q false s):wpAny (model prog w) A (Builtin.List.listLengthHint (.ref a)) Q E s:=by
 unfold Builtin.List.listLengthHint
 refine wpAny_bind (wpAny_specialOf hT AW9 ?_)
 dsimp only
 rw[show splitId "set.__len__" = some ("set","__len__") from by kernel_rfl]
 dsimp only
 refine wpAny_bind (wpAny_isInstance hT sub_set_self ?_)
 refine AHS (by simp) (ASR (by kernel_rfl) (wpAny_bind (wpAny_typeOf hT ?_)))
 exact wpAny_pure hQ
theorem ACS {Q:List Value→Shared→Prop} (hh:A.handled=none) (hs:AIF s.heap a es ep t) (G:SGood w t es.size) (hn:es.size≤1000)
  (hQ:∀h' tk,(∀b o,s.heap.get? b=some o→h'.get? b=some o)→s.toks≤tk→s.heap.objs.size<h'.objs.size→Q ((ACU w a es ep).toList.map (·.2)) {s with heap:=h',toks:=tk}):wpAny (model prog w) A (collect (.ref a)) Q E s:=by
 obtain ⟨oa,hoa,hca,hda⟩:=id hs
 have hlt:a<s.heap.objs.size:=Heap.lt_size hoa
 unfold collect
 refine wpAny_bind (wpAny_runValue (codeAny_builtin F.entry_proto_collect ?_))
 rw[Around.under_plainId F.plain_proto_collect _]
 show wpAny _ A.in1 (newList [] >>= fun l=>again (.builtin "list.__iadd__" ⟨[l,.ref a],[]⟩)) _ _ s
 refine wpAny_bind (wpAny_newObj_type (wpAny_pure ⟨plainId_quiet F.plain_list_iadd _,codeAny_builtin F.entry_list_iadd ?_⟩))
 rw[Around.under_plainId F.plain_list_iadd _]
 have g1:(s.heap.push (PyProof.Rows.seqObj "list" #[] 0)).get? a=some oa:=Heap.get?_push_of_some _ hoa
 have hs1:AIF (s.heap.push (PyProof.Rows.seqObj "list" #[] 0)) a es ep t:=⟨oa,g1,hca,hda⟩
 have hT1:Shared.TypeIs {s with heap:=s.heap.push (PyProof.Rows.seqObj "list" #[] 0)} (.ref a) "set":=⟨oa,g1,hca⟩
 show wpAny _ A.in1 (Builtin.List.listExtendWith (.ref s.heap.objs.size) (.ref a) (.ref s.heap.objs.size)) _ _ {s with heap:=s.heap.push (PyProof.Rows.seqObj "list" #[] 0)}
 unfold Builtin.List.listExtendWith
 refine wpAny_bind (wpAny_typeOf hT1 (AHS ?_ (wpAny_bind (AHE hs1 G ?_))))
 ·have q:(s.heap.objs.size == a)=false:=by simpa using Nat.ne_of_gt hlt
  simp[Builtin.List.listSameRef,q]
 refine wpAny_bind (wpAny_holding (AHM ⟨oa,Heap.get?_push_of_some _ g1,hca⟩ (ASR (by kernel_rfl) (wpAny_bind (wpAny_rule (wpAny_bind ?_))))))
 have hz:(s.heap.push (PyProof.Rows.seqObj "list" #[] 0)).objs.size=s.heap.objs.size+1:=Heap.size_push ..
 have k0:((s.heap.push (PyProof.Rows.seqObj "list" #[] 0)).push (AQL a es.size ep)).get? s.heap.objs.size=some (PyProof.Rows.seqObj "list" #[] 0):=Heap.get?_push_of_some _ (Heap.get?_push_size _ rfl)
 show wpAny _ A.in1 (updateSeq s.heap.objs.size (·.push .none) >>= fun _=>updateSeq s.heap.objs.size (·.pop)) _ _ _
 refine wpAny_bind (wpAny_updateSeq k0 rfl ?_)
 have k1:=Heap.get?_update_self (Obj.mapSeq (·.push Value.none)) k0 rfl
 refine wpAny_updateSeq k1 rfl ?_
 have k2:=Heap.get?_update_self (Obj.mapSeq (·.pop)) k1 rfl
 have oth:∀b o,b≠s.heap.objs.size→((s.heap.push (PyProof.Rows.seqObj "list" #[] 0)).push (AQL a es.size ep)).get? b=some o→((((s.heap.push (PyProof.Rows.seqObj "list" #[] 0)).push (AQL a es.size ep)).update s.heap.objs.size (Obj.mapSeq (·.push Value.none))).update s.heap.objs.size (Obj.mapSeq (·.pop))).get? b=some o :=
  fun b o hb e=>(Heap.get?_update_other _ _ (Ne.symm hb)).trans ((Heap.get?_update_other _ _ (Ne.symm hb)).trans e)
 have hne:a≠(s.heap.push (PyProof.Rows.seqObj "list" #[] 0)).objs.size:=by rw[hz];exact Nat.ne_of_lt (Nat.lt_succ_of_lt hlt)
 have hne2:(s.heap.push (PyProof.Rows.seqObj "list" #[] 0)).objs.size≠s.heap.objs.size:=by rw[hz];exact Nat.succ_ne_self _
 have W:=(AOK (prog:=prog) (w:=w) (A:=A.in1) (ep:=ep) (hh:A.in1.handled=none) _ hne G).toS
 refine wpAny_pure ⟨plainId_quiet F.plain_extend_loop _,codeAny_extend_loopS W (by rw[sizeLine_eq];omega) s.heap.objs.size ?_ _ es.size 0 _ _ _ rfl (Nat.zero_le _) ⟨?_,?_⟩ k2 (ItemsOf.nil _) fun s' acc c mv hS hacc=>?_⟩
 ·simp only[List.mem_cons,List.not_mem_nil,or_false,not_or]
  exact ⟨hne2.symm,Nat.ne_of_gt hlt⟩
 ·refine ⟨_,oth _ _ hne2 (Heap.get?_push_size _ rfl),rfl,?_⟩
  simp[AHD,AQP]
 ·exact ⟨oa,oth _ _ (Nat.ne_of_lt hlt) (Heap.get?_push_of_some _ g1),hca,hda⟩
 obtain ⟨h',g',d',tk',os'⟩:=s'
 have eg:g'=s.gens:=mv.gens
 have ed:d'=s.drawn:=mv.drawn
 have eo:os'=s.os:=mv.os
 have et:s.toks≤tk':=mv.toks
 subst eg;subst ed;subst eo
 show wpAny _ A (load s.heap.objs.size >>= _) _ _ _
 refine wpAny_bind (wpAny_load hS (wpAny_pure ?_))
 have ea:acc.toList=(ACU w a es ep).toList.map (·.2):=by
  refine List.ext_getElem? fun j=>?_
  rw[List.getElem?_map,Array.getElem?_toList,Array.getElem?_toList]
  by_cases q:j<es.size
  ·have q1:j<acc.size:=by rw[hacc.1];exact q
   rw[Array.getElem?_eq_getElem q1]
   obtain ⟨e,x1,x2⟩:=hacc.2 j _ (Array.getElem?_eq_getElem q1)
   rw[x1,Option.map_some,←x2]
  ·rw[Array.getElem?_eq_none (by rw[hacc.1];omega),Array.getElem?_eq_none (by rw[X1];omega)]
   rfl
 rw[ea]
 refine hQ h' tk' (fun b o e=>?_) et (Heap.lt_size hS)
 have hb:=Heap.lt_size e
 refine mv.heap b o ?_ (oth b o (Nat.ne_of_lt hb) (Heap.get?_push_of_some _ (Heap.get?_push_of_some _ e)))
 simp only[List.mem_cons,List.not_mem_nil,or_false,not_or]
 exact ⟨Nat.ne_of_lt hb,by rw[hz];exact Nat.ne_of_lt (Nat.lt_succ_of_lt hb)⟩
theorem AEK {ns:List Int} {Q:Value→Shared→Prop} (hh:A.handled=none) (hs:AIF s.heap a es ep t) (G:SGood w t es.size) (hn:es.size<64) (hI:PyProof.Rows.IntsAre (es.toList.map (·.2)) ns)
  (hQ:∀h' tk D out c ns',(∀b o,s.heap.get? b=some o→h'.get? b=some o)→s.toks≤tk→s.heap.objs.size≤D→h'.get? D=some (PyProof.Rows.seqObj "list" out c)→PyProof.Rows.IntsAre out.toList ns'→ns'.Perm ns→ns'.Pairwise (·≤·)→Q (.ref D) {s with heap:=h',toks:=tk}) :
  wpAny (model prog w) A (call (.builtin "sorted") [.ref a]) Q E s:=by
 refine Calls.call_function_entry PyProof.Rows.kind_sorted PyProof.Rows.plain_sorted PyProof.Rows.entry_sorted (PyProof.Rows.args_sorted1 _) ?_
 unfold Builtin.«sorted»
 refine wpAny_bind (m:=checkCount "sorted" 1 1 _) (wpAny_pure (wpAny_bind (ACS hh hs G (by omega) fun h1 tk1 hk ht hz=>?_)))
 obtain ⟨ns1,i1,p1⟩:∃ns1,PyProof.Rows.IntsAre ((ACU w a es ep).toList.map (·.2)) ns1∧ns1.Perm ns:=by
  have pm:List.Perm ((ACU w a es ep).toList.map (·.2)) (es.toList.map (·.2)):=(AFK w a es ep).map _
  refine ⟨_,PyProof.Rows.intsAre_map _ fun v hv=>hI.all v (pm.mem_iff.mp hv),?_⟩
  rw[←hI.nums]
  exact pm.map _
 have hl:((ACU w a es ep).toList.map (·.2)).length<64:=by rw[List.length_map,Array.length_toList,X1];exact hn
 refine wpAny_bind (wpAny_newList ?_ (by rw[sizeLine_eq];omega))
 have hoL:(h1.push (PyProof.Rows.seqObj "list" ((ACU w a es ep).toList.map (·.2)).toArray 0)).get? h1.objs.size=some (PyProof.Rows.seqObj "list" ((ACU w a es ep).toList.map (·.2)).toArray 0):=Heap.get?_push_size _ rfl
 refine wpAny_bind (wpAny_holding (wpAny_call_entry PyProof.Rows.slot_list_sort ⟨_,hoL,rfl⟩ PyProof.Rows.entry_list_sort (PyProof.Rows.list_sort_tree hoL i1 hl fun out ns' a1 a2 a3=>⟨_,rfl,?_⟩) (PyProof.Rows.args_list_sort _)))
 refine wpAny_pure ⟨_,rfl,?_⟩
 have kk:∀b o,b≠h1.objs.size→h1.get? b=some o→(PyProof.Rows.sortedHeap (h1.push (PyProof.Rows.seqObj "list" ((ACU w a es ep).toList.map (·.2)).toArray 0)) h1.objs.size ((ACU w a es ep).toList.map (·.2)) out).get? b=some o:=fun b o hb e =>
  (Heap.get?_update_other _ _ (Ne.symm hb)).trans (Heap.get?_push_of_some _ (Heap.get?_push_of_some _ ((Heap.get?_update_other _ _ (Ne.symm hb)).trans (Heap.get?_push_of_some _ e))))
 obtain ⟨e1,x1⟩:∃e1,((h1.push (PyProof.Rows.seqObj "list" ((ACU w a es ep).toList.map (·.2)).toArray 0)).update h1.objs.size (Obj.mapSeq fun _=>#[])).get? h1.objs.size=some (PyProof.Rows.seqObj "list" #[] e1):=⟨_,PyProof.Rows.get?_update_seq hoL _⟩
 refine hQ _ tk1 h1.objs.size out _ ns' (fun b o e=>kk b o (Nat.ne_of_lt (Heap.lt_size (hk b o e))) (hk b o e)) ht (Nat.le_of_lt hz) (PyProof.Rows.get?_update_seq (xs:=#[]) (n:=e1) (Heap.get?_push_of_some _ (Heap.get?_push_of_some _ x1)) _) a1 (a2.trans p1) a3
end
def AdR (p:Array (Int × Value) × SetTable) (h:Int) (x:Value):Array (Int × Value) × SetTable :=
 if (!(layNew p.2 p.1 h x).2.2.1&&(layNew p.2 p.1 h x).2.1.tooFull)=true then ((relayAll (layNew p.2 p.1 h x).2.1 (layNew p.2 p.1 h x).1 (SetTable.grown (layNew p.2 p.1 h x).1.size)).1,(relayAll (layNew p.2 p.1 h x).2.1 (layNew p.2 p.1 h x).1 (SetTable.grown (layNew p.2 p.1 h x).1.size)).2.1)
 else ((layNew p.2 p.1 h x).1,(layNew p.2 p.1 h x).2.1)
def IsSet0 (h:Heap) (a:Addr) (p:Array (Int × Value) × SetTable):Prop:=∃o ep,h.get? a=some o∧o.cls=.type "set"∧o.data=.set p.1 ep p.2
section
variable {prog:Program} {w:World} {A:Around} {E:Value→Shared→Prop} {s:Shared} {a:Addr} {p:Array (Int × Value) × SetTable}
theorem AOS {g:Bool→Sem Unit} (hg:g=fun b=>match b with | true=>rule "set.scan.the-table-gave-way" | false=>pure ()) (b:Bool) {Q:Unit→Shared→Prop} (h:Q () s):wpAny (model prog w) A (g b) Q E s:=by
 subst hg
 cases b
 ·exact wpAny_pure h
 ·exact wpAny_rule h
theorem AJ4 {a:Addr} {o:Obj} {es:Array (Int × Value)} {ep:Nat} {t:SetTable} {es':Array (Int × Value)} {t':SetTable} {Q:Unit→Shared→Prop} (ho:s.heap.get? a=some o) (hd:o.data=.set es ep t) (hz:es'.size≤sizeLine)
  (h:∀h',Heap.SameBut a s.heap h'→h'.get? a=some {o with data:=.set es' (ep+1) t'}→Q () {s with heap:=h'}):wpAny (model prog w) A (storeSet a es' t') Q E s:=by
 refine wpAny_storeSet_of ho hd (h _ (Heap.SameBut.update ..) ?_) hz
 have q:=Heap.get?_update_self (Obj.putSet es' t') ho (by rw[putSet_of es' t' hd];rfl)
 rw[putSet_of es' t' hd]at q
 exact q
theorem AY4 {i:Int} {tk:Tok} {Q:Bool→Shared→Prop} (hs:IsSet0 s.heap a p) (hf:p.2.fits p.1.size=true) (hel:ElemsOf (intKind prog w) p.1.toList) (hz:p.1.size<100)
  (hno:∀e∈p.1.toList,(intKind prog w).is i e.2=false) (hpl:(layNew p.2 p.1 ((intKind prog w).hash i) (.int i tk)).2.1.plain=true)
  (hQ:∀h',Heap.SameBut a s.heap h'→IsSet0 h' a (AdR p ((intKind prog w).hash i) (.int i tk))→Q true {s with heap:=h'}):wpAny (model prog w) A (setAddHashed a (.int i tk) ((intKind prog w).hash i)) Q E s:=by
 obtain ⟨o,ep,ho,hc,hd⟩:=hs
 have hb:p.1.size<scanBound:=by unfold scanBound;omega
 unfold setAddHashed setAddHashedIn
 refine wpAny_holding (wpAny_bind (wpAny_setState_of ho hd hf ?_))
 dsimp only
 rw[byScan_of (x:=.int i tk) rfl hb hel]
 unfold setAddByScan
 refine wpAny_bind (wpAny_bind (wpAny_rule (wpAny_bind (wpAny_setScan_of (intKind_is _ _ _ _) ho hd hf hel ?_))))
 rw[show List.findIdx? (fun e=>(intKind prog w).is i e.2) p.1.toList=none from List.findIdx?_eq_none_iff.mpr hno]
 dsimp only
 refine wpAny_bind (AOS rfl _ ?_)
 rw[if_pos hpl,hashByValue_scannable 8 (x:=.int i tk) rfl]
 refine wpAny_bind (wpAny_pure ?_)
 simp only[show plainKind (Value.int i tk)=true from rfl,↓reduceIte]
 have e1:=(layNew_perm p.2 p.1 ((intKind prog w).hash i) (.int i tk)).length_eq
 unfold AdR at hQ
 generalize layNew p.2 p.1 ((intKind prog w).hash i) (.int i tk)=L at e1 hQ ⊢
 rw[Array.length_toList,Array.toList_push,List.length_append,Array.length_toList]at e1
 have z1:L.1.size≤sizeLine:=by rw[e1,sizeLine_eq];simp only[List.length_cons,List.length_nil];omega
 refine wpAny_bind (AJ4 ho hd z1 fun h1 k1 g1=>?_)
 by_cases q:(!L.2.2.1&&L.2.1.tooFull)=true
 ·rw[if_pos q]at hQ ⊢
  have e2:=(relayAll_perm L.2.1 L.1 (SetTable.grown L.1.size)).length_eq
  rw[Array.length_toList,Array.length_toList]at e2
  refine wpAny_bind (AOS rfl _ (wpAny_bind (AJ4 g1 rfl (by rw[e2];exact z1) fun h2 k2 g2=>wpAny_pure (wpAny_pure (hQ h2 (k1.trans k2) ⟨_,_,g2,hc,rfl⟩)))))
 ·rw[if_neg q]at hQ ⊢
  exact wpAny_pure (wpAny_pure (hQ h1 k1 ⟨_,_,g1,hc,rfl⟩))
end
def ALD:List Int→List (List Int)
 | []=>[[]]
 | a::r=>ALD r++(ALD r).map (a::·)
abbrev L5:List (List Int):=ALD [0,1,2,3,4]
def vI (tk:Int→Tok) (i:Int):Value:=.int i (tk i)
def stO (tk:Int→Tok) (led:Bool) (l:List Int):Array (Int × Value) × SetTable:=l.foldl (fun p i=>AdR p i (vI tk i)) (#[],.fresh 0 0 led)
structure Ck (tk:Int→Tok) (led:Bool) (l:List Int):Prop where
 es:(stO tk led l).1=(l.map fun i=>(i,vI tk i)).toArray
 ft:(stO tk led l).2.fits l.length=true
 pl:(stO tk led l).2.plain=true
 ld:(stO tk led l).2.led=led
 pc:(stO tk led l).2.place=(l.map Int.toNat).toArray
 st:(List.range (l.length+1)).all (fun j=>SetTable.below (l.map Int.toNat).toArray (AQP (stO tk led l).2 j) == j)=true
 nx:[0,1,2,3,4].all (fun i=>l.contains i||(layNew (stO tk led l).2 (stO tk led l).1 i (vI tk i)).2.1.plain)=true
theorem ck5 (tk:Int→Tok) (led:Bool):∀l∈L5,Ck tk led l:=by
 have h:∀(m:List (List Int)),m=L5→∀l∈m,Ck tk led l:=by
  intro m hm
  rw[show L5=[[],[4],[3],[3,4],[2],[2,4],[2,3],[2,3,4],[1],[1,4],[1,3],[1,3,4],[1,2],[1,2,4],[1,2,3],[1,2,3,4],[0],[0,4],[0,3],[0,3,4],[0,2],[0,2,4],[0,2,3],[0,2,3,4],[0,1],[0,1,4],[0,1,3],[0,1,3,4],[0,1,2],[0,1,2,4],[0,1,2,3],[0,1,2,3,4]] from rfl]at hm
  subst hm
  simp only[List.forall_mem_cons]
  repeat' apply And.intro
  all_goals first | exact ⟨by kernel_rfl,by kernel_rfl,by kernel_rfl,by kernel_rfl,by kernel_rfl,by kernel_rfl,by kernel_rfl⟩ | (intro x hx;cases hx)
 exact h _ rfl
theorem AVG:∀l∈L5,∀i∈List.range 6,l.take i∈L5∧(i<l.length→l.getD i 0∈[0,1,2,3,4]∧l.getD i 0 ∉ l.take i∧l.take (i+1)=l.take i++[l.getD i 0]):=by decide +kernel
theorem AF3:∀l∈L5,l.length≤5∧l.Nodup∧l.Pairwise (·≤·):=by decide +kernel
theorem AbC:∀l∈L5,∀x∈l,x∈([0,1,2,3,4]:List Int):=by decide +kernel
theorem AX3 {vs:List Value} {ns:List Int} (h:PyProof.Rows.IntsAre vs ns) (nd:ns.Nodup):∃tk:Int→Tok,vs=ns.map (vI tk):=by
 induction h with
 | nil=>exact ⟨fun _=>0,rfl⟩
 | cons n t h ih =>
  obtain ⟨hn,hd⟩:=List.nodup_cons.mp nd
  obtain ⟨tk,e⟩:=ih hd
  refine ⟨fun x=>if x=n then t else tk x,?_⟩
  rw[List.map_cons,e]
  refine congr (congrArg _ ?_) (List.map_congr_left fun x hx=>?_)
  ·simp[vI]
  ·have:x≠n:=fun z=>hn (z▸hx)
   simp[vI,this]
theorem AN3 {tk:Int→Tok}:∀(l:List Int),PyProof.Rows.IntsAre (l.map (vI tk)) l
 | []=>.nil
 | a::r=>.cons a _ (AN3 r)
section
variable {prog:Program} {w:World}
theorem AYL:∀i∈([0,1,2,3,4]:List Int),(intKind prog w).hash i=i:=by
 intro i hi
 simp only[List.mem_cons,List.not_mem_nil,or_false]at hi
 rcases hi with rfl | rfl | rfl | rfl | rfl<;>kernel_rfl
variable {A:Around} {R:Result→Shared→Prop} {I:Addr} {fp wr:List Addr} {G:Array GenState→Array GenState→Prop} {n:Nat} {P:Nat→Value→Prop} {St:Nat→Shared→Prop}
theorem IsSet0.keep {h h':Heap} {a:Addr} {p:Array (Int × Value) × SetTable} (x:IsSet0 h a p) (k:∀o,h.get? a=some o→h'.get? a=some o):IsSet0 h' a p:=let ⟨o,ep,ho,r⟩:=x;⟨o,ep,k o ho,r⟩
theorem AQS (W:WalksS prog w A.in1 I fp wr G n P St) (S:Addr) (hSf:S ∉ fp) {tk:Int→Tok} {led:Bool} {ns:List Int} (hns:ns∈L5) (hn:ns.length=n) (hP:∀i v,i<n→P i v→v=vI tk (ns.getD i 0)) :
  ∀(k i:Nat) (s:Shared),n-i=k→i≤n→St i s→IsSet0 s.heap S (stO tk led (ns.take i))→(∀s',Moved (S::wr) G s s'→IsSet0 s'.heap S (stO tk led ns)→R (.ok (.ret .none)) s') →
   codeAny (model prog w) A (.builtin "set.update.loop" ⟨[.ref S,.ref I],[]⟩) R s:=by
 have hSw:S ∉ wr:=fun h=>hSf (W.sub _ h)
 have hsub:∀b∈wr,b∈S::wr:=fun b hb=>.tail _ hb
 intro k
 induction k with
 | zero =>
  intro i s hk hi hst hS hR
  have hin:i=n:=by omega
  subst hin
  refine codeAny_builtin PyProof.Rows.F.entry_set_update_loop ?_;rw[Around.under_plainId PyProof.Rows.F.plain_set_update_loop _]
  show wpAny _ A.in1 (pyNext (.ref I) >>= _) _ _ s
  refine wpAny_bind (W.done s _ _ hst fun s' hm=>wpAny_pure (hR s' (hm.mono hsub) ?_))
  rw[←hn,List.take_length]at hS
  exact hS.keep fun o e=>hm.heap S o hSw e
 | succ k ih =>
  intro i s hk hi hst hS hR
  have hlt:i<n:=by omega
  obtain ⟨m1,m2⟩:=AVG ns hns i (List.mem_range.mpr (by have:=(AF3 ns hns).1;omega))
  obtain ⟨m2,m3,m4⟩:=m2 (by omega)
  have c:=ck5 tk led _ m1
  have m5:(ns.take i).length≤5:=(AF3 _ m1).1
  refine codeAny_builtin PyProof.Rows.F.entry_set_update_loop ?_;rw[Around.under_plainId PyProof.Rows.F.plain_set_update_loop _]
  show wpAny _ A.in1 (pyNext (.ref I) >>= _) _ _ s
  refine wpAny_bind (W.item i s _ _ hlt hst fun v s' hPv hst' hm=>?_)
  have ev:=hP i v hlt hPv
  subst ev
  have hS':=hS.keep fun o e=>hm.heap S o hSw e
  generalize hj:ns.getD i 0=j at *
  show wpAny _ A.in1 (holding [vI tk j] (setAdd S (vI tk j)) >>= _) _ _ s'
  refine wpAny_bind (wpAny_holding ?_)
  unfold setAdd
  refine wpAny_holding (wpAny_bind ((intKind prog w).pyHash (k:=j) (intKind_is _ _ _ _) ?_))
  have eh:=AYL (prog:=prog) (w:=w) j m2
  have ez:(stO tk led (ns.take i)).1.size=(ns.take i).length:=by rw[c.es];simp
  refine AY4 (s:={s' with toks:=s'.toks+1}) hS' (by rw[ez];exact c.ft) ?_ (by rw[ez];omega) ?_ ?_ fun h' hsb hS2=>?_
  ·intro e he
   rw[c.es]at he
   obtain ⟨x,hx,rfl⟩:=List.mem_map.mp (show e∈(ns.take i).map fun i=>(i,vI tk i) from he)
   exact ⟨⟨x,intKind_is _ _ _ _,(AYL x (AbC _ m1 x hx)).symm⟩,rfl⟩
  ·intro e he
   rw[c.es]at he
   obtain ⟨x,hx,rfl⟩:=List.mem_map.mp (show e∈(ns.take i).map fun i=>(i,vI tk i) from he)
   refine (KeyKind.is_eq_decide (intKind_is prog w x (tk x)) j).trans ?_
   exact decide_eq_false fun z=>m3 (z▸hx)
  ·rw[eh]
   have:=List.all_eq_true.mp c.nx j m2
   rw[show (ns.take i).contains j=false from by simpa using m3,Bool.false_or]at this
   exact this
  ·rw[eh]at hS2
   have hSi:IsSet0 h' S (stO tk led (ns.take (i+1))):=by
    rw[m4,stO,List.foldl_append]
    exact hS2
   refine wpAny_pure ⟨plainId_quiet PyProof.Rows.F.plain_set_update_loop _,ih (i+1) _ (by omega) hlt (W.frame _ s' _ _ hst' (Nat.le_succ _) fun b hb o e=>?_) hSi fun s'' hm'' hS''=>?_⟩
   ·rw[hsb.2 b (fun h:b=S=>hSf (h▸hb))];exact e
   ·refine hR s'' (Moved.trans W.gtrans ((hm.mono hsub).then_heap (Nat.le_succ _) fun b o hb e=>?_) hm'') hS''
    rw[hsb.2 b (fun h:b=S=>hb (h▸List.mem_cons_self))];exact e
end
section
variable {prog:Program} {w:World} {A:Around} {E:Value→Shared→Prop} {s:Shared}
abbrev AQY (led:Bool):Obj:={cls:=.type "set",dict:=none,data:=.set #[] 0 (.fresh 0 0 led)}
theorem AUF (a:Value) {Q₁:Value→Shared→Prop} (h:Q₁ (.ref s.heap.objs.size) {s with heap:=s.heap.push (AQY !byT w)}):codeAny (model prog w) A (.call (.builtin "set.__new__") ⟨[.type "set",a],[]⟩) (wants Q₁ E) s:=by
 refine codeAny_of_tree (?_:wpAny _ A.in1 (do checkBuiltinCall "set.__new__" ⟨[.type "set",a],[]⟩;again (.builtin "set.__new__" ⟨[.type "set",a],[]⟩)) _ _ s)
 refine wpAny_bind (wpAny_of_eq (F.newCall_set_1 a) (wpAny_pure ⟨plainId_quiet F.plain_set_new _,codeAny_builtin F.entry_set_new ?_⟩));rw[Around.under_plainId F.plain_set_new _]
 unfold Builtin.«set.__new__» Builtin.Frozenset.newClass;have hsub:=sub_set_self
 obtain ⟨hp,g,d,tk,os⟩:=s
 dsimp only;wp_walk
 refine wpAny_askSetting (wpAny_pure ?_);dsimp only;simp only[newObj]
 refine wpAny_bind (wpAny_alloc (wpAny_pure (wpAny_pure ?_)))
 exact h
theorem AQB {l:Addr} {ns:List Int} {items:Array Value} {Q:Value→Shared→Prop} (hh:A.handled=none) (hl:s.heap.IsList l items) (hi:PyProof.Rows.IntsAre items.toList ns) (hns:ns∈L5)
  (h:∀(h':Heap) (tk:Nat) (tf:Int→Tok),IsSet0 h' s.heap.objs.size (stO tf (!byT w) ns)→(∀b o,b<s.heap.objs.size→s.heap.get? b=some o→h'.get? b=some o)→s.toks≤tk→Q (.ref s.heap.objs.size) {s with heap:=h',toks:=tk}) :
  wpAny (model prog w) A (call (.type "set") [.ref l]) Q E s:=by
 obtain ⟨c,tl,hmro⟩:=F.called_set.mro
 have hmade:=F.called_set.made;have hsub:=F.called_set.sub
 refine wpAny_call (codeAny_of_tree (?_:wpAny _ _ (callAny (.type "set") _) _ _ _))
 refine wpAny_pure ⟨Code.quiet_builtin _ (by decide +kernel),codeAny_builtin F.entry_type_call ?_⟩;rw[Around.under_plain (weight_type_call_type "set" [.ref l] []) rfl]
 have h1:=F.called_set.notType;have h2:=F.called_set.canCreate;have hct:=F.typeCall_set_1 (.ref l)
 repeat (any_goals (first | assumption | wp_step))
 refine codeAny_mono (AUF (.ref l) (E:=E) (Q₁:=fun obj s₁=>obj=.ref s.heap.objs.size∧s₁={s with heap:=s.heap.push (AQY !byT w)}) ⟨rfl,rfl⟩) fun r s₁ hr=>?_
 cases r with
 | error e=>exact hr
 | ok fl =>
  cases fl with
  | ret obj =>
   obtain ⟨rfl,rfl⟩:=hr
   have hS:(s.heap.push (AQY !byT w)).get? s.heap.objs.size=some (AQY !byT w):=Heap.get?_push_size _ rfl
   have hT:Shared.TypeIs {s with heap:=s.heap.push (AQY !byT w)} (.ref s.heap.objs.size) "set":=⟨_,hS,rfl⟩
   have hli:=F.called_set.init.lookup;have hbi:=F.called_set.init.bind (.ref s.heap.objs.size)
   repeat (any_goals (first | assumption | wp_step))
   refine codeAny_mono (codeAny_call_builtin (R:=wants (fun r s₂=>r=.none∧∃h' tk tf,s₂={s with heap:=h',toks:=tk}∧IsSet0 h' s.heap.objs.size (stO tf (!byT w) ns)∧(∀b o,b<s.heap.objs.size→s.heap.get? b=some o→h'.get? b=some o)∧s.toks≤tk) E) F.called_set.init.plain F.entry_set_init (check_set_init_1 hT ?_)) fun r₂ s₂ hr₂=>?_
   ·obtain ⟨ol,hol,hcl,nl,hdl⟩:=hl
    obtain ⟨ocls,odict,odata,oslots⟩:=ol
    simp only at hcl hdl;subst hcl;subst hdl
    have hol':(s.heap.push (AQY !byT w)).get? l=some {cls:=.type "list",dict:=odict,data:=.seq items nl,slots:=oslots}:=Heap.get?_push_of_some _ hol
    have hsls:=F.sub_list_set;have hslf:=F.sub_list_frozenset;have hne:(Value.type "list" == Value.type "dict")=false:=by decide
    have hl1:(s.heap.push (AQY !byT w)).IsList l items:=⟨_,hol',rfl,nl,rfl⟩
    obtain ⟨tf,etf⟩:=AX3 hi (AF3 ns hns).2.1
    unfold Builtin.«set.__init__» noKeywords Builtin.Frozenset.updateFrom;generalize hPI:pyIter=PI;wp_walk;subst hPI
    refine wpAny_pyIter_list hl1 (wpAny_bind (wpAny_runValue ?_))
    have hlS:l<s.heap.objs.size:=Heap.lt_size hol
    have hz:(s.heap.push (AQY !byT w)).objs.size=s.heap.objs.size+1:=Heap.size_push ..
    have hneI:l≠(s.heap.push (AQY !byT w)).objs.size:=by rw[hz];exact Nat.ne_of_lt (Nat.lt_succ_of_lt hlS)
    have hsz:items.size=ns.length:=by rw[←Array.length_toList,etf,List.length_map]
    refine AQS ((Walks.list (by simp[hh]) _ l hneI items).toS) s.heap.objs.size ?_ (tk:=tf) (led:=!byT w) hns hsz.symm ?_ items.size 0 _ rfl (Nat.zero_le _) ⟨⟨_,Heap.get?_push_size _ rfl,rfl,rfl⟩,hl1.push _⟩ ?_ ?_
    ·rw[hz];simp only[List.mem_cons,List.not_mem_nil,or_false,not_or]
     exact ⟨Nat.ne_of_lt (Nat.lt_succ_self _),Nat.ne_of_gt hlS⟩
    ·intro i v hlt hv
     have q:items.toList[i]?=some v:=by rw[Array.getElem?_toList];exact hv
     rw[etf,List.getElem?_map]at q
     rw[hsz]at hlt
     rw[List.getElem?_eq_getElem hlt]at q
     have q2:vI tf ns[i]=v:=Option.some.inj q
     rw[←q2,List.getD_eq_getElem?_getD,List.getElem?_eq_getElem hlt]
     rfl
    ·exact ⟨_,_,Heap.get?_push_of_some _ hS,rfl,rfl⟩
    ·intro s' hm hS'
     obtain ⟨h',g',d',tk',os'⟩:=s'
     have eg:g'=s.gens:=hm.gens
     have ed:d'=s.drawn:=hm.drawn
     have eo:os'=s.os:=hm.os
     have et:s.toks≤tk':=hm.toks
     subst eg;subst ed;subst eo
     refine wpAny_pure (wpAny_pure ⟨rfl,h',tk',tf,rfl,hS',fun b o hb e=>?_,et⟩)
     refine hm.heap b o ?_ (Heap.get?_push_of_some _ (Heap.get?_push_of_some _ e))
     rw[hz];simp only[List.mem_cons,List.not_mem_nil,or_false,not_or]
     exact ⟨Nat.ne_of_lt hb,Nat.ne_of_lt (Nat.lt_succ_of_lt hb)⟩
   ·cases r₂ with
    | error e=>exact hr₂
    | ok fl₂ =>
     cases fl₂ with
     | ret r =>
      obtain ⟨rfl,h',tk,tf,rfl,q1,q2,q3⟩:=hr₂
      repeat (any_goals (first | assumption | wp_step))
      exact h _ _ _ q1 q2 q3
     | _=>exact hr₂.elim
  | _=>exact hr.elim
end
end Tr
end
section
namespace Tr
open PySem hiding start
open PyProof.Rows hiding St
open L2 PySem.Spec
section
variable {X:Cx} {Ek:EK}
theorem Ac2 {w:World} {tf:Int→Tok} {ns:List Int} (h:ns∈L5):SGood w (stO tf (!byT w) ns).2 (stO tf (!byT w) ns).1.size:=by
 have c:=ck5 tf (!byT w) ns h
 have ez:(stO tf (!byT w) ns).1.size=ns.length:=by rw[c.es];simp
 rw[ez]
 refine ⟨c.ft,?_⟩
 cases hb:byT w with
 | true=>exact .inl rfl
 | false =>
  refine .inr ⟨?_,?_,fun j hj=>?_⟩
  ·have:=c.ld;rw[hb]at this;exact this
  ·have:=c.pl;rw[hb]at this;exact this
  ·have:=List.all_eq_true.mp c.st j (List.mem_range.mpr (by omega))
   rw[←c.pc]at this
   rw[hb]at this
   exact eq_of_beq this
theorem ADG:∀(xs:List (Int × Tok)),IntsAre (xs.map fun p=>Value.int p.1 p.2) (xs.map (·.1))
 | []=>.nil
 | p::r=>.cons p.1 p.2 (ADG r)
theorem AX0 {us:List Value} {ns:List Int} (h:IntsAre us ns):Vals (ns.map V.int) us:=by
 induction h with
 | nil=>exact .nil
 | cons n t h ih=>exact .cons ⟨t,rfl⟩ ih
def tSS (K:PySem.W.Frag) (ta:TA):TE:=fun σ H Q=>ta σ H fun vs H1=>∃x ts ns,vs=[x]∧Rep K H1 (.list ts) x∧P8 ts=some ns∧ns∈L5∧∀p,H1 p=none→Q (.ref p) (upd H1 p (.lst (ns.map V.int)))
theorem AdI {a:Expr} {ta:TA} {p p2 pos pos2:Pos} (hc:X.calm=true) (hg:Gl X "set") (hm:X.mg "set" = none) (hg2:Gl X "sorted") (hm2:X.mg "sorted" = none) (ha:PA X [a] ta) (hs:starEach [a] X.env=[(false,eval a X.env)])
  (hs2:starEach [.Call (.Name "set" p2) [a] [] pos2] X.env=[(false,eval (.Call (.Name "set" p2) [a] [] pos2) X.env)]):PE X (.Call (.Name "sorted" p) [.Call (.Name "set" p2) [a] [] pos2] [] pos) (tSS X.K ta):=by
 intro pins s σ H Q I h
 refine wpAny_Call_Name_kw (P9 I hg2 hm2 (by decide +kernel) (PyProof.Rows.callWith_builtin1 (id:="sorted") ?_ hs2 rfl))
 rw[hs2]
 show wpAny _ _ (spliced ((false,eval (.Call (.Name "set" p2) [a] [] pos2) X.env)::backTo pos [])) _ _ s
 refine Calls.spliced_cons ?_
 refine Call_ (P9 I hg hm (by decide +kernel) (PyProof.Rows.callWith_type1 (T:="set") (thn (ha pos2 pins s σ H _ I h) fun us s1 ⟨vs,H1,I1,r1,q1⟩=>?_) hs rfl))
 obtain ⟨x,ts,ns,rfl,rt,e,h5,q⟩:=q1
 obtain ⟨u,rfl,ru⟩:=r1.one
 unfold Rep at rt
 obtain ⟨l,vs,rfl,hq,rl⟩:=rt
 cases ru
 obtain ⟨its,rv,pl,_⟩:=I1.list hq
 obtain ⟨xs,x1,x2⟩:=AC5 rl rv e
 have hI:IntsAre its ns:=by
  have:=ADG xs.toList
  rw[x2]at this
  have e2:its=(intItems xs).toList:=by rw[←x1]
  rw[e2,intItems,Array.toList_map]
  exact this
 refine AQB (I1.ok.hd hc) pl.isList (by simpa using hI) h5 fun h1 tk1 tf q1 q2 q3=>Calls.spliced_nil ?_
 have I2:Inv X pins σ H1 {s1 with heap:=h1,toks:=tk1}:=I1.kept fun b o e=>q2 b o (Heap.lt_size e) e
 obtain ⟨o,ep,g1,g2,g3⟩:=q1
 have c:=ck5 tf (!byT X.w) ns h5
 have hn:=(AF3 ns h5).1
 refine AEK (I2.ok.hd hc) ⟨o,g1,g2,g3⟩ (Ac2 h5) (by rw[c.es];simp;omega) (ns:=ns) ?_ fun h2 tk2 D out c' ns' k1 k2 k3 k4 k5 k6 k7=>?_
 ·rw[c.es]
  have:=AN3 (tk:=tf) ns
  rw[show (((ns.map fun i=>(i,vI tf i)).toArray).toList.map (·.2))=ns.map (vI tf) from by simp[Function.comp_def]]
  exact this
 ·have en:ns'=ns:=PySem.W.ksm_same k6 k7 (AF3 ns h5).2.2
  subst en
  refine ⟨.ref D,_,I2.laid (t':=tk2) (o:=.lst (ns'.map V.int)) k1 k3 ⟨?_,out.toList,c',AX0 k5,by simpa using k4⟩,rfl,q _ (I2.hok.fresh k3)⟩
  rw[List.length_map,sizeLine_eq];omega
def AdC:List T→Option T
 | [.list ys]=>(P8 ys).bind fun ns=>if ns∈L5 then some (.list (ns.map .int)) else none
 | _=>none
theorem AG2 {K:PySem.W.Frag} {H:Hp}:∀(l:List Int),RepL K H (l.map .int) (l.map V.int)
 | []=>C5
 | a::r=>B6 C3 (AG2 r)
theorem Ad1 {a:Expr} {t:FA} {p p2 pos pos2:Pos} (hc:X.calm=true) (hg:Gl X "set") (hm:X.mg "set" = none) (hg2:Gl X "sorted") (hm2:X.mg "sorted" = none) (ha:JA X Ek [a] t) (hs:starEach [a] X.env=[(false,eval a X.env)])
  (hs2:starEach [.Call (.Name "set" p2) [a] [] pos2] X.env=[(false,eval (.Call (.Name "set" p2) [a] [] pos2) X.env)]):JE X Ek (.Call (.Name "sorted" p) [.Call (.Name "set" p2) [a] [] pos2] [] pos) (eN AdC t):=by
 refine PE.weak (AdI hc hg hm hg2 hm2 ha hs hs2) fun σ H Q h=>?_
 obtain ⟨ρ,R,h⟩:=h
 refine ⟨ρ,R,A7 (Same.refl H) (fun x hx=>?_) (A5 h)⟩
 intro vs H1 s1 rx
 obtain ⟨y,e,q⟩:=Q5 hx
 match x,e,rx with
 | [.list ys],e,rx =>
  unfold RepL at rx
  obtain ⟨v,r,rfl,r1,rx⟩:=rx
  unfold RepL at rx
  subst rx
  have e':((P8 ys).bind fun ns=>if ns∈L5 then some (PyData.list (ns.map .int)) else none)=some y:=e
  cases e1:P8 ys with
  | none=>rw[e1]at e';cases e'
  | some ns =>
   rw[e1,Option.bind_some]at e'
   by_cases h5:ns∈L5
   ·rw[if_pos h5]at e'
    cases e'
    refine ⟨v,ys,ns,rfl,r1,e1,h5,fun p hp=>?_⟩
    refine q _ _ (s1.trans (B0 hp _)) ?_
    unfold Rep
    exact ⟨p,_,rfl,SqL.of A8,AG2 ns⟩
   ·rw[if_neg h5]at e';cases e'
end
section
variable {prog:Program} {w:World} {A:Around} {E:Value→Shared→Prop} {s:Shared}
theorem ATS {r:Addr} {i j:Int} {ti t u v:Tok} {Q:Value→Shared→Prop} (hr:IsRange s.heap r 0 j 1 t u v) (h:Q (.bool (!(decide (0≤i)&&decide (i<j)))) s):wpAny (model prog w) A (compareOp .NotIn (.int i ti) (.ref r)) Q E s:=by
 have hT:s.TypeIs (.ref r) "range":=⟨_,hr,rfl⟩
 refine (?_:wpAny (model prog w) A (do return .bool (!(←contains (.ref r) (.int i ti)))) Q E s)
 refine wpAny_bind (wpAny_contains_slot hT F.slot_range_contains (wpAny_call_entry F.slot_range_contains hT F.entry_range_contains ?_ (F.args_range_contains_2 _ _)))
 refine wpAny_bind (wpAny_pure (wpAny_bind (wpAny_rule (wpAny_bind ?_))))
 unfold Builtin.Range.rangeFields
 refine wpAny_bind (wpAny_field hr rfl (x:=.int 0 t) rfl (wpAny_bind (wpAny_pure (a:=some (0:Int)) ?_)))
 refine wpAny_bind (wpAny_field hr rfl (x:=.int j u) rfl (wpAny_bind (wpAny_pure (a:=some j) ?_)))
 refine wpAny_bind (wpAny_field hr rfl (x:=.int 1 v) rfl (wpAny_bind (wpAny_pure (a:=some (1:Int)) (wpAny_pure ?_))))
 refine wpAny_pure ⟨_,rfl,wpAny_truthy_bool (wpAny_pure ?_)⟩
 have e:(Builtin.Range.rangePlace? 0 j 1 i).isSome=(decide (0≤i)&&decide (i<j)):=by
  unfold Builtin.Range.rangePlace?
  by_cases q:(decide (0≤i)&&decide (i<j))=true
  ·simp[q]
  ·rw[Bool.not_eq_true]at q
   simp[q]
 rw[e]
 exact h
end
section
variable {X:Cx} {Ek:EK}
def AfR:T→List T→Option Bool
 | .int i,[.int j]=>some (!(decide (0≤i)&&decide (i<j)))
 | _,_=>none
def bNR (ta:FE) (tb:FA):FT:=fun ρ=>(ta ρ).bind fun x=>(tb ρ).bind fun ys=>.of (AfR x ys)
theorem AUC {a b:Expr} {ta:TE} {tb:TA} {p pos:Pos} (hg:Gl X "range") (hm:X.mg "range" = none) (ha:PE X a ta) (hb:PA X [b] tb) (hs:starEach [b] X.env=[(false,eval b X.env)]) :
  PC X .NotIn a (.Call (.Name "range" p) [b] [] pos) (fun σ H Q=>ta σ H fun x H1=>tb σ H1 fun vs H2=>∃i j,x=.int i∧vs=[.int j]∧Q (.bl (!(decide (0≤i)&&decide (i<j)))) H2):=by
 intro pins s σ H Q I h
 refine thn (ha pins s σ H _ I h) fun v s1 ⟨x,H1,I1,r1,q1⟩=>?_
 refine Call_ (P9 I1 hg hm boot_range (PyProof.Rows.callWith_type1 (thn (hb pos pins s1 σ H1 _ I1 q1) fun us s2 ⟨vs,H2,I2,r2,q2⟩=>?_) hs rfl))
 obtain ⟨i,j,rfl,rfl,q⟩:=q2
 obtain ⟨u,rfl,ru⟩:=r2.one
 obtain ⟨t,rfl⟩:=ru
 obtain ⟨ti,rfl⟩:=r1
 refine call_range_1 ?_
 have I3:Inv X pins σ H2 {s2 with heap:=s2.heap.push {cls:=.type "range",data:=.fields #[.int 0 s2.toks,.int j t,.int 1 (s2.toks+1)] },toks:=s2.toks+1+1}:=I2.kept fun b o e=>Heap.get?_push_of_some _ e
 exact ATS (IsRange.new ..) ⟨.bl (!(decide (0≤i)&&decide (i<j))),H2,I3,rfl,q⟩
theorem AVD {a b:Expr} {ta:FE} {tb:FA} {p pos pos2:Pos} (hg:Gl X "range") (hm:X.mg "range" = none) (ha:JE X Ek a ta) (hb:JA X Ek [b] tb) (hs:starEach [b] X.env=[(false,eval b X.env)])
  (hi:behindInMarks .NotIn (.Call (.Name "range" p) [b] [] pos)=false):JT X Ek (.Compare a [.NotIn] [.Call (.Name "range" p) [b] [] pos] pos2) (bNR ta tb):=by
 refine PT.weak (AZQ (AUC hg hm ha hb hs) hi) fun σ H Q h=>?_
 obtain ⟨ρ,R,h⟩:=h
 refine ⟨ρ,R,A7 (Same.refl H) (fun x hx=>?_) (A5 h)⟩
 intro v H1 s1 rx
 refine ⟨ρ,R.mono s1,A7 s1 (fun ys hy=>?_) (A5 hx)⟩
 intro us H2 s2 ry
 obtain ⟨k,e,q⟩:=Q5 hy
 match x,ys,e,rx,ry with
 | .int i,[.int j],e,rx,ry =>
  cases e
  unfold RepL at ry
  obtain ⟨u,r,rfl,r1,ry⟩:=ry
  unfold RepL at ry
  subst ry
  unfold Rep at r1 rx
  subst r1;subst rx
  exact ⟨i,j,rfl,rfl,_,rfl,q H2 (s1.trans s2)⟩
end
def Af5:Expr→List Str
 | .Name x _=>[x]
 | .Tuple es _ _=>es.flatMap fun e=>match e with
  | .Name x _=>[x]
  | _=>[]
 | _=>[]
def tgN:Expr→List Str
 | .Tuple es _ _=>es.flatMap Af5
 | e=>Af5 e
def AeG (l N:List Str) (sel:List (Option Nat)):List Str:=l++sel.filterMap fun o=>o.bind fun j=>N[j]?
def nbB (N:List Str):Bool:=decide N.Nodup&&N.all fun x=>!(x == ("__debug__" : Str))&&!(x == ("__classdict__" : Str))
theorem AWW {N:List Str} (h:nbB N=true):NB N:=by
 obtain ⟨h1,h2⟩:=Bool.and_eq_true_iff.mp h
 refine ⟨of_decide_eq_true h1,fun x hx=>?_⟩
 have:=List.all_eq_true.mp h2 x hx
 simpa using this
def scB (N P:List Str) (sc:Scope):Bool:=(sc.kind == .function)&&!sc.isCoroutine&&!sc.isGenerator&&decide N.Nodup&&(N.take P.length == P)&&(P.all fun x=>sc.names.lookup x == some .local||sc.names.lookup x == some .cell)&&sc.names.all fun y=>y.2 != .free
theorem scT {N P:List Str} {sc:Scope} (h:scB N P sc=true:=by kernel_rfl):FnScope N P sc:=by
 simp only[scB,Bool.and_eq_true,Bool.not_eq_true',beq_iff_eq,decide_eq_true_eq,List.all_eq_true,Bool.or_eq_true,bne_iff_ne]at h
 obtain ⟨⟨⟨⟨⟨⟨a,b⟩,c⟩,d⟩,e⟩,f⟩,g⟩:=h
 exact ⟨a,b,c,d,e,f,g⟩
section
variable {X:Cx} {Ek:EK}
def Ad5 (sc:Scope) (x:Str):Bool:=match sc.names.lookup x with
 | some .local=>true
 | some .cell=>true
 | some .free=>true
 | _=>false
theorem AcK {sc:Scope} {x:Str} (h:Ad5 sc x=true):Vis sc x:=by
 unfold Ad5 at h
 unfold Vis
 split at h
 ·exact .inl ‹_›
 ·exact .inr (.inl ‹_›)
 ·exact .inr (.inr ‹_›)
 ·cases h
def zvB (X:Cx) (i:Nat) (x:Str):Bool:=(X.N[i]? == some x)&&Ad5 X.env.scope x&&!(x == ("__debug__" : Str))&&!(x == ("__classdict__" : Str))
theorem zv {i:Nat} {x:Str} {pos:Pos} (h:zvB X i x=true):JE X Ek (.Name x pos) (A1 i):=by
 simp only[zvB,Bool.and_eq_true,Bool.not_eq_true']at h
 exact AZF i (eq_of_beq h.1.1.1) (AcK h.1.1.2) h.1.2 h.2
theorem glT {x:Str} (h:X.env.kindOf x=some .globalImplicit):Gl X x:=h
def LF (X:Cx) (x:Str):Prop:=Loc X.env.scope x∧(X.fn x=true∨X.env.scope.names.lookup x=some .local)
theorem lf1 {x:Str} (h:X.env.scope.names.lookup x=some .local):LF X x:=⟨.inl h,.inr h⟩
theorem lf2 {x:Str} (h:X.env.scope.names.lookup x=some .cell) (h2:X.fn x=true):LF X x:=⟨.inr h,.inl h2⟩
def lfB (X:Cx) (x:Str):Bool:=match X.env.scope.names.lookup x with
 | some .local=>true
 | some .cell=>X.fn x
 | _=>false
theorem lfT {x:Str} (h:lfB X x=true):LF X x:=by
 unfold lfB at h
 split at h
 ·exact lf1 ‹_›
 ·exact lf2 ‹_› h
 ·cases h
theorem Ag0 {op} {vs:List Expr} {pos:Pos} {t:FT} (h:JW X Ek (.BoolOp op vs pos) t):JT X Ek (.BoolOp op vs pos) t:=AfK h
theorem zg {i:Nat} {x:Str} {pos:Pos} (nb:NB X.N) (hi:X.N[i]?=some x) (hx:LF X x):JG X (.Name x pos) (gName i):=ATU nb.nd hi hx.1 hx.2
theorem AfV {i:Nat} {x:Str} {e:Expr} {t:FE} {pos pos':Pos} (nb:NB X.N) (hi:X.N[i]?=some x) (hx:LF X x) (he:JE X Ek e t) (hs:swapsWith e (some (.Name x pos')) pos.line X.env=pure false):JS X Ek (.Assign [.Name x pos'] e pos) (C0 (gName i) t):=AZK nb.nd hi hx.1 he hs hx.2
theorem AaY {op op':CmpOp} {r r':R2} {f g:T→T→Option T} {a b c:Expr} {ta tb tc:FE} {pos:Pos} (ho:OpR X (compareOp op) r) (ho':OpR X (compareOp op') r') (hr:Z7 X.K r f) (hr':Z7 X.K r' g)
  (hf:∀x y c,f x y=some c→∃k,c=.bool k) (ha:JE X Ek a ta) (hb:JE X Ek b tb) (hc:JE X Ek c tc) (hm:lastMarks [op,op'] [b,c]=false):JE X Ek (.Compare a [op,op'] [b,c] pos) (j9 f g ta tb tc):=ASC ho ho' hr hr' hf ha hb hc (AQE ho ho' ha hb hc hm)
theorem AZA {sel:List (Option Nat)}:AAJ sel (Tr.gTup []):=AMX fun g hg=>by cases hg
theorem AWU {sel:List (Option Nat)} {g:FG} {gs:List FG} (h:AAJ sel g) (t:AAJ sel (Tr.gTup gs)):AAJ sel (Tr.gTup (g::gs)):=fun v ρ ρ1 e=>by
 match v,e with
 | .tuple (a::as),e =>
  cases e1:g a ρ with
  | none=>rw[show Tr.gTup (g::gs) (.tuple (a::as)) ρ=(g a ρ).bind fun ρ'=>AP3 gs as ρ' from rfl,e1]at e;cases e
  | some ρ2 =>
   rw[show Tr.gTup (g::gs) (.tuple (a::as)) ρ=(g a ρ).bind fun ρ'=>AP3 gs as ρ' from rfl,e1]at e
   obtain ⟨a1,a2⟩:=h _ _ _ e1
   obtain ⟨b1,b2⟩:=t (.tuple as) _ _ e
   exact ⟨b1.trans a1,fun i j hij=>(b2 i j hij).trans (a2 i j hij)⟩
abbrev nc (X:Cx) (tg:Expr) (sel:List (Option Nat)):List Str:=AeG (tgN tg) X.N sel
abbrev nc2 (X:Cx) (tg tg2:Expr) (sel:List (Option Nat)):List Str:=AeG (tgN tg++tgN tg2) X.N sel
theorem AgD {elt tg iter:Expr} {ifs:List Expr} {scope:Scope} {pos:Pos} {it:FI} {sel:List (Option Nat)} {g:FG} {test:FT} {te:FE}
  (hcalm:X.calm=true) (hok:ACB scope X.env.scope X.N (nc X tg sel) sel=true) (hnb:nbB (nc X tg sel)=true) (hkeep:AAJ sel g) (hi:JI X Ek tg iter it)
  (hg:NB (nc X tg sel)→∀cl C s H fp,JG (B8 X scope cl C (nc X tg sel) s H fp) tg g)
  (ht:NB (nc X tg sel)→∀cl C s H fp,JTs (B8 X scope cl C (nc X tg sel) s H fp) Ek0 ifs test)
  (he:NB (nc X tg sel)→∀cl C s H fp,JE (B8 X scope cl C (nc X tg sel) s H fp) Ek0 elt te)
  (hs:∀x,foldedSetIterable iter X.env x=pure x):JCt X elt [⟨tg,iter,ifs,0⟩] scope pos (lEF X.K Ek (E2 it sel g test te)) :=
 have nb:=AWW hnb
 AGI hcalm rfl rfl hok hkeep hi (hg nb) (ht nb) (he nb) hs
theorem AeT {elt tg iter:Expr} {ifs:List Expr} {scope:Scope} {pos:Pos} {it:FI} {sel:List (Option Nat)} {g:FG} {test:FT} {te:FE}
  (h:JCt X elt [⟨tg,iter,ifs,0⟩] scope pos (lEF X.K Ek (E2 it sel g test te))):JC X Ek elt [⟨tg,iter,ifs,0⟩] scope pos (E2 it sel g test te):=Ad6 h AKJ
theorem zlc {elt tg iter:Expr} {ifs:List Expr} {scope:Scope} {pos:Pos} {it:FI} {sel:List (Option Nat)} {g:FG} {test:FT} {te:FE}
  (h:JCt X elt [⟨tg,iter,ifs,0⟩] scope pos (lEF X.K Ek (E2 it sel g test te))):JE X Ek (.ListComp elt [⟨tg,iter,ifs,0⟩] scope pos) (E2 it sel g test te):=AcE (AeT h)
theorem Ac3 {kx vx tg iter tg2 iter2:Expr} {ifs ifs2:List Expr} {it2:FI} {k:Nat} {test2:FT} {scope:Scope} {pos:Pos} {it:FI} {sel:List (Option Nat)} {g:FG} {test:FT} {te:FE}
  (hcalm:X.calm=true) (hok:ACB scope X.env.scope X.N (nc2 X tg tg2 sel) sel=true) (hnb:nbB (nc2 X tg tg2 sel)=true) (hkeep:AAJ sel g) (hi:JI X Ek tg iter it)
  (hg:NB (nc2 X tg tg2 sel)→∀cl C s H fp,JG (B8 X scope cl C (nc2 X tg tg2 sel) s H fp) tg g)
  (ht:NB (nc2 X tg tg2 sel)→∀cl C s H fp,JTs (B8 X scope cl C (nc2 X tg tg2 sel) s H fp) Ek0 ifs test)
  (hi2:NB (nc2 X tg tg2 sel)→∀cl C s H fp,JI (B8 X scope cl C (nc2 X tg tg2 sel) s H fp) Ek0 tg2 iter2 it2)
  (hg2:NB (nc2 X tg tg2 sel)→∀cl C s H fp,JG (B8 X scope cl C (nc2 X tg tg2 sel) s H fp) tg2 (Tr.gName k))
  (ht2:NB (nc2 X tg tg2 sel)→∀cl C s H fp,JTs (B8 X scope cl C (nc2 X tg tg2 sel) s H fp) Ek0 ifs2 test2)
  (he:NB (nc2 X tg tg2 sel)→∀cl C s H fp,JE (B8 X scope cl C (nc2 X tg tg2 sel) s H fp) Ek0 kx te) (hvx:∀cl C s H fp,JE (B8 X scope cl C (nc2 X tg tg2 sel) s H fp) Ek0 vx (eC (.bool true)))
  (hs:∀x,foldedSetIterable iter X.env x=pure x) (hs2:∀cl C s H fp x,foldedSetIterable iter2 (B8 X scope cl C (nc2 X tg tg2 sel) s H fp).env x=pure x) (hselk:sel[k]?=some none) (hk1:AJE k g):JE X Ek (.DictComp kx vx [⟨tg,iter,ifs,0⟩,⟨tg2,iter2,ifs2,0⟩] scope pos) (AIH it sel g test it2 k test2 te) :=
 have nb:=AWW hnb
 AF8 hcalm rfl rfl hok hkeep hi (hg nb) (ht nb) (hi2 nb) (hg2 nb) (ht2 nb) (he nb) hvx hs hs2 hselk hk1
abbrev CX' (X:Cx):CXT:=CXE X.prog X.w X.base
def AMM (X:Cx) (x:Str) (n:Nat) (m:List T→R T):Prop:=∃j k,Dfn (CX' X) X.prog X.w X.K X.mg X.base x j n m∧Room k X.A∧j≤k
theorem AaN {x:Str} {n j k:Nat} {m:List T→R T} (D:Dfn (CX' X) X.prog X.w X.K X.mg X.base x j n m) (hr:Room k X.A) (h:j≤k):AMM X x n m:=⟨j,k,D,hr,h⟩
theorem AfY {x:Str} {n:Nat} {m:List T→R T} {e:Expr} {es:List Expr} {t:FA} {p pos:Pos} (D:AMM X x n m) (hx:Y1 (CX' X) X (AQA X.K Ek)) (hg:Gl X x) (ha:JA X Ek (e::es) t)
  (he:starEach (e::es) X.env=(false,eval e X.env)::starEach es X.env) (hpl:(backTo pos (starEach es X.env)).any (·.1)=false):JE X Ek (.Call (.Name x p) (e::es) [] pos) (eF (A3 n [] m) t):=by
 obtain ⟨j,k,D,hr,h⟩:=D
 exact AYJ D hr h hx hg ha he hpl
def APD (X:Cx) (x:Str) (n:Nat) (m:List T→R T) (ds:List T):Prop:=∃j k,DfnD (CX' X) X.prog X.w X.K X.mg X.base x j n m ds∧Room k X.A∧j≤k
theorem AUU {x:Str} {n j k:Nat} {m:List T→R T} {ds:List T} (D:DfnD (CX' X) X.prog X.w X.K X.mg X.base x j n m ds) (hr:Room k X.A) (h:j≤k):APD X x n m ds:=⟨j,k,D,hr,h⟩
theorem Ad2 {x:Str} {n:Nat} {m:List T→R T} {ds:List T} {e:Expr} {es:List Expr} {t:FA} {p pos:Pos} (D:APD X x n m ds) (hx:Y1 (CX' X) X (AQA X.K Ek)) (hg:Gl X x) (ha:JA X Ek (e::es) t)
  (he:starEach (e::es) X.env=(false,eval e X.env)::starEach es X.env) (hpl:(backTo pos (starEach es X.env)).any (·.1)=false):JE X Ek (.Call (.Name x p) (e::es) [] pos) (eF (A3 n ds m) t):=by
 obtain ⟨j,k,D,hr,h⟩:=D
 exact AX4 D hr h hx hg ha he hpl
def AVA (X:Cx) (x:Str) (np kn:Nat) (m:List T→R T) (pos:Pos) (kws:List Keyword):Prop:=∃j k n ks,DfnK (CX' X) X.prog X.w X.K X.mg X.base x j np n m ks∧Room k X.A∧j≤k∧(backToKw pos (keywordEach kws X.env)).filterMap (·.1)=ks∧ks.length=kn
theorem AWN {x:Str} {np n j k kn:Nat} {m:List T→R T} {ks:List Str} {pos:Pos} {kws:List Keyword} (D:DfnK (CX' X) X.prog X.w X.K X.mg X.base x j np n m ks) (hr:Room k X.A) (h:j≤k) (hk:(backToKw pos (keywordEach kws X.env)).filterMap (·.1)=ks) (hn:ks.length=kn):AVA X x np kn m pos kws:=⟨j,k,n,ks,D,hr,h,hk,hn⟩
theorem AYA {i:Nat} {x:Str} {st:Stmt} {rest:List Stmt} {tb:FB} {u:FS} {px pl pos:Pos} (nb:NB X.N) (hi:X.N[i]?=some x) (hx:LF X x) (hs:swapsWith (.List [] pl) (some (.Name x px)) pos.line X.env=pure false)
  (hst:JB X i st tb) (hr:JSs X Ek rest u):JSs X Ek (.Assign [.Name x px] (.List [] pl) pos::st::rest) (B2 (X5 i tb) u):=AMV nb.nd hi hx.1 hs hx.2 hst hr
theorem AUY {i:Nat} {x:Str} {e:Expr} {t:FE} {st st2:Stmt} {rest:List Stmt} {tb tb2:FB} {u:FS} {px pos:Pos} (nb:NB X.N) (hi:X.N[i]?=some x) (hx:LF X x) (he:PE X e (lEF X.K Ek t))
  (hs:swapsWith e (some (.Name x px)) pos.line X.env=pure false) (hst:JB X i st tb) (hst2:JB X i st2 tb2) (hr:JSs X Ek rest u):JSs X Ek (.Assign [.Name x px] e pos::st::st2::rest) (B2 (t5 i t (w6 tb tb2)) u):=AL3 nb.nd hi hx.1 he hs hx.2 hst hst2 hr
theorem zhu {k:Nat} {A:Around} (h:Room k A):A.units+64<cLine:=by have:=h.un;omega
theorem AXY {k:Nat} {A:Around} (h:Room k A):A.units+100<cLine:=by have:=h.un;omega
variable {a b c:Expr} {ta tb tc:FE} {pos:Pos}
theorem AaE (h:JE X Ek a ta) (g:JE X Ek b tb):JE X Ek (.BinOp a .Add b pos) (e2 E9 ta tb):=AE5 op_addT AJ7 h g
theorem AdJ (h:JE X Ek a ta) (g:JE X Ek b tb):JE X Ek (.BinOp a .Sub b pos) (e2 U8 ta tb):=AE5 ATG AN9 h g
theorem AaT (h:JE X Ek a ta) (g:JE X Ek b tb):JE X Ek (.BinOp a .Mult b pos) (e2 C7 ta tb):=AE5 AV6 ASF h g
theorem AYU (h:JE X Ek a ta) (g:JE X Ek b tb):JE X Ek (.BinOp a .Mod b pos) (e2 x3 ta tb):=AE5 ATK AUT h g
theorem AX2 (h:JE X Ek a ta) (g:JE X Ek b tb):JE X Ek (.BinOp a .FloorDiv b pos) (e2 G7 ta tb):=AE5 ASI AQ6 h g
theorem AcN (h:JE X Ek a ta) (g:JE X Ek b tb):JE X Ek (.BinOp a .Pow b pos) (e2 AFJ ta tb):=AE5 ASW AMP h g
theorem AZR (h:JE X Ek a ta) (g:JE X Ek b tb):JE X Ek (.BinOp a .Add b pos) (e2 AEZ ta tb):=AE5 AWX AR9 h g
theorem zix (h:JE X Ek a ta) (g:JE X Ek b tb) (hs:∀o i,subscripted b false o i=operate [o,i] (getItem o i)):JE X Ek (.Subscript a b pos) (e2 ixT ta tb):=Ad3 h g hs
theorem AdO (h:JE X Ek a ta):JE X Ek (.UnaryOp .USub a pos) (e1 AJO ta):=AZJ AT7 AOM h
theorem Ab4 (hu:X.A.units+64<cLine) (h:JE X Ek a ta) (g:JE X Ek b tb) (m:behindInMarks .Eq b=false):JE X Ek (.Compare a [.Eq] [b] pos) (e2 eqT ta tb):=ABL (AT8 hu) AN0 h g m
theorem AZ9 (hu:X.A.units+64<cLine) (h:JE X Ek a ta) (g:JE X Ek b tb) (m:behindInMarks .Eq b=false):JT X Ek (.Compare a [.Eq] [b] pos) (bV (e2 eqT ta tb)):=AA0 (AT8 hu) AN0 AS8 h g m
theorem AY1 (hu:X.A.units+64<cLine) (h:JE X Ek a ta) (g:JE X Ek b tb) (m:behindInMarks .NotEq b=false):JE X Ek (.Compare a [.NotEq] [b] pos) (e2 neT ta tb):=ABL (AST hu) AOF h g m
theorem AZI (hu:X.A.units+64<cLine) (h:JE X Ek a ta) (g:JE X Ek b tb) (m:behindInMarks .NotEq b=false):JT X Ek (.Compare a [.NotEq] [b] pos) (bV (e2 neT ta tb)):=AA0 (AST hu) AOF AR4 h g m
theorem Ac0 (h:JE X Ek a ta) (g:JE X Ek b tb) (m:behindInMarks .Lt b=false):JE X Ek (.Compare a [.Lt] [b] pos) (e2 ltT ta tb):=ABL AV9 ALW h g m
theorem AdN (h:JE X Ek a ta) (g:JE X Ek b tb) (m:behindInMarks .Lt b=false):JT X Ek (.Compare a [.Lt] [b] pos) (bV (e2 ltT ta tb)):=AA0 AV9 ALW R5 h g m
theorem AcM (h:JE X Ek a ta) (g:JE X Ek b tb) (m:behindInMarks .LtE b=false):JE X Ek (.Compare a [.LtE] [b] pos) (e2 leT ta tb):=ABL ALX AF4 h g m
theorem AdK (h:JE X Ek a ta) (g:JE X Ek b tb) (m:behindInMarks .LtE b=false):JT X Ek (.Compare a [.LtE] [b] pos) (bV (e2 leT ta tb)):=AA0 ALX AF4 R5 h g m
theorem Ac9 (h:JE X Ek a ta) (g:JE X Ek b tb) (m:behindInMarks .Gt b=false):JE X Ek (.Compare a [.Gt] [b] pos) (e2 gtT ta tb):=ABL AaH ATC h g m
theorem Ae1 (h:JE X Ek a ta) (g:JE X Ek b tb) (m:behindInMarks .Gt b=false):JT X Ek (.Compare a [.Gt] [b] pos) (bV (e2 gtT ta tb)):=AA0 AaH ATC R5 h g m
theorem Ac5 (h:JE X Ek a ta) (g:JE X Ek b tb) (m:behindInMarks .GtE b=false):JE X Ek (.Compare a [.GtE] [b] pos) (e2 geT ta tb):=ABL AYB ASK h g m
theorem AcT (h:JE X Ek a ta) (g:JE X Ek b tb) (m:behindInMarks .GtE b=false):JT X Ek (.Compare a [.GtE] [b] pos) (bV (e2 geT ta tb)):=AA0 AYB ASK R5 h g m
theorem AZC (h:JE X Ek a ta) (g:JE X Ek b tb) (m:behindInMarks .Is b=false):JT X Ek (.Compare a [.Is] [b] pos) (bV (e2 isT ta tb)):=AA0 AaC AWT AQ1 h g m
theorem AMD (h:JE X Ek a ta) (g:JE X Ek b tb) (m:behindInMarks .NotIn b=false):JT X Ek (.Compare a [.NotIn] [b] pos) (bV (e2 AFD ta tb)):=AA0 AN8 AK7 AHR h g m
theorem AaL (hu:X.A.units+100<cLine) (h:JE X Ek a ta) (g:JE X Ek b tb) (m:behindInMarks .In b=false):JE X Ek (.Compare a [.In] [b] pos) (e2 APM ta tb):=ABL (AZD hu) ATN h g m
theorem AP5 (hu:X.A.units+100<cLine) (h:JE X Ek a ta) (g:JE X Ek b tb) (m:behindInMarks .NotIn b=false):JT X Ek (.Compare a [.NotIn] [b] pos) (bV (e2 R9 ta tb)):=AA0 (ANX hu) AK9 AH3 h g m
theorem ATW (h:JE X Ek a ta) (g:JE X Ek b tb) (i:JE X Ek c tc) (m:lastMarks [.LtE,.LtE] [b,c]=false):JE X Ek (.Compare a [.LtE,.LtE] [b,c] pos) (j9 leT leT ta tb tc):=AaY ALX ALX AF4 AF4 R5 h g i m
theorem AU4 (h:JE X Ek a ta) (g:JE X Ek b tb) (i:JE X Ek c tc) (m:lastMarks [.LtE,.Lt] [b,c]=false):JT X Ek (.Compare a [.LtE,.Lt] [b,c] pos) (j7 leT ltT ta tb tc):=AQ8 ALX AV9 AF4 ALW R5 h g i m
end
end Tr
end
section
namespace Kw
theorem ATI (a b:Int):(b.gcd a)=Nat.gcd a.natAbs b.natAbs:=by
 show Nat.gcd b.natAbs a.natAbs=_
 exact Nat.gcd_comm _ _
theorem AeE (a b:Int) (hb:b≠0):(if b<0 then -a else a) / ((Nat.gcd a.natAbs b.natAbs:Nat):Int)=(Rat.divInt a b).num:=by
 rw[Rat.num_divInt,ATI]
 congr 1
 by_cases h:b<0
 ·rw[if_pos h,Int.sign_eq_neg_one_of_neg h];omega
 ·rw[if_neg h,Int.sign_eq_one_of_pos (by omega)];omega
theorem AfZ (a b:Int) (hb:b≠0):(if b<0 then -b else b) / ((Nat.gcd a.natAbs b.natAbs:Nat):Int)=((Rat.divInt a b).den:Int):=by
 rw[Rat.den_divInt,if_neg hb,ATI,Int.natCast_ediv]
 congr 1
 split<;>omega
theorem AdZ (a b:Int) (hb:b≠0):(Rat.divInt a b).num.natAbs≤a.natAbs:=by
 rw[←AeE a b hb]
 refine Nat.le_trans (Int.natAbs_ediv_le_natAbs _ _) ?_
 split<;>omega
theorem AbZ (a b:Int) (hb:b≠0):(Rat.divInt a b).den≤b.natAbs:=by
 rw[Rat.den_divInt,if_neg hb]
 exact Nat.div_le_self _ _
theorem AJ9 {b:Int} (h:b≠0):(b:Rat)≠0:=fun e=>h (Rat.intCast_inj.mp (by rw[e];rfl))
theorem AQJ {b:Nat} (h:b≠0):(b:Rat)≠0:=fun e=>h (Rat.natCast_inj.mp (by rw[e];rfl))
theorem AcS (r:Rat):(r.num:Rat) / (r.den:Rat)=r:=by
 have h:=Rat.num_divInt_den r
 rw[Rat.divInt_eq_div]at h
 rw[Rat.intCast_natCast]at h
 exact h
theorem AC9 (r:Rat):r*(r.den:Rat)=(r.num:Rat):=by
 have h:=AcS r
 have hd:=AQJ r.den_nz
 grind
def At (r:Rat) (q:Int) (p:Nat):Prop:=∃a:Int,r*(q:Rat)=(a:Rat)∧a.natAbs≤p
theorem AY6 {r:Rat} {q:Int} {p:Nat} (h:At r q p) (hq:q≠0):∃a:Int,r=Rat.divInt a q∧a.natAbs≤p:=by
 obtain ⟨a,e,l⟩:=h
 refine ⟨a,?_,l⟩
 rw[Rat.divInt_eq_div]
 have:=AJ9 hq
 grind
theorem AM5 {r:Rat} {q:Int} {p:Nat} (h:At r q p) (hq:q≠0):r.num.natAbs≤p∧r.den≤q.natAbs:=by
 obtain ⟨a,rfl,l⟩:=AY6 h hq
 exact ⟨Nat.le_trans (AdZ a q hq) l,AbZ a q hq⟩
end Kw
end
section
namespace Kw
open PySem hiding start
open PyProof.Rows hiding St
open L2 PySem.Spec Tr
theorem ev0 (x:T) (r:Ev):A1 0 (some x::r)=.ok x:=rfl
theorem ev1 (o0:Option T) (x:T) (r:Ev):A1 1 (o0::some x::r)=.ok x:=rfl
theorem ev2 (o0 o1:Option T) (x:T) (r:Ev):A1 2 (o0::o1::some x::r)=.ok x:=rfl
theorem ev3 (o0 o1 o2:Option T) (x:T) (r:Ev):A1 3 (o0::o1::o2::some x::r)=.ok x:=rfl
theorem ev4 (o0 o1 o2 o3:Option T) (x:T) (r:Ev):A1 4 (o0::o1::o2::o3::some x::r)=.ok x:=rfl
theorem ev5 (o0 o1 o2 o3 o4:Option T) (x:T) (r:Ev):A1 5 (o0::o1::o2::o3::o4::some x::r)=.ok x:=rfl
theorem ev6 (o0 o1 o2 o3 o4 o5:Option T) (x:T) (r:Ev):A1 6 (o0::o1::o2::o3::o4::o5::some x::r)=.ok x:=rfl
theorem ev7 (o0 o1 o2 o3 o4 o5 o6:Option T) (x:T) (r:Ev):A1 7 (o0::o1::o2::o3::o4::o5::o6::some x::r)=.ok x:=rfl
theorem ev8 (o0 o1 o2 o3 o4 o5 o6 o7:Option T) (x:T) (r:Ev):A1 8 (o0::o1::o2::o3::o4::o5::o6::o7::some x::r)=.ok x:=rfl
theorem ev9 (o0 o1 o2 o3 o4 o5 o6 o7 o8:Option T) (x:T) (r:Ev):A1 9 (o0::o1::o2::o3::o4::o5::o6::o7::o8::some x::r)=.ok x:=rfl
theorem AEX (o0 o1 o2 o3 o4 o5 o6 o7 o8 o9:Option T) (x:T) (r:Ev):A1 10 (o0::o1::o2::o3::o4::o5::o6::o7::o8::o9::some x::r)=.ok x:=rfl
theorem AEW (o0 o1 o2 o3 o4 o5 o6 o7 o8 o9 o10:Option T) (x:T) (r:Ev):A1 11 (o0::o1::o2::o3::o4::o5::o6::o7::o8::o9::o10::some x::r)=.ok x:=rfl
def AND:T→Bool
 | .dict _=>true
 | _=>false
def AWQ:T→Bool
 | .int _=>true
 | _=>false
def G5:List T→R T
 | [t]=>if AND t then .bad else .ok (.bool (AWQ t))
 | _=>.bad
def B4:List T→R T
 | [.int a,.int b]=>if 0≤a∧0≤b then .ok (.int (Nat.gcd a.natAbs b.natAbs:Nat)) else .bad
 | _=>.bad
def D8:List T→R T:=B4
theorem ASX:∃G:Int,G=10000000000000000000000000000000000000000:=⟨_,rfl⟩
noncomputable def big:Int:=Classical.choose ASX
theorem AD0:big=10000000000000000000000000000000000000000:=Classical.choose_spec ASX
noncomputable def short (a b:Int):Bool:=decide ((a.natAbs:Int)<big)&&decide (b<big)
noncomputable def J8:List T→R T
 | [.int a,.int b]=>.ok (.bool (short a b))
 | _=>.bad
noncomputable def ALJ:T→Bool
 | .tuple [.int a,.int b]=>decide (0<b)&&short a b&&decide (Nat.gcd a.natAbs b.natAbs=1)
 | _=>false
def hasDict:T→Bool
 | .dict _=>true
 | .tuple [x,y]=>AND x||AND y
 | _=>false
noncomputable def D1:List T→R T
 | [t]=>cond (hasDict t) .bad (.ok (.bool (ALJ t)))
 | _=>.bad
theorem AEV:∀ts:List T,okR (D1 ts)=true
 | []=>rfl
 | [t]=>by
  show okR (cond (hasDict t) (R.bad:R T) (.ok (PyData.bool (ALJ t))))=true
  cases hasDict t<;>rfl
 | _::_::_=>rfl
def clR:R T→R T
 | .ex _ (_::_)=>.bad
 | r=>r
theorem C1 {r:R T} {c:Str} {fs:List (Str × T)} (h:clR r=.ex c fs):fs=[]:=by
 cases r with
 | ok a=>cases h
 | bad=>cases h
 | ex c' fs' =>
  cases fs' with
  | nil=>cases h;rfl
  | cons a b=>cases h
theorem B5 {r:R T} (h:clR r≠.bad):r=clR r:=by
 cases r with
 | ok a=>rfl
 | bad=>rfl
 | ex c' fs' =>
  cases fs' with
  | nil=>rfl
  | cons a b=>exact absurd rfl h
noncomputable def O3:T:=.int big
noncomputable def AAH:FS:=(D2 (Y3 (e1 (AC0 "int") (A1 0)) (e1 AeW (e1 (AC0 "bool") (A1 0)))))
noncomputable def Q1:FS:=(B2 (Y6 (bV (e2 neT (A1 1) (eC (.int 0)))) (u6 0 1 (A0 (A1 1) (A0 (e2 x3 (A1 0) (A1 1)) A2))))
  (D2 (A1 0)))
noncomputable def Z8:FS:=(D2 (Y3 (e2 ltT (eN AX8 (A0 (A1 0) A2)) (eC O3)) (e2 ltT (A1 1) (eC O3))))
noncomputable def L9:FS:=(B2 (sIf (bOr (P5 (bV (e1 (AC0 "tuple") (A1 0)))) (bV (e2 neT (eN AA4 (A0 (A1 0) A2)) (eC (.int 2))))) (D2 (eC (.bool false))) B9)
  (B2 (C0 (Tr.gTup [(Tr.gName 1),(Tr.gName 2)]) (A1 0))
  (B2 (sIf (bOr (P5 (bV (eF (A3 1 [] G5) (A0 (A1 1) A2)))) (P5 (bV (eF (A3 1 [] G5) (A0 (A1 2) A2))))) (D2 (eC (.bool false))) B9)
  (D2 (Y3 (e2 gtT (A1 2) (eC (.int 0))) (Y3 (eF (A3 2 [] J8) (A0 (A1 1) (A0 (A1 2) A2))) (e2 eqT (eF (A3 2 [] B4) (A0 (eN AX8 (A0 (A1 1) A2)) (A0 (A1 2) A2))) (eC (.int 1)))))))))
noncomputable def M4:FS:=(B2 (C0 (Tr.gName 3) (e2 C7 (eC (.int 7)) (A1 1)))
  (B2 (sIf (bV (e2 neT (A1 0) (S7 A2))) (B2 (C0 (Tr.gName 3) (e2 ixT (A1 0) (e2 x3 (A1 1) (eN AA4 (A0 (A1 0) A2)))))
  (B2 (C0 (Tr.gName 4) (e2 G7 (A1 1) (eN AA4 (A0 (A1 0) A2))))
  (B2 (sIf (AB2 (bV (e2 geT (A1 3) (eC (.int 1000000000000000000)))) (bV (e2 ltT (A1 4) (eC (.int 60))))) (B2 (C0 (Tr.gName 5) (e2 G7 (A1 3) (eC (.int 1000000000000000000))))
  (B2 (Y6 (AB2 (bV (e2 gtT (A1 5) (eC (.int 0)))) (bV (e2 gtT (A1 4) (eC (.int 0))))) (B2 (C0 (Tr.gName 5) (e2 G7 (A1 5) (eC (.int 1000000))))
  (C0 (Tr.gName 4) (e2 U8 (A1 4) (eC (.int 1))))))
  (sIf (bV (e2 gtT (A1 5) (eC (.int 0)))) (D2 (e2 x3 (e2 x3 (A1 5) (eC (.int 1000000))) (A1 2))) B9))) B9)
  (C0 (Tr.gName 3) (e2 E9 (A1 3) (e2 C7 (eC (.int 6553)) (e2 G7 (A1 1) (eN AA4 (A0 (A1 0) A2))))))))) B9)
  (B2 (C0 (Tr.gName 3) (e2 x3 (e2 E9 (e2 C7 (e2 x3 (A1 3) (eC (.int 2147483563))) (eC (.int 69069))) (e2 C7 (eC (.int 104723)) (e2 E9 (A1 1) (eC (.int 1))))) (eC (.int 2147483563))))
  (B2 (C0 (Tr.gName 3) (e2 x3 (e2 E9 (e2 C7 (A1 3) (A1 3)) (e2 G7 (A1 3) (eC (.int 3)))) (eC (.int 2147483399))))
  (D2 (e2 x3 (e2 G7 (e2 x3 (e2 E9 (e2 C7 (A1 3) (A1 3)) (e2 G7 (A1 3) (eC (.int 7)))) (eC (.int 2147483647))) (eC (.int 11))) (A1 2)))))))
noncomputable def A4:List T→R T:=fun ts=>clR (Tr.run 6 M4 ts)
noncomputable def Q6:FS:=(B2 (Y6 (bV (e2 gtT (A1 1) (eC (.int 0)))) (u6 0 1 (A0 (A1 1) (A0 (e2 x3 (A1 0) (A1 1)) A2))))
  (D2 (A1 0)))
noncomputable def N8:FS:=(B2 (C0 (Tr.gName 2) (eF (A3 2 [] D8) (A0 (eN AX8 (A0 (A1 0) A2)) (A0 (eN AX8 (A0 (A1 1) A2)) A2))))
  (B2 (C0 (Tr.gName 2) (eIf (bV (e2 ltT (A1 1) (eC (.int 0)))) (e1 AJO (A1 2)) (A1 2)))
  (D2 (D4 (A0 (e2 G7 (A1 0) (A1 2)) (A0 (e2 G7 (A1 1) (A1 2)) A2))))))
noncomputable def E3:List T→R T:=fun ts=>clR (Tr.run 3 N8 ts)
theorem AHI:∀ts:List T,ts.length=1→G5 ts≠.bad→run 1 AAH ts=G5 ts
 | [t],_,h=>by cases t<;>first | rfl | exact absurd rfl h
theorem AO5:∀(n m:Nat),∃k,E5 (bV (e2 neT (A1 1) (eC (.int 0)))) (u6 0 1 (A0 (A1 1) (A0 (e2 x3 (A1 0) (A1 1)) A2))) k [some (.int (m:Nat)),some (.int (n:Nat))]=some (.nx [some (.int (Nat.gcd m n:Nat)),some (.int 0)]):=by
 intro n
 induction n using Nat.strongRecOn with
 | ind n ih =>
  intro m
  by_cases hn:n=0
  ·subst hn
   exact ⟨1,by simp only[E5];rw[show (bV (e2 neT (A1 1) (eC (.int 0)))) [some (.int (m:Nat)),some (.int ((0:Nat):Int))]=.ok false from rfl];simp⟩
  ·obtain ⟨k,hk⟩:=ih (m % n) (Nat.mod_lt _ (Nat.pos_of_ne_zero hn)) n
   refine ⟨k+1,?_⟩
   have hb:((n:Int) == 0)=false:=by simpa using hn
   rw[E5]
   rw[show (bV (e2 neT (A1 1) (eC (.int 0)))) [some (.int (m:Nat)),some (.int (n:Nat))]=.ok (!((n:Int) == 0)) from rfl,hb]
   have hm:x3 (.int (m:Nat)) (.int (n:Nat))=some (.int ((m % n:Nat):Int)):=by
    show (if (n:Int)=0 then none else some (PyData.int ((m:Int).fmod (n:Int))))=_
    rw[if_neg (by omega),Int.fmod_eq_emod_of_nonneg _ (by omega)]
    rfl
   have hs:(u6 0 1 (A0 (A1 1) (A0 (e2 x3 (A1 0) (A1 1)) A2))) [some (.int (m:Nat)),some (.int (n:Nat))]=.nx [some (.int (n:Nat)),some (.int ((m % n:Nat):Int))]:=by
    show N3 ((R.of (x3 (.int (m:Nat)) (.int (n:Nat)))).bind _ |>.bind _) _=_
    rw[hm];rfl
   simp only[Bool.not_false,hs]
   rw[hk,Nat.gcd_comm n,←Nat.gcd_rec,Nat.gcd_comm]
theorem ACZ:∀ts:List T,ts.length=2→B4 ts≠.bad→run 2 Q1 ts=B4 ts
 | [x,y],_,h=>by
  match x,y,h with
  | .int a,.int b,h =>
   have hc:0≤a∧0≤b:=by
    by_cases hc:0≤a∧0≤b
    ·exact hc
    ·exact absurd (if_neg hc) h
   show run 2 Q1 [.int a,.int b]=if 0≤a∧0≤b then _ else _
   rw[if_pos hc]
   obtain ⟨m,rfl⟩:=Int.eq_ofNat_of_zero_le hc.1
   obtain ⟨n,rfl⟩:=Int.eq_ofNat_of_zero_le hc.2
   obtain ⟨k,hk⟩:=AO5 n m
   show fin ((B2 (Y6 _ _) _) [some (.int (m:Nat)),some (.int (n:Nat))])=_
   unfold B2
   rw[y8 hk]
   rfl
  | .none,_,h=>exact absurd rfl h
  | .bool _,_,h=>exact absurd rfl h
  | .str _,_,h=>exact absurd rfl h
  | .list _,_,h=>exact absurd rfl h
  | .tuple _,_,h=>exact absurd rfl h
  | .dict _,_,h=>exact absurd rfl h
  | .int _,.none,h=>exact absurd rfl h
  | .int _,.bool _,h=>exact absurd rfl h
  | .int _,.str _,h=>exact absurd rfl h
  | .int _,.list _,h=>exact absurd rfl h
  | .int _,.tuple _,h=>exact absurd rfl h
  | .int _,.dict _,h=>exact absurd rfl h
theorem AKD (a:Int):(if a<0 then -a else a)=(a.natAbs:Int):=by split<;>omega
theorem AJ1 {m:List T→R T} (hm:∀x y,m [x,y]≠.bad→∃a b,x=.int a∧y=.int b) {t:FS} (h:∀a b,m [.int a,.int b]≠.bad→run 2 t [.int a,.int b]=m [.int a,.int b]):∀ts:List T,ts.length=2→m ts≠.bad→run 2 t ts=m ts
 | [x,y],_,q=>by
  obtain ⟨a,b,rfl,rfl⟩:=hm x y q
  exact h a b q
theorem AAB (a b:Int):ltT (.int a) (.int b)=some (.bool (decide (a<b))):=rfl
theorem t6 (a b:Int):gtT (.int a) (.int b)=some (.bool (decide (b<a))):=rfl
theorem AIM (a b:Int):geT (.int a) (.int b)=some (.bool (decide (b≤a))):=rfl
theorem ABC (a:Int):AX8 [.int a]=some (.int (a.natAbs:Int)):=by rw[←AKD];rfl
theorem AR0 (a:Int):AJO (.int a)=some (.int (-a)):=rfl
theorem Y7 (a b:Int):eqT (.int a) (.int b)=some (.bool (a == b)):=rfl
theorem AO0 (a b:Int):neT (.int a) (.int b)=some (.bool (!(a == b))):=rfl
theorem AI2:∀ts:List T,ts.length=2→J8 ts≠.bad→Tr.run 2 Z8 ts=J8 ts:=by
 refine AJ1 (fun x y h=>?_) fun a b _=>?_
 ·cases x with
  | int a=>cases y with
   | int b=>exact ⟨a,b,rfl,rfl⟩
   | _=>exact absurd rfl h
  | _=>exact absurd rfl h
 ·simp only[Z8,Tr.run,T0,List.map_cons,List.map_nil,List.length_cons,List.length_nil,List.replicate_succ,List.replicate_zero,List.cons_append,List.nil_append,List.append_nil,Nat.sub_self,Nat.zero_add,Nat.reduceAdd,Nat.reduceSub,List.replicate,B2,sIf,D2,V2,N3,C0,u6,B9,N1,Tr.gName,List.set_cons_zero,List.set_cons_succ,Tr.e1,Tr.e2,eN,eF,eC,A0,A2,eIf,bV,AB2,bOr,P5,Y3,eOr,R.bind,R.of,ev0,ev1,ev2,ev3,ev4,ev5,ev6,ev7,ev8,ev9,AEX,AEW,A3,N9,fin,Option.map_some,Option.map_none,ite_true,ite_false,Bool.not_true,Bool.not_false,if_true,if_false,Bool.false_eq_true,not_true_eq_false,not_false_eq_true,ABC,AAB,O3,J8,short]
  cases decide ((a.natAbs:Int)<big)<;>rfl
theorem AU1 (m n:Nat):(((Nat.gcd m n:Nat):Int) == 1)=decide (Nat.gcd m n=1):=by
 rw[Bool.eq_iff_iff,beq_iff_eq,decide_eq_true_iff];omega
theorem APE (a b:Int):Tr.run 3 L9 [.tuple [.int a,.int b]]=.ok (.bool (ALJ (.tuple [.int a,.int b]))):=by
 have l2:AA4 [.tuple [.int a,.int b]]=some (.int 2):=rfl
 have g:Tr.gTup [Tr.gName 1,Tr.gName 2] (.tuple [.int a,.int b]) [some (.tuple [.int a,.int b]),none,none]=some [some (.tuple [.int a,.int b]),some (.int a),some (.int b)]:=rfl
 have w:∀i:Int,G5 [.int i]=.ok (.bool true):=fun _=>rfl
 have s2:J8 [.int a,.int b]=.ok (.bool (short a b)):=rfl
 have it:AC0 "tuple" (.tuple [.int a,.int b])=some (.bool true):=rfl
 have n2:((2:Int) == 2)=true:=rfl
 simp only[L9,Tr.run,T0,List.map_cons,List.map_nil,List.length_cons,List.length_nil,List.replicate_succ,List.replicate_zero,List.cons_append,List.nil_append,List.append_nil,Nat.sub_self,Nat.zero_add,Nat.reduceAdd,Nat.reduceSub,List.replicate,B2,sIf,D2,V2,N3,C0,u6,B9,N1,Tr.gName,List.set_cons_zero,List.set_cons_succ,Tr.e1,Tr.e2,eN,eF,eC,A0,A2,eIf,bV,AB2,bOr,P5,Y3,eOr,R.bind,R.of,ev0,ev1,ev2,ev3,ev4,ev5,ev6,ev7,ev8,ev9,AEX,AEW,A3,N9,fin,Option.map_some,Option.map_none,ite_true,ite_false,Bool.not_true,Bool.not_false,if_true,if_false,Bool.false_eq_true,not_true_eq_false,not_false_eq_true,l2,AO0,it,n2,g,w,s2,t6,ABC,ALJ]
 by_cases hb:0<b
 ·have c2:B4 [.int (a.natAbs:Int),.int b]=.ok (.int (Nat.gcd a.natAbs b.natAbs:Nat)):=by
   show (if 0≤(a.natAbs:Int)∧0≤b then _ else _)=_
   rw[if_pos ⟨by omega,by omega⟩];rfl
  simp only[hb,c2,Y7,AU1,decide_true]
  cases short a b<;>rfl
 ·simp only[hb,decide_false]
  rfl
theorem AFH:∀ts:List T,ts.length=1→D1 ts≠.bad→Tr.run 3 L9 ts=D1 ts
 | [t],_,h=>by
  cases t with
  | dict _=>exact absurd rfl h
  | none=>rfl
  | bool _=>rfl
  | int _=>rfl
  | str _=>rfl
  | list _=>rfl
  | tuple xs =>
   match xs,h with
   | [],h=>rfl
   | [x],h=>cases x<;>rfl
   | x::y::z::r,h =>
    have e:Tr.run 3 L9 [.tuple (x::y::z::r)]=.ok (.bool false):=by
     have l3:AA4 [.tuple (x::y::z::r)]=some (.int ((r.length+3:Nat):Int)):=rfl
     have n3:(((r.length+3:Nat):Int) == 2)=false:=by rw[beq_eq_false_iff_ne];omega
     have it:AC0 "tuple" (.tuple (x::y::z::r))=some (.bool true):=rfl
     simp only[L9,Tr.run,T0,List.map_cons,List.map_nil,List.length_cons,List.length_nil,List.replicate_succ,List.replicate_zero,List.cons_append,List.nil_append,List.append_nil,Nat.sub_self,Nat.zero_add,Nat.reduceAdd,Nat.reduceSub,List.replicate,B2,sIf,D2,V2,N3,C0,u6,B9,N1,Tr.gName,List.set_cons_zero,List.set_cons_succ,Tr.e1,Tr.e2,eN,eF,eC,A0,A2,eIf,bV,AB2,bOr,P5,Y3,eOr,R.bind,R.of,ev0,ev1,ev2,ev3,ev4,ev5,ev6,ev7,ev8,ev9,AEX,AEW,A3,N9,fin,Option.map_some,Option.map_none,ite_true,ite_false,Bool.not_true,Bool.not_false,if_true,if_false,Bool.false_eq_true,not_true_eq_false,not_false_eq_true,l3,AO0,n3,it]
    rw[e]
    first | rfl | (cases x<;>first | rfl | (cases y<;>first | rfl | exact absurd rfl h))
   | [x,y],h =>
    have hd:hasDict (.tuple [x,y])=false:=by
     cases e:hasDict (.tuple [x,y]) with
     | false=>rfl
     | true =>
      refine absurd ?_ h
      show cond (hasDict (.tuple [x,y])) (R.bad:R T) _=_
      rw[e];rfl
    have hm:D1 [.tuple [x,y]]=.ok (.bool (ALJ (.tuple [x,y]))):=by
     show cond (hasDict (.tuple [x,y])) (R.bad:R T) _=_
     rw[hd];rfl
    rw[hm]
    cases x with
    | int a=>cases y with
     | int b=>exact APE _ _
     | dict _=>exact absurd hd Bool.noConfusion
     | _=>rfl
    | dict _=>exact absurd hd Bool.noConfusion
    | _=>rfl
theorem AF0 (a:Int) {g:Nat} (h0:0<g) (h:g.log2<9000):G7 (.int a) (.int (g:Nat))=some (.int (a / (g:Int))):=by
 show (if (g:Int)=0∨¬(g:Int).natAbs.log2<9000 then none else some (PyData.int (a.fdiv (g:Int))))=_
 rw[if_neg (by rw[Int.natAbs_natCast];omega),Int.fdiv_eq_ediv_of_nonneg _ (by omega)]
theorem AWG {g n:Nat} (h:g≤n):g.log2≤n.log2:=by
 by_cases hg:g=0
 ·rw[hg];exact Nat.zero_le _
 ·exact (Nat.le_log2 (by omega)).mpr (Nat.le_trans (Nat.log2_self_le hg) h)
end Kw
end
section
namespace Kw
open PySem hiding start
open PyProof.Rows hiding St
open L2 PySem.Spec Tr PySem.NumText
theorem AM0 {n:Nat} (h:(n:Int)<big):n.log2<400:=by
 rw[AD0]at h
 by_cases hn:n=0
 ·subst hn;exact Nat.lt_of_le_of_lt (Nat.le_refl _) (by decide +kernel)
 ·refine (Nat.log2_lt hn).mpr (Nat.lt_of_lt_of_le (m:=10000000000000000000000000000000000000000) (by omega) (by decide +kernel))
theorem Q4 (i:Int) {j:Int} (h:0<j):x3 (.int i) (.int j)=some (.int (i % j)):=by
 show (if j=0 then none else some (PyData.int (i.fmod j)))=_
 rw[if_neg (by omega),Int.fmod_eq_emod_of_nonneg _ (by omega)]
theorem m9 (i:Int) {j:Int} (h:0<j) (hl:j<2 ^ 63):G7 (.int i) (.int j)=some (.int (i / j)):=by
 have hlog:j.natAbs.log2<9000:=by
  have:j.natAbs<2 ^ 63:=by omega
  exact Nat.lt_trans ((Nat.log2_lt (by omega)).mpr this) (by decide)
 show (if j=0∨¬j.natAbs.log2<9000 then none else some (PyData.int (i.fdiv j)))=_
 rw[if_neg (fun z=>z.elim (fun e=>by omega) fun e=>e hlog),Int.fdiv_eq_ediv_of_nonneg _ (by omega)]
theorem AD3 {i:Int} (j:Int) (h1:-(2 ^ 64)<i) (h2:i<2 ^ 64):C7 (.int i) (.int j)=some (.int (i*j)):=by
 show (if CMulG i j then some (PyData.int (i*j)) else none)=_
 rw[if_pos (.inl (.inl ⟨h1,h2⟩))]
theorem AER (i j:Int):E9 (.int i) (.int j)=some (.int (i+j)):=rfl
theorem AS4 (i j:Int):U8 (.int i) (.int j)=some (.int (i-j)):=rfl
noncomputable def ATX:FS:=(B2 (C0 (Tr.gName 3) (e2 x3 (e2 E9 (e2 C7 (e2 x3 (A1 3) (eC (.int 2147483563))) (eC (.int 69069))) (e2 C7 (eC (.int 104723)) (e2 E9 (A1 1) (eC (.int 1))))) (eC (.int 2147483563))))
  (B2 (C0 (Tr.gName 3) (e2 x3 (e2 E9 (e2 C7 (A1 3) (A1 3)) (e2 G7 (A1 3) (eC (.int 3)))) (eC (.int 2147483399))))
  (D2 (e2 x3 (e2 G7 (e2 x3 (e2 E9 (e2 C7 (A1 3) (A1 3)) (e2 G7 (A1 3) (eC (.int 7)))) (eC (.int 2147483647))) (eC (.int 11))) (A1 2)))))
theorem AII (o0 o4 o5:Option T) (c k many:Int) (hm:0<many):∃d,ATX [o0,some (.int k),some (.int many),some (.int c),o4,o5]=.rt (.int d)∧0≤d∧d<many:=by
 have r1:∀u:Int,0≤u % 2147483563∧u % 2147483563<2147483563:=fun u=>⟨Int.emod_nonneg _ (by decide),Int.emod_lt_of_pos _ (by decide)⟩
 have r2:∀u:Int,0≤u % 2147483399∧u % 2147483399<2147483399:=fun u=>⟨Int.emod_nonneg _ (by decide),Int.emod_lt_of_pos _ (by decide)⟩
 have m1:C7 (.int (c % 2147483563)) (.int 69069)=some (.int (c % 2147483563*69069)):=AD3 _ (by have:=(r1 c).1;omega) (by have:=(r1 c).2;omega)
 have m2:C7 (.int 104723) (.int (k+1))=some (.int (104723*(k+1))):=AD3 _ (by decide) (by decide)
 generalize hc1:(c % 2147483563*69069+104723*(k+1)) % 2147483563=c1
 have b1:0≤c1∧c1<2147483563:=by rw[←hc1];exact r1 _
 have m3:C7 (.int c1) (.int c1)=some (.int (c1*c1)):=AD3 _ (by omega) (by omega)
 generalize hc2:(c1*c1+c1 / 3) % 2147483399=c2
 have b2:0≤c2∧c2<2147483399:=by rw[←hc2];exact r2 _
 have m4:C7 (.int c2) (.int c2)=some (.int (c2*c2)):=AD3 _ (by omega) (by omega)
 refine ⟨(c2*c2+c2 / 7) % 2147483647 / 11 % many,?_,Int.emod_nonneg _ (by omega),Int.emod_lt_of_pos _ hm⟩
 simp only[ATX,Tr.run,B2,sIf,D2,V2,N3,C0,u6,B9,N1,Tr.gName,List.set_cons_zero,List.set_cons_succ,Tr.e1,Tr.e2,eN,eF,eC,A0,A2,eIf,bV,AB2,bOr,P5,Y3,eOr,eM,P4,R.bind,R.of,ev0,ev1,ev2,ev3,ev4,ev5,ev6,ev7,ev8,ev9,AEX,AEW,A3,N9,fin,ite_true,ite_false,Bool.not_true,Bool.not_false,if_true,if_false,Bool.false_eq_true,List.length_cons,List.length_nil,Nat.reduceAdd,Nat.zero_add,List.append_nil,Q4 c (show (0:Int)<2147483563 by decide),m1,m2,AER,Q4 _ (show (0:Int)<2147483563 by decide),hc1,m3,m9 c1 (show (0:Int)<3 by decide) (by decide),Q4 _ (show (0:Int)<2147483399 by decide),hc2,m4,m9 c2 (show (0:Int)<7 by decide) (by decide),Q4 _ (show (0:Int)<2147483647 by decide),m9 _ (show (0:Int)<11 by decide) (by decide),Q4 _ hm]
theorem AKH (o0 o1 o2 o3:Option T):∀(n:Nat) (r:Int),∃(k:Nat) (r' t':Int),E5 (AB2 (bV (e2 gtT (A1 5) (eC (.int 0)))) (bV (e2 gtT (A1 4) (eC (.int 0))))) (B2 (C0 (Tr.gName 5) (e2 G7 (A1 5) (eC (.int 1000000))))
  (C0 (Tr.gName 4) (e2 U8 (A1 4) (eC (.int 1))))) k [o0,o1,o2,o3,some (.int (n:Nat)),some (.int r)]=some (.nx [o0,o1,o2,o3,some (.int t'),some (.int r')]):=by
 intro n
 induction n with
 | zero =>
  intro r
  refine ⟨1,r,0,?_⟩
  have hb:decide ((0:Int)<((0:Nat):Int))=false:=by decide
  rw[E5]
  simp only[Tr.run,B2,sIf,D2,V2,N3,C0,u6,B9,N1,Tr.gName,List.set_cons_zero,List.set_cons_succ,Tr.e1,Tr.e2,eN,eF,eC,A0,A2,eIf,bV,AB2,bOr,P5,Y3,eOr,eM,P4,R.bind,R.of,ev0,ev1,ev2,ev3,ev4,ev5,ev6,ev7,ev8,ev9,AEX,AEW,A3,N9,fin,ite_true,ite_false,Bool.not_true,Bool.not_false,if_true,if_false,Bool.false_eq_true,List.length_cons,List.length_nil,Nat.reduceAdd,Nat.zero_add,List.append_nil,t6]
  cases decide (0<r)<;>rfl
 | succ n ih =>
  intro r
  by_cases hr:0<r
  ·obtain ⟨k,r',t',hk⟩:=ih (r / 1000000)
   refine ⟨k+1,r',t',?_⟩
   have hn:decide ((0:Int)<((n+1:Nat):Int))=true:=decide_eq_true (by omega)
   have hs:(((n+1:Nat):Int)-1)=(n:Int):=by omega
   rw[E5]
   simp only[Tr.run,B2,sIf,D2,V2,N3,C0,u6,B9,N1,Tr.gName,List.set_cons_zero,List.set_cons_succ,Tr.e1,Tr.e2,eN,eF,eC,A0,A2,eIf,bV,AB2,bOr,P5,Y3,eOr,eM,P4,R.bind,R.of,ev0,ev1,ev2,ev3,ev4,ev5,ev6,ev7,ev8,ev9,AEX,AEW,A3,N9,fin,ite_true,ite_false,Bool.not_true,Bool.not_false,if_true,if_false,Bool.false_eq_true,List.length_cons,List.length_nil,Nat.reduceAdd,Nat.zero_add,List.append_nil,t6,hr,decide_true,hn,m9 r (show (0:Int)<1000000 by decide) (by decide),AS4,hs]
   exact hk
  ·refine ⟨1,r,((n+1:Nat):Int),?_⟩
   rw[E5]
   simp only[Tr.run,B2,sIf,D2,V2,N3,C0,u6,B9,N1,Tr.gName,List.set_cons_zero,List.set_cons_succ,Tr.e1,Tr.e2,eN,eF,eC,A0,A2,eIf,bV,AB2,bOr,P5,Y3,eOr,eM,P4,R.bind,R.of,ev0,ev1,ev2,ev3,ev4,ev5,ev6,ev7,ev8,ev9,AEX,AEW,A3,N9,fin,ite_true,ite_false,Bool.not_true,Bool.not_false,if_true,if_false,Bool.false_eq_true,List.length_cons,List.length_nil,Nat.reduceAdd,Nat.zero_add,List.append_nil,t6,hr,decide_false]
mutual
theorem ACG:∀ns:List Int,PyData.canLayAll0 (ns.map PyData.int)=true∧PyData.depthAll (ns.map PyData.int)=0
 | []=>⟨rfl,rfl⟩
 | n::r=>by
  obtain ⟨h1,h2⟩:=ACG r
  refine ⟨?_,?_⟩
  ·show (PyData.canLay0 (.int n)&&PyData.canLayAll0 (r.map PyData.int))=true
   rw[h1];rfl
  ·show max (PyData.depth (.int n)) (PyData.depthAll (r.map PyData.int))=0
   rw[h2];rfl
end
theorem AHP (ns:List Int):SeqAt.shaped (.list (ns.map PyData.int))=true:=by
 obtain ⟨h1,h2⟩:=ACG ns
 show (PyData.canLayAll0 (ns.map PyData.int)&&decide (PyData.depthAll (ns.map PyData.int)+1≤64))=true
 rw[h1,h2];rfl
theorem ASS (ns:List Int):neT (.list (ns.map PyData.int)) (.list [])=some (.bool (!ns.isEmpty)):=by
 have e:eqB (.list (ns.map PyData.int)) (.list [])=some ns.isEmpty:=by
  show (if (SeqAt.shaped (.list (ns.map PyData.int))&&SeqAt.shaped (.list []))=true then some (PyData.eqv (.list (ns.map PyData.int)) (.list [])) else none)=_
  rw[AHP]
  cases ns<;>rfl
 unfold Tr.neT
 rw[e];rfl
noncomputable def AZB:FS:=(Y6 (AB2 (bV (e2 gtT (A1 5) (eC (.int 0)))) (bV (e2 gtT (A1 4) (eC (.int 0))))) (B2 (C0 (Tr.gName 5) (e2 G7 (A1 5) (eC (.int 1000000))))
  (C0 (Tr.gName 4) (e2 U8 (A1 4) (eC (.int 1))))))
theorem AB5:M4=(B2 (C0 (Tr.gName 3) (e2 C7 (eC (.int 7)) (A1 1)))
  (B2 (sIf (bV (e2 neT (A1 0) (S7 A2))) (B2 (C0 (Tr.gName 3) (e2 ixT (A1 0) (e2 x3 (A1 1) (eN AA4 (A0 (A1 0) A2)))))
  (B2 (C0 (Tr.gName 4) (e2 G7 (A1 1) (eN AA4 (A0 (A1 0) A2))))
  (B2 (sIf (AB2 (bV (e2 geT (A1 3) (eC (.int 1000000000000000000)))) (bV (e2 ltT (A1 4) (eC (.int 60))))) (B2 (C0 (Tr.gName 5) (e2 G7 (A1 3) (eC (.int 1000000000000000000))))
  (B2 AZB
  (sIf (bV (e2 gtT (A1 5) (eC (.int 0)))) (D2 (e2 x3 (e2 x3 (A1 5) (eC (.int 1000000))) (A1 2))) B9))) B9)
  (C0 (Tr.gName 3) (e2 E9 (A1 3) (e2 C7 (eC (.int 6553)) (e2 G7 (A1 1) (eN AA4 (A0 (A1 0) A2))))))))) B9)
  ATX)):=rfl
theorem D0 (ns:List Int) (k many:Int) (hk:0≤k) (hm:0<many) (hl:ns.length≤63):∃d,A4 [.list (ns.map PyData.int),.int k,.int many]=.ok (.int d)∧0≤d∧d<many:=by
 have fin1:∀{d:Int},M4 [some (.list (ns.map PyData.int)),some (.int k),some (.int many),none,none,none]=.rt (.int d)→A4 [.list (ns.map PyData.int),.int k,.int many]=.ok (.int d):=fun {d} h=>by
  show clR (fin (M4 [some (.list (ns.map PyData.int)),some (.int k),some (.int many),none,none,none]))=_
  rw[h];rfl
 have m7:C7 (.int 7) (.int k)=some (.int (7*k)):=AD3 _ (by decide) (by decide)
 have el:S7 A2=fun _=>.ok (.list []):=rfl
 by_cases hn:ns=[]
 ·subst hn
  obtain ⟨d,h1,h2,h3⟩:=AII (some (.list [])) none none (7*k) k many hm
  refine ⟨d,fin1 ?_,h2,h3⟩
  have nn:=ASS []
  simp only[List.map_nil,List.isEmpty_nil,Bool.not_true]at nn
  rw[←h1]
  simp only[AB5,List.map_nil,Tr.run,B2,sIf,D2,V2,N3,C0,u6,B9,N1,Tr.gName,List.set_cons_zero,List.set_cons_succ,Tr.e1,Tr.e2,eN,eF,eC,A0,A2,eIf,bV,AB2,bOr,P5,Y3,eOr,eM,P4,R.bind,R.of,ev0,ev1,ev2,ev3,ev4,ev5,ev6,ev7,ev8,ev9,AEX,AEW,A3,N9,fin,ite_true,ite_false,Bool.not_true,Bool.not_false,if_true,if_false,Bool.false_eq_true,List.length_cons,List.length_nil,Nat.reduceAdd,Nat.zero_add,List.append_nil,m7,el,nn]
 ·have nn:=ASS ns
  have ie:ns.isEmpty=false:=by cases ns with | nil=>exact absurd rfl hn | cons a b=>rfl
  rw[ie,Bool.not_false]at nn
  have hlen:0<ns.length:=List.length_pos_iff.mpr hn
  have ln:AA4 [.list (ns.map PyData.int)]=some (.int (ns.length:Nat)):=by show some (PyData.int (((ns.map PyData.int).length:Nat):Int))=_;rw[List.length_map]
  have hj0:0≤k % (ns.length:Int):=Int.emod_nonneg _ (by omega)
  have hj1:k % (ns.length:Int)<ns.length:=Int.emod_lt_of_pos _ (by omega)
  obtain ⟨j,hj⟩:=Int.eq_ofNat_of_zero_le hj0
  have hjl:j<ns.length:=by omega
  have ix:ixT (.list (ns.map PyData.int)) (.int (k % (ns.length:Int)))=some (.int ns[j]):=by
   show atI (ns.map PyData.int) (k % (ns.length:Int))=_
   rw[hj]
   exact AEM (by rw[List.getElem?_map,List.getElem?_eq_getElem hjl];rfl)
  have hT:0≤k / (ns.length:Int):=Int.ediv_nonneg hk (by omega)
  obtain ⟨n,hnT⟩:=Int.eq_ofNat_of_zero_le hT
  have fd:G7 (.int k) (.int (ns.length:Nat))=some (.int (n:Nat)):=by rw[m9 k (by omega) (by omega),hnT]
  have md:x3 (.int k) (.int (ns.length:Nat))=some (.int (k % (ns.length:Int))):=Q4 k (by omega)
  have m65:C7 (.int 6553) (.int (n:Nat))=some (.int (6553*(n:Int))):=AD3 _ (by decide) (by decide)
  generalize hcell:ns[j]=cell at ix
  by_cases hc:decide (1000000000000000000≤cell)=true∧decide (((n:Nat):Int)<60)=true
  ·obtain ⟨kk,r',t',hw⟩:=AKH (some (.list (ns.map PyData.int))) (some (.int k)) (some (.int many)) (some (.int cell)) n (cell / 1000000000000000000)
   have hw':AZB [some (.list (ns.map PyData.int)),some (.int k),some (.int many),some (.int cell),some (.int (n:Nat)),some (.int (cell / 1000000000000000000))]=_:=y8 hw
   by_cases hr:0<r'
   ·refine ⟨r' % 1000000 % many,fin1 ?_,Int.emod_nonneg _ (by omega),Int.emod_lt_of_pos _ hm⟩
    simp only[AB5,Tr.run,B2,sIf,D2,V2,N3,C0,u6,B9,N1,Tr.gName,List.set_cons_zero,List.set_cons_succ,Tr.e1,Tr.e2,eN,eF,eC,A0,A2,eIf,bV,AB2,bOr,P5,Y3,eOr,eM,P4,R.bind,R.of,ev0,ev1,ev2,ev3,ev4,ev5,ev6,ev7,ev8,ev9,AEX,AEW,A3,N9,fin,ite_true,ite_false,Bool.not_true,Bool.not_false,if_true,if_false,Bool.false_eq_true,List.length_cons,List.length_nil,Nat.reduceAdd,Nat.zero_add,List.append_nil,m7,el,nn,ln,md,ix,fd,AIM,AAB,hc.1,hc.2,m9 cell (show (0:Int)<1000000000000000000 by decide) (by decide),hw',t6,hr,decide_true,Q4 r' (show (0:Int)<1000000 by decide),Q4 _ hm]
   ·obtain ⟨d,h1,h2,h3⟩:=AII (some (.list (ns.map PyData.int))) (some (.int t')) (some (.int r')) (cell+6553*(n:Int)) k many hm
    refine ⟨d,fin1 ?_,h2,h3⟩
    rw[←h1]
    simp only[AB5,Tr.run,B2,sIf,D2,V2,N3,C0,u6,B9,N1,Tr.gName,List.set_cons_zero,List.set_cons_succ,Tr.e1,Tr.e2,eN,eF,eC,A0,A2,eIf,bV,AB2,bOr,P5,Y3,eOr,eM,P4,R.bind,R.of,ev0,ev1,ev2,ev3,ev4,ev5,ev6,ev7,ev8,ev9,AEX,AEW,A3,N9,fin,ite_true,ite_false,Bool.not_true,Bool.not_false,if_true,if_false,Bool.false_eq_true,List.length_cons,List.length_nil,Nat.reduceAdd,Nat.zero_add,List.append_nil,m7,el,nn,ln,md,ix,fd,AIM,AAB,hc.1,hc.2,m9 cell (show (0:Int)<1000000000000000000 by decide) (by decide),hw',t6,hr,decide_false,m65,AER]
  ·obtain ⟨d,h1,h2,h3⟩:=AII (some (.list (ns.map PyData.int))) (some (.int (n:Nat))) none (cell+6553*(n:Int)) k many hm
   refine ⟨d,fin1 ?_,h2,h3⟩
   rw[←h1]
   have cc:(if decide (1000000000000000000≤cell)=true then (Tr.R.ok (decide (((n:Nat):Int)<60)):Tr.R Bool) else .ok false)=.ok false:=by
    cases q1:decide (1000000000000000000≤cell)<;>cases q2:decide (((n:Nat):Int)<60)<;>first | rfl | exact absurd ⟨q1,q2⟩ hc
   simp only[AB5,Tr.run,B2,sIf,D2,V2,N3,C0,u6,B9,N1,Tr.gName,List.set_cons_zero,List.set_cons_succ,Tr.e1,Tr.e2,eN,eF,eC,A0,A2,eIf,bV,AB2,bOr,P5,Y3,eOr,eM,P4,R.bind,R.of,ev0,ev1,ev2,ev3,ev4,ev5,ev6,ev7,ev8,ev9,AEX,AEW,A3,N9,fin,ite_true,ite_false,Bool.not_true,Bool.not_false,if_true,if_false,Bool.false_eq_true,List.length_cons,List.length_nil,Nat.reduceAdd,Nat.zero_add,List.append_nil,m7,el,nn,ln,md,ix,fd,AIM,AAB,cc,m65,AER]
theorem ALE:∀(n m:Nat),∃k,E5 (bV (e2 gtT (A1 1) (eC (.int 0)))) (u6 0 1 (A0 (A1 1) (A0 (e2 x3 (A1 0) (A1 1)) A2))) k [some (.int (m:Nat)),some (.int (n:Nat))]=some (.nx [some (.int (Nat.gcd m n:Nat)),some (.int 0)]):=by
 intro n
 induction n using Nat.strongRecOn with
 | ind n ih =>
  intro m
  by_cases hn:n=0
  ·subst hn
   exact ⟨1,by simp only[E5];rw[show (bV (e2 gtT (A1 1) (eC (.int 0)))) [some (.int (m:Nat)),some (.int ((0:Nat):Int))]=.ok false from rfl];simp⟩
  ·obtain ⟨k,hk⟩:=ih (m % n) (Nat.mod_lt _ (Nat.pos_of_ne_zero hn)) n
   refine ⟨k+1,?_⟩
   have hb:decide ((0:Int)<(n:Int))=true:=decide_eq_true (by omega)
   have hm:x3 (.int (m:Nat)) (.int (n:Nat))=some (.int ((m % n:Nat):Int)):=by
    rw[Q4 _ (show (0:Int)<(n:Int) by omega)];rfl
   rw[E5]
   simp only[Tr.run,B2,sIf,D2,V2,N3,C0,u6,B9,N1,Tr.gName,List.set_cons_zero,List.set_cons_succ,Tr.e1,Tr.e2,eN,eF,eC,A0,A2,eIf,bV,AB2,bOr,P5,Y3,eOr,eM,P4,R.bind,R.of,ev0,ev1,ev2,ev3,ev4,ev5,ev6,ev7,ev8,ev9,AEX,AEW,A3,N9,fin,ite_true,ite_false,Bool.not_true,Bool.not_false,if_true,if_false,Bool.false_eq_true,List.length_cons,List.length_nil,Nat.reduceAdd,Nat.zero_add,List.append_nil,t6,hb,hm]
   rw[hk,Nat.gcd_comm n,←Nat.gcd_rec,Nat.gcd_comm]
theorem ACT:∀ts:List T,ts.length=2→D8 ts≠.bad→Tr.run 2 Q6 ts=D8 ts:=by
 refine AJ1 (fun x y h=>?_) fun a b h=>?_
 ·cases x with
  | int a=>cases y with
   | int b=>exact ⟨a,b,rfl,rfl⟩
   | _=>exact absurd rfl h
  | _=>exact absurd rfl h
 ·have hc:0≤a∧0≤b:=by
   by_cases hc:0≤a∧0≤b
   ·exact hc
   ·exact absurd (if_neg hc) h
  show Tr.run 2 Q6 [.int a,.int b]=if 0≤a∧0≤b then _ else _
  rw[if_pos hc]
  obtain ⟨m,rfl⟩:=Int.eq_ofNat_of_zero_le hc.1
  obtain ⟨n,rfl⟩:=Int.eq_ofNat_of_zero_le hc.2
  obtain ⟨k,hk⟩:=ALE n m
  show fin ((B2 (Y6 _ _) _) [some (.int (m:Nat)),some (.int (n:Nat))])=_
  unfold B2
  rw[y8 hk]
  rfl
def AP9 (a b:Int):T :=
 let a':=if b<0 then -a else a
 let b':=if b<0 then -b else b
 let g:Int:=(Nat.gcd a.natAbs b.natAbs:Nat)
 .tuple [.int (a' / g),.int (b' / g)]
theorem AWV (a b:Int) (hb:b≠0) (hl:b.natAbs.log2<9000):E3 [.int a,.int b]=.ok (AP9 a b):=by
 have hb0:0<b.natAbs:=by omega
 have hg:0<Nat.gcd a.natAbs b.natAbs:=Nat.gcd_pos_of_pos_right _ hb0
 have hgl:(Nat.gcd a.natAbs b.natAbs).log2<9000:=Nat.lt_of_le_of_lt (AWG (Nat.le_of_dvd hb0 (Nat.gcd_dvd_right _ _))) hl
 have c:D8 [.int (a.natAbs:Int),.int (b.natAbs:Int)]=.ok (.int (Nat.gcd a.natAbs b.natAbs:Nat)):=by
  have q:D8 [.int (a.natAbs:Int),.int (b.natAbs:Int)]=if 0≤(a.natAbs:Int)∧0≤(b.natAbs:Int) then .ok (.int (Nat.gcd (a.natAbs:Int).natAbs (b.natAbs:Int).natAbs:Nat)) else .bad:=rfl
  rw[q,if_pos ⟨by omega,by omega⟩,Int.natAbs_natCast,Int.natAbs_natCast]
 have fneg:∀u:Int,G7 (.int u) (.int (-(Nat.gcd a.natAbs b.natAbs:Nat)))=some (.int (-u / (Nat.gcd a.natAbs b.natAbs:Nat))):=fun u=>by
  show (if (-(Nat.gcd a.natAbs b.natAbs:Nat):Int)=0∨¬(-(Nat.gcd a.natAbs b.natAbs:Nat):Int).natAbs.log2<9000 then none else some (PyData.int (u.fdiv (-(Nat.gcd a.natAbs b.natAbs:Nat)))))=_
  rw[if_neg (by rw[Int.natAbs_neg,Int.natAbs_natCast];omega)]
  have e:u.fdiv (-((Nat.gcd a.natAbs b.natAbs:Nat):Int))=(-u).fdiv ((Nat.gcd a.natAbs b.natAbs:Nat):Int):=by
   rw[←Int.neg_fdiv_neg u,Int.neg_neg]
  rw[e,Int.fdiv_eq_ediv_of_nonneg _ (by omega)]
 have tt:∀(a b:FE) (ρ:Ev) (u v:T),a ρ=.ok u→b ρ=.ok v→D4 (A0 a (A0 b A2)) ρ=.ok (.tuple [u,v]):=fun a b ρ u v h1 h2=>by
  simp only[D4,Tr.run,B2,sIf,D2,V2,N3,C0,u6,B9,N1,Tr.gName,List.set_cons_zero,List.set_cons_succ,Tr.e1,Tr.e2,eN,eF,eC,A0,A2,eIf,bV,AB2,bOr,P5,Y3,eOr,eM,P4,R.bind,R.of,ev0,ev1,ev2,ev3,ev4,ev5,ev6,ev7,ev8,ev9,AEX,AEW,A3,N9,fin,ite_true,ite_false,Bool.not_true,Bool.not_false,if_true,if_false,Bool.false_eq_true,List.length_cons,List.length_nil,Nat.reduceAdd,Nat.zero_add,List.append_nil,h1,h2]
  rfl
 show clR (fin (N8 [some (.int a),some (.int b),none]))=_
 by_cases h:b<0
 ·have t0:=tt (e2 G7 (A1 0) (A1 2)) (e2 G7 (A1 1) (A1 2)) [some (.int a),some (.int b),some (.int (-(Nat.gcd a.natAbs b.natAbs:Nat)))] (.int (-a / (Nat.gcd a.natAbs b.natAbs:Nat))) (.int (-b / (Nat.gcd a.natAbs b.natAbs:Nat))) (by simp only[Tr.run,B2,sIf,D2,V2,N3,C0,u6,B9,N1,Tr.gName,List.set_cons_zero,List.set_cons_succ,Tr.e1,Tr.e2,eN,eF,eC,A0,A2,eIf,bV,AB2,bOr,P5,Y3,eOr,eM,P4,R.bind,R.of,ev0,ev1,ev2,ev3,ev4,ev5,ev6,ev7,ev8,ev9,AEX,AEW,A3,N9,fin,ite_true,ite_false,Bool.not_true,Bool.not_false,if_true,if_false,Bool.false_eq_true,List.length_cons,List.length_nil,Nat.reduceAdd,Nat.zero_add,List.append_nil,fneg a]) (by simp only[Tr.run,B2,sIf,D2,V2,N3,C0,u6,B9,N1,Tr.gName,List.set_cons_zero,List.set_cons_succ,Tr.e1,Tr.e2,eN,eF,eC,A0,A2,eIf,bV,AB2,bOr,P5,Y3,eOr,eM,P4,R.bind,R.of,ev0,ev1,ev2,ev3,ev4,ev5,ev6,ev7,ev8,ev9,AEX,AEW,A3,N9,fin,ite_true,ite_false,Bool.not_true,Bool.not_false,if_true,if_false,Bool.false_eq_true,List.length_cons,List.length_nil,Nat.reduceAdd,Nat.zero_add,List.append_nil,fneg b])
  simp only[N8,Tr.run,B2,sIf,D2,V2,N3,C0,u6,B9,N1,Tr.gName,List.set_cons_zero,List.set_cons_succ,Tr.e1,Tr.e2,eN,eF,eC,A0,A2,eIf,bV,AB2,bOr,P5,Y3,eOr,eM,P4,R.bind,R.of,ev0,ev1,ev2,ev3,ev4,ev5,ev6,ev7,ev8,ev9,AEX,AEW,A3,N9,fin,ite_true,ite_false,Bool.not_true,Bool.not_false,if_true,if_false,Bool.false_eq_true,List.length_cons,List.length_nil,Nat.reduceAdd,Nat.zero_add,List.append_nil,ABC,c,AAB,h,decide_true,AR0,t0,AP9,clR]
 ·have t0:=tt (e2 G7 (A1 0) (A1 2)) (e2 G7 (A1 1) (A1 2)) [some (.int a),some (.int b),some (.int (Nat.gcd a.natAbs b.natAbs:Nat))] (.int (a / (Nat.gcd a.natAbs b.natAbs:Nat))) (.int (b / (Nat.gcd a.natAbs b.natAbs:Nat))) (by simp only[Tr.run,B2,sIf,D2,V2,N3,C0,u6,B9,N1,Tr.gName,List.set_cons_zero,List.set_cons_succ,Tr.e1,Tr.e2,eN,eF,eC,A0,A2,eIf,bV,AB2,bOr,P5,Y3,eOr,eM,P4,R.bind,R.of,ev0,ev1,ev2,ev3,ev4,ev5,ev6,ev7,ev8,ev9,AEX,AEW,A3,N9,fin,ite_true,ite_false,Bool.not_true,Bool.not_false,if_true,if_false,Bool.false_eq_true,List.length_cons,List.length_nil,Nat.reduceAdd,Nat.zero_add,List.append_nil,AF0 a hg hgl]) (by simp only[Tr.run,B2,sIf,D2,V2,N3,C0,u6,B9,N1,Tr.gName,List.set_cons_zero,List.set_cons_succ,Tr.e1,Tr.e2,eN,eF,eC,A0,A2,eIf,bV,AB2,bOr,P5,Y3,eOr,eM,P4,R.bind,R.of,ev0,ev1,ev2,ev3,ev4,ev5,ev6,ev7,ev8,ev9,AEX,AEW,A3,N9,fin,ite_true,ite_false,Bool.not_true,Bool.not_false,if_true,if_false,Bool.false_eq_true,List.length_cons,List.length_nil,Nat.reduceAdd,Nat.zero_add,List.append_nil,AF0 b hg hgl])
  simp only[N8,Tr.run,B2,sIf,D2,V2,N3,C0,u6,B9,N1,Tr.gName,List.set_cons_zero,List.set_cons_succ,Tr.e1,Tr.e2,eN,eF,eC,A0,A2,eIf,bV,AB2,bOr,P5,Y3,eOr,eM,P4,R.bind,R.of,ev0,ev1,ev2,ev3,ev4,ev5,ev6,ev7,ev8,ev9,AEX,AEW,A3,N9,fin,ite_true,ite_false,Bool.not_true,Bool.not_false,if_true,if_false,Bool.false_eq_true,List.length_cons,List.length_nil,Nat.reduceAdd,Nat.zero_add,List.append_nil,ABC,c,AAB,h,decide_false,t0,AP9,clR]
end Kw
end
section
namespace Kw
open PySem hiding start
open PyProof.Rows hiding St
open L2 PySem.Spec Tr
theorem G6 {c:FT} {s rest:FS} {ρ:Ev} (h:c ρ=.ok false):B2 (sIf c s B9) rest ρ=rest ρ:=by
 unfold B2 sIf
 rw[h];rfl
theorem O1 {i:Nat} {e:FE} {rest:FS} {ρ ρ':Ev} {v:T} (h:e ρ=.ok v) (hi:ρ.set i (some v)=ρ'):B2 (C0 (Tr.gName i) e) rest ρ=rest ρ':=by
 unfold B2 C0
 rw[h,←hi];rfl
theorem E6 {e:FE} {ρ:Ev} {v:T} (h:e ρ=.ok v):D2 e ρ=.rt v:=by
 unfold D2
 rw[h];rfl
theorem ACK {e:FE} {rest:FS} {ρ:Ev} {v:T} (h:e ρ=.ok v):B2 (ACX e) rest ρ=rest ρ:=by
 unfold B2 ACX
 rw[h];rfl
theorem AAZ {gs:List FG} {e:FE} {rest:FS} {ρ ρ':Ev} {v:T} (h:e ρ=.ok v) (hg:Tr.gTup gs v ρ=some ρ'):B2 (C0 (Tr.gTup gs) e) rest ρ=rest ρ':=by
 unfold B2 C0
 rw[h]
 show (match (match Tr.gTup gs v ρ with | some ρ'=>SR.nx ρ' | none=>.bad) with | .nx ρ'=>rest ρ' | r=>r)=_
 rw[hg]
theorem AQ9 {i j:Nat} {a b:FE} {rest:FS} {ρ ρ':Ev} {x y:T} (h1:a ρ=.ok x) (h2:b ρ=.ok y) (hi:(ρ.set i (some x)).set j (some y)=ρ'):B2 (u6 i j (A0 a (A0 b A2))) rest ρ=rest ρ':=by
 unfold B2 u6
 have e:(A0 a (A0 b A2)) ρ=.ok [x,y]:=by unfold A0 A2;rw[h1,h2];rfl
 rw[e,←hi];rfl
theorem h_1 {f:T→Option T} {a:FE} {ρ:Ev} {x z:T} (h1:a ρ=.ok x) (h:f x=some z):e1 f a ρ=.ok z:=by
 unfold Tr.e1;rw[h1];show R.of (f x)=_;rw[h];rfl
theorem h_2 {f:T→T→Option T} {a b:FE} {ρ:Ev} {x y z:T} (h1:a ρ=.ok x) (h2:b ρ=.ok y) (h:f x y=some z):e2 f a b ρ=.ok z:=by
 unfold Tr.e2;rw[h1];show (b ρ).bind _=_;rw[h2];show R.of (f x y)=_;rw[h];rfl
theorem h_c {t:T} {ρ:Ev}:eC t ρ=.ok t:=rfl
theorem AB6 {f:List T→Option T} {a:FE} {ρ:Ev} {x z:T} (h1:a ρ=.ok x) (h:f [x]=some z):eN f (A0 a A2) ρ=.ok z:=by
 unfold eN A0 A2;rw[h1];show R.of (f [x])=_;rw[h];rfl
theorem ACR {m:List T→R T} {a:FE} {ρ:Ev} {x:T} {r:R T} (h1:a ρ=.ok x) (h:m [x]=r):eF (A3 1 [] m) (A0 a A2) ρ=r:=by
 unfold eF A0 A2;rw[h1];show m ([x]++[])=_;rw[List.append_nil];exact h
theorem AE3 {m:List T→R T} {a b:FE} {ρ:Ev} {x y:T} {r:R T} (h1:a ρ=.ok x) (h2:b ρ=.ok y) (h:m [x,y]=r):eF (A3 2 [] m) (A0 a (A0 b A2)) ρ=r:=by
 unfold eF A0 A2;rw[h1,h2];show m ([x,y]++[])=_;rw[List.append_nil];exact h
theorem W3 {m:List T→R T} {a b c:FE} {ρ:Ev} {x y z:T} {r:R T} (h1:a ρ=.ok x) (h2:b ρ=.ok y) (h3:c ρ=.ok z) (h:m [x,y,z]=r):eF (A3 3 [] m) (A0 a (A0 b (A0 c A2))) ρ=r:=by
 unfold eF A0 A2;rw[h1,h2,h3];show m ([x,y,z]++[])=_;rw[List.append_nil];exact h
theorem ALP {a b:FE} {ρ:Ev} {x y:T} (h1:a ρ=.ok x) (h2:b ρ=.ok y):D4 (A0 a (A0 b A2)) ρ=.ok (.tuple [x,y]):=by
 unfold D4 A0 A2;rw[h1,h2];rfl
theorem ATO {ρ:Ev}:S7 A2 ρ=.ok (.list []):=rfl
theorem h_b {a:FE} {ρ:Ev} {k:Bool} (h:a ρ=.ok (.bool k)):bV a ρ=.ok k:=by
 unfold bV;rw[h];rfl
theorem W4 {a:FT} {ρ:Ev} {k:Bool} (h:a ρ=.ok k):P5 a ρ=.ok (!k):=by
 unfold P5;rw[h];rfl
theorem APO {a b:FT} {ρ:Ev} (h1:a ρ=.ok false) (h2:b ρ=.ok false):bOr a b ρ=.ok false:=by
 unfold bOr;rw[h1];exact h2
theorem AdG {a b:FT} {ρ:Ev} (h1:a ρ=.ok true):bOr a b ρ=.ok true:=by
 unfold bOr;rw[h1];rfl
theorem AZG {a b:FT} {ρ:Ev} {k:Bool} (h1:a ρ=.ok false) (h2:b ρ=.ok k):bOr a b ρ=.ok k:=by
 unfold bOr;rw[h1];exact h2
theorem J1 {it:FI} {sel:List (Option Nat)} {g:FG} {test:FT} {te:FE} {ρ:Ev} {ts xs:List T} (h1:it ρ=.ok ts) (h2:ts.length≤100000) (h3:C4 g test te (G1 sel ρ) ts=.ok xs):E2 it sel g test te ρ=.ok (.list xs):=by
 unfold E2
 rw[h1]
 show (if ts.length≤100000 then (C4 g test te (G1 sel ρ) ts).bind _ else _)=_
 rw[if_pos h2,h3]
 rfl
theorem O8 {e:FE} {ρ:Ev} {ts:List T} (h:e ρ=.ok (.list ts)):iOf A9 e ρ=.ok ts:=by
 unfold iOf;rw[h];rfl
theorem E4 {n:Nat} {t:FS} {ts:List T} {ρ:Ev} {r:SR} (h:T0 n ts=ρ) (h2:t ρ=r):Tr.run n t ts=fin r:=by
 rw[←h2,←h];rfl
theorem Ae0 {m:List T→R T} {a b c d:FE} {ρ:Ev} {x y z w:T} {r:R T} (h1:a ρ=.ok x) (h2:b ρ=.ok y) (h3:c ρ=.ok z) (h4:d ρ=.ok w) (h:m [x,y,z,w]=r):eF (A3 4 [] m) (A0 a (A0 b (A0 c (A0 d A2)))) ρ=r:=by
 unfold eF A0 A2;rw[h1,h2,h3,h4];show m ([x,y,z,w]++[])=_;rw[List.append_nil];exact h
theorem AbP {a:FE} {ρ:Ev} {x:T} (h1:a ρ=.ok x):D4 (A0 a A2) ρ=.ok (.tuple [x]):=by
 unfold D4 A0 A2;rw[h1];rfl
theorem AD8 {c:FT} {e:FE} {rest:FS} {ρ:Ev} {v:T} (h:c ρ=.ok true) (h2:e ρ=.ok v):B2 (sIf c (D2 e) B9) rest ρ=.rt v:=by
 unfold B2 sIf D2
 rw[h,h2];rfl
theorem AbU {c:FT} {s u:FS} {ρ:Ev} {r:SR} (h:c ρ=.ok true) (h2:s ρ=r):sIf c s u ρ=r:=by
 unfold sIf;rw[h];exact h2
theorem AW8 {c:FT} {s u:FS} {ρ:Ev} {r:SR} (h:c ρ=.ok false) (h2:u ρ=r):sIf c s u ρ=r:=by
 unfold sIf;rw[h];exact h2
theorem APQ {c:FT} {a b:FE} {ρ:Ev} {r:R T} (h:c ρ=.ok false) (h2:b ρ=r):eIf c a b ρ=r:=by
 unfold eIf;rw[h];exact h2
theorem AS7 {c:FT} {a b:FE} {ρ:Ev} {r:R T} (h:c ρ=.ok true) (h2:a ρ=r):eIf c a b ρ=r:=by
 unfold eIf;rw[h];exact h2
theorem ADI {a b:FE} {ρ:Ev} {r:R T} (h1:a ρ=.ok (.bool true)) (h2:b ρ=r):Y3 a b ρ=r:=by
 unfold Y3;rw[h1];exact h2
theorem AUA {a b:FE} {ρ:Ev} (h1:a ρ=.ok (.bool false)):Y3 a b ρ=.ok (.bool false):=by
 unfold Y3;rw[h1];rfl
theorem AZL {c:FT} {s u rest:FS} {ρ ρ':Ev} (h:c ρ=.ok true) (h2:s ρ=.nx ρ'):B2 (sIf c s u) rest ρ=rest ρ':=by
 unfold B2 sIf;rw[h]
 show (match s ρ with | .nx ρ'=>rest ρ' | r=>r)=_
 rw[h2]
theorem ASY {c:FT} {s u rest:FS} {ρ ρ':Ev} (h:c ρ=.ok false) (h2:u ρ=.nx ρ'):B2 (sIf c s u) rest ρ=rest ρ':=by
 unfold B2 sIf;rw[h]
 show (match u ρ with | .nx ρ'=>rest ρ' | r=>r)=_
 rw[h2]
theorem AOG {c:FT} {s rest:FS} {ρ:Ev} {v:T} (h:c ρ=.ok true) (h2:s ρ=.rt v):B2 (sIf c s B9) rest ρ=.rt v:=by
 unfold B2 sIf;rw[h]
 show (match s ρ with | .nx ρ'=>rest ρ' | r=>r)=_
 rw[h2]
theorem S1 {i:Nat} {e:FE} {ρ:Ev} {v:T} (h:e ρ=.ok v):C0 (Tr.gName i) e ρ=.nx (ρ.set i (some v)):=by
 unfold C0;rw[h];rfl
theorem AcQ {a b c d e:FE} {ρ:Ev} {x y z w u:T} (h1:a ρ=.ok x) (h2:b ρ=.ok y) (h3:c ρ=.ok z) (h4:d ρ=.ok w) (h5:e ρ=.ok u):D4 (A0 a (A0 b (A0 c (A0 d (A0 e A2))))) ρ=.ok (.tuple [x,y,z,w,u]):=by
 unfold D4 A0 A2;rw[h1,h2,h3,h4,h5];rfl
theorem AbM {f:List T→Option T} {a b:FE} {ρ:Ev} {x y z:T} (h1:a ρ=.ok x) (h2:b ρ=.ok y) (h:f [x,y]=some z):eN f (A0 a (A0 b A2)) ρ=.ok z:=by
 unfold eN A0 A2;rw[h1,h2];show R.of (f [x,y])=_;rw[h];rfl
theorem Ae3 {a:FE} {ρ:Ev} {x:T} (h1:a ρ=.ok x):S7 (A0 a A2) ρ=.ok (.list [x]):=by
 unfold S7 A0 A2;rw[h1];rfl
theorem ADW {te:FE} {ρ:Ev} {f:T→T}:∀ts:List T,(∀t∈ts,te (ρ.set 0 (some t))=.ok (f t))→C4 (Tr.gName 0) (fun _=>.ok true) te ρ ts=.ok (ts.map f)
 | [],_=>rfl
 | t::ts,h=>by
  rw[C4]
  have g:Tr.gName 0 t ρ=some (ρ.set 0 (some t)):=rfl
  simp only[g,h t List.mem_cons_self,ADW ts fun u hu=>h u (List.mem_cons_of_mem _ hu)]
  rfl
theorem all_map {f:T→Bool} (ts:List T):AQF [.list (ts.map fun t=>PyData.bool (f t))]=some (.bool (ts.all f)):=by
 have h1:(ts.map fun t=>PyData.bool (f t)).all AF9=true:=by
  rw[List.all_map];exact List.all_eq_true.mpr fun _ _=>rfl
 have h2:(ts.map fun t=>PyData.bool (f t)).all AIC=ts.all f:=by
  rw[List.all_map];rfl
 show (if (ts.map fun t=>PyData.bool (f t)).all AF9=true then some (PyData.bool ((ts.map fun t=>PyData.bool (f t)).all AIC)) else none)=_
 rw[if_pos h1,h2]
theorem AJQ (n:Nat):L1 0 n=((List.range n).map fun (i:Nat)=>(i:Int)).map PyData.int:=by
 unfold L1
 rw[List.map_map]
 refine List.map_congr_left fun i _=>?_
 show PyData.int (0+(i:Int))=PyData.int i
 rw[Int.zero_add]
theorem AE1 {n:Nat} {k:Int} (h:k∈(List.range n).map fun (i:Nat)=>(i:Int)):0≤k∧k<n:=by
 obtain ⟨i,hi,rfl⟩:=List.mem_map.mp h
 have:=List.mem_range.mp hi
 omega
theorem AFZ {a:FE} {ρ:Ev} {n:Int} (h:a ρ=.ok (.int n)) (h0:0≤n) (h1:n<1000):iN AKS (A0 a A2) ρ=.ok (((List.range n.toNat).map fun (i:Nat)=>(i:Int)).map PyData.int):=by
 unfold iN A0 A2
 rw[h]
 show R.of (if -100000<n∧n<100000 then some (L1 0 n.toNat) else none)=_
 rw[if_pos ⟨by omega,by omega⟩,AJQ]
 rfl
end Kw
end
section
namespace Kw
open PySem hiding start
open PyProof.Rows hiding St
open L2 PySem.Spec Tr PySem.NumText
theorem AD4 {a b:Int} (ha:a.natAbs≤1000) (hb:b.natAbs≤100000):C7 (.int a) (.int b)=some (.int (a*b)):=by
 have h:CMulG a b:=.inl (.inl ⟨by omega,by omega⟩)
 show (if CMulG a b then some (PyData.int (a*b)) else none)=_
 rw[if_pos h]
def Sh (d:Nat) (t:T):Prop:=t.canLay0=true∧t.depth≤d
theorem Sh.mono {d e:Nat} {t:T} (h:Sh d t) (le:d≤e):Sh e t:=⟨h.1,Nat.le_trans h.2 le⟩
theorem AMK {d:Nat}:∀ts:List T,(∀t∈ts,Sh d t)→PyData.canLayAll0 ts=true∧PyData.depthAll ts≤d
 | [],_=>⟨by unfold PyData.canLayAll0;rfl,by unfold PyData.depthAll;omega⟩
 | t::ts,h=>by
  obtain ⟨h1,h2⟩:=AMK ts fun u hu=>h u (List.mem_cons_of_mem _ hu)
  obtain ⟨h3,h4⟩:=h t List.mem_cons_self
  refine ⟨by unfold PyData.canLayAll0;rw[h3,h1];rfl,?_⟩
  unfold PyData.depthAll
  exact Nat.max_le.mpr ⟨h4,h2⟩
theorem L3 {d:Nat} {ts:List T} (h:∀t∈ts,Sh d t):Sh (d+1) (.tuple ts):=by
 obtain ⟨h1,h2⟩:=AMK ts h
 refine ⟨by unfold PyData.canLay0;exact h1,?_⟩
 unfold PyData.depth
 omega
theorem ALU {d:Nat} {ts:List T} (h:∀t∈ts,Sh d t):Sh (d+1) (.list ts):=by
 obtain ⟨h1,h2⟩:=AMK ts h
 refine ⟨by unfold PyData.canLay0;exact h1,?_⟩
 unfold PyData.depth
 omega
theorem AAM (i:Int) (d:Nat):Sh d (.int i):=⟨by unfold PyData.canLay0;rfl,by unfold PyData.depth;omega⟩
theorem AW2 (i:Bool) (d:Nat):Sh d (.bool i):=⟨by unfold PyData.canLay0;rfl,by unfold PyData.depth;omega⟩
theorem Sh.shaped {d:Nat} {t:T} (h:Sh d t) (hd:d≤64):SeqAt.shaped t=true:=by
 unfold SeqAt.shaped
 rw[h.1,decide_eq_true (Nat.le_trans h.2 hd)]
 rfl
theorem ADX {m:List T→R T} {ts:List T} {ρ:Ev} (h:∀t∈ts,m [t]=.ok (.bool true)) (hl:ts.length≤100000) {it:FI} (hi:it ρ=.ok ts):eN AQF (A0 (E2 it [none] (Tr.gName 0) (fun _=>.ok true) (eF (A3 1 [] m) (A0 (A1 0) A2))) A2) ρ=.ok (.bool true):=by
 have c:=ADW (te:=eF (A3 1 [] m) (A0 (A1 0) A2)) (ρ:=[none]) (f:=fun _=>PyData.bool true) ts fun t ht=>ACR (x:=t) rfl (h t ht)
 refine AB6 (J1 hi hl c) ?_
 have:=all_map (f:=fun _=>true) ts
 rw[this]
 simp
theorem j8 {e:FE} {ρ:Ev} {ts:List T} (h:e ρ=.ok (.tuple ts)):iOf L4 e ρ=.ok ts:=by
 unfold iOf;rw[h];rfl
theorem G8 (a b:Int):E9 (.int a) (.int b)=some (.int (a+b)):=rfl
theorem v6 (a b:Int):U8 (.int a) (.int b)=some (.int (a-b)):=rfl
theorem AQX {a b:FT} {ρ:Ev} {x y:Bool} (h1:a ρ=.ok x) (h2:b ρ=.ok y):bOr a b ρ=.ok (x||y):=by
 unfold bOr;rw[h1]
 cases x with
 | true=>rfl
 | false=>exact h2
theorem W5 {i a:Nat} {ρ:Ev} (h:ρ[i]?=some (some (E8 a))):J3 i a ρ=true:=by
 unfold J3
 rw[h]
 show decide ((a:Int)=(a:Int))=true
 exact decide_eq_true rfl
theorem X6 {t u:FB} {a:Nat} {ρ ρ':Ev} {acc acc':List T} {r:BR} (h:t a ρ acc=.nx ρ' acc') (h2:u a ρ' acc'=r):w6 t u a ρ acc=r:=by
 unfold w6;rw[h];exact h2
theorem T7 {i a:Nat} {t:FS} {ρ ρ':Ev} {acc:List T} (h:t ρ=.nx ρ') (hk:ρ'[i]?=some (some (E8 a))):Q7 i t a ρ acc=.nx ρ' acc:=by
 unfold Q7;rw[h]
 show (if J3 i a ρ'=true then BR.nx ρ' acc else .bad)=_
 rw[if_pos (W5 hk)]
theorem AIQ {a:Nat} {te:FE} {ρ:Ev} {acc:List T} {y:T} (h:te ρ=.ok y) (hl:acc.length≤1000):ALO te a ρ acc=.nx ρ (acc++[y]):=by
 unfold ALO;rw[h]
 show (if J4 acc.length=true then BR.nx ρ (acc++[y]) else .bad)=_
 rw[if_pos (show J4 acc.length=true from decide_eq_true hl)]
theorem Z1 {i a:Nat} {g:FG} {body:FB} {t:T} {ts:List T} {ρ ρ1 ρ2:Ev} {acc acc2:List T} {r:BR} (hg:g t ρ=some ρ1) (hk:ρ1[i]?=some (some (E8 a))) (hb:body a ρ1 acc=.nx ρ2 acc2)
  (hr:O4 (fun t ρ=>(g t ρ).bind fun ρ'=>if J3 i a ρ'=true then some ρ' else none) body ts a ρ2 acc2=r):O4 (fun t ρ=>(g t ρ).bind fun ρ'=>if J3 i a ρ'=true then some ρ' else none) body (t::ts) a ρ acc=r:=by
 rw[O4]
 have e:((g t ρ).bind fun ρ'=>if J3 i a ρ'=true then some ρ' else none)=some ρ1:=by
  rw[hg]
  show (if J3 i a ρ1=true then some ρ1 else none)=_
  rw[if_pos (W5 hk)]
 simp only[e,hb]
 exact hr
theorem AAQ {i a:Nat} {it:FI} {g:FG} {body:FB} {ρ:Ev} {acc:List T} {ts:List T} {r:BR} (h:it ρ=.ok ts) (h2:O4 (fun t ρ=>(g t ρ).bind fun ρ'=>if J3 i a ρ'=true then some ρ' else none) body ts a ρ acc=r):AHA i it g body a ρ acc=r:=by
 unfold AHA;rw[h];exact h2
theorem AEP {i:Nat} {tb:FB} {rest:FS} {ρ r:Ev} (hi:i<ρ.length) (h:∀a,∃ρ' acc,tb a (ρ.set i (some (E8 a))) []=.nx ρ' acc∧ρ'.set i (some (.list acc))=r):B2 (X5 i tb) rest ρ=rest r:=by
 unfold B2;rw[AG3 hi h]
theorem AGK {it:FI} {g:FG} {body rest:FS} {ρ ρ':Ev} {ts:List T} (h1:it ρ=.ok ts) (h2:AD5 g body ts ρ=.nx ρ'):B2 (AGA it g body) rest ρ=rest ρ':=by
 unfold B2 AGA
 rw[h1]
 show (match AD5 g body ts ρ with | .nx ρ'=>rest ρ' | r=>r)=_
 rw[h2]
theorem ACA {g:FG} {body:FS} {t:T} {ts:List T} {ρ ρ1 ρ2:Ev} {r:SR} (hg:g t ρ=some ρ1) (hb:body ρ1=.nx ρ2) (hr:AD5 g body ts ρ2=r):AD5 g body (t::ts) ρ=r:=by
 rw[AD5]
 simp only[hg,hb]
 exact hr
theorem Sh.self {d:Nat} {t:T} (h:Sh d t) (hd:d≤64):PyData.eqv t t=true:=SeqAt.eqv_refl t h.1
theorem AJL {d:Nat} {t:T} (h:Sh d t) (hd:d≤64):eqB t t=some true:=by
 rcases AAA t t with ⟨x,y,e1,e2⟩ | e
 ·rw[e1]at e2
  have:x=y:=by injection e2
  subst this
  rw[e1]
  show some (x == x)=some true
  simp
 ·rw[e,h.shaped hd,h.self hd]
  rfl
theorem AHQ {d:Nat} {t:T} (h:Sh d t) (hd:d≤64):Tr.neT t t=some (.bool false):=by
 unfold Tr.neT
 rw[AJL h hd]
 rfl
theorem AJN {te:FE} {ρ:Ev} {f:Int→T}:∀ks:List Int,(∀k∈ks,te (ρ.set 0 (some (.int k)))=.ok (f k))→C4 (Tr.gName 0) (fun _=>.ok true) te ρ (ks.map PyData.int)=.ok (ks.map f)
 | [],_=>rfl
 | k::ks,h=>by
  rw[List.map_cons,C4]
  have g:Tr.gName 0 (.int k) ρ=some (ρ.set 0 (some (.int k))):=rfl
  simp only[g,h k List.mem_cons_self,AJN ks fun u hu=>h u (List.mem_cons_of_mem _ hu)]
  rfl
theorem Q8 {α:Type} {g:FG} {te:FE} {ρ:Ev} {f i:α→T}:∀xs:List α,(∀x∈xs,∃ρ1,g (i x) ρ=some ρ1∧te ρ1=.ok (f x))→C4 g (fun _=>.ok true) te ρ (xs.map i)=.ok (xs.map f)
 | [],_=>rfl
 | x::xs,h=>by
  obtain ⟨ρ1,h1,h2⟩:=h x List.mem_cons_self
  rw[List.map_cons,C4]
  simp only[h1,h2,Q8 xs fun u hu=>h u (List.mem_cons_of_mem _ hu)]
  rfl
theorem AHF {te:FE} {ρ:Ev} {test:FT} {f:T→Bool}:∀ts:List T,(∀t∈ts,test (ρ.set 0 (some t))=.ok (f t)∧te (ρ.set 0 (some t))=.ok t)→C4 (Tr.gName 0) test te ρ ts=.ok (ts.filter f)
 | [],_=>rfl
 | t::ts,h=>by
  obtain ⟨h1,h2⟩:=h t List.mem_cons_self
  have ih:=AHF ts fun u hu=>h u (List.mem_cons_of_mem _ hu)
  rw[C4,List.filter_cons]
  have g:Tr.gName 0 t ρ=some (ρ.set 0 (some t)):=rfl
  cases e:f t with
  | true =>
   rw[e]at h1
   simp only[g,h1,h2,ih]
   rfl
  | false =>
   rw[e]at h1
   simp only[g,h1,ih]
   rfl
def RT (r:Rat):T:=.tuple [.int r.num,.int (r.den:Int)]
def Sm (r:Rat):Prop:=(r.num.natAbs:Int)<big∧((r.den:Nat):Int)<big
theorem AeB {r:Rat} {q:Int} {p:Nat} (h:At r q p) (hq:q≠0) (hp:(p:Int)<big) (hb:(q.natAbs:Int)<big):Sm r:=by
 obtain ⟨h1,h2⟩:=AM5 h hq
 exact ⟨by omega,by omega⟩
theorem AR8 {r:Rat} (h:Sm r):short r.num (r.den:Int)=true:=by
 unfold short
 rw[decide_eq_true h.1,decide_eq_true h.2];rfl
theorem AQR {r:Rat} (h:Sm r):ALJ (RT r)=true:=by
 show (decide (0<(r.den:Int))&&short r.num (r.den:Int)&&decide (Nat.gcd r.num.natAbs (r.den:Int).natAbs=1))=true
 have hd:=r.den_nz
 rw[AR8 h,decide_eq_true (show (0:Int)<(r.den:Int) by omega),Int.natAbs_natCast,decide_eq_true (show Nat.gcd r.num.natAbs r.den=1 from r.reduced)]
 rfl
theorem AEB {r:Rat} (h:Sm r):D1 [RT r]=.ok (.bool true):=by
 rw[←AQR h];rfl
theorem AS6 {a b:Int} (hb:b≠0):AP9 a b=RT (Rat.divInt a b):=by
 unfold AP9
 dsimp only
 rw[AeE a b hb,AfZ a b hb]
 rfl
theorem lg {a:Int} (h:(a.natAbs:Int)<big):a.natAbs.log2<400:=AM0 h
theorem AO1 {a b:Int} (ha:a.natAbs.log2<400) (hb:b.natAbs.log2<400):C7 (.int a) (.int b)=some (.int (a*b)):=by
 show (if CMulG a b then some (PyData.int (a*b)) else none)=_
 rw[if_pos (.inr ⟨by omega,by omega⟩)]
theorem AHJ {a b:Int} {r:Rat} (hb:b≠0) (hl:b.natAbs.log2<9000) (e:r=Rat.divInt a b):E3 [.int a,.int b]=.ok (RT r):=by
 subst e
 rw[AWV a b hb hl,AS6 hb]
end Kw
end
section
namespace Kw
open PySem hiding start
open PyProof.Rows hiding St
open L2 PySem.Spec Tr
def W7:T:=.int 64
def AAE:T:=.int 15
def R8:T:=.int 999
def AHL:T:=.tuple [.str (Str.ofString "whole"),.str (Str.ofString "odd")]
def J0:T:=.tuple [.str (Str.ofString "erase")]
noncomputable def ABI:FS:=(D2 (e2 APM (A1 0) (eC AHL)))
noncomputable def L0:List T→R T:=fun ts=>clR (Tr.run 1 ABI ts)
noncomputable def N7:FS:=(B2 (C0 (Tr.gTup [(Tr.gName 2),(Tr.gName 3)]) (A1 1))
  (B2 (X5 4 (AHA 4 (iOf A9 (A1 0)) (Tr.gTup [(Tr.gName 5),(Tr.gName 6),(Tr.gName 7),(Tr.gName 8),(Tr.gName 9)]) (w6 (Q7 4 (C0 (Tr.gName 10) (e2 C7 (A1 2) (A1 9)))) (w6 (Q7 4 (C0 (Tr.gName 11) (e2 U8 (A1 8) (A1 6)))) (w6 (Q7 4 (sIf (j7 leT ltT (e2 C7 (A1 6) (A1 3)) (A1 10) (e2 C7 (A1 8) (A1 3))) (C0 (Tr.gName 12) (eC (.int 1))) (sIf (j7 leT ltT (e2 C7 (A1 8) (A1 3)) (A1 10) (e2 C7 (A1 6) (A1 3))) (C0 (Tr.gName 12) (e1 AJO (eC (.int 1)))) AWY))) (w6 (Q7 4 (C0 (Tr.gName 13) (e2 E9 (e2 C7 (e2 C7 (A1 5) (A1 3)) (A1 11)) (e2 C7 (e2 U8 (A1 10) (e2 C7 (A1 6) (A1 3))) (e2 U8 (A1 7) (A1 5)))))) (ALO (D4 (A0 (e2 C7 (A1 13) (A1 12)) (A0 (e2 C7 (e2 C7 (e2 C7 (A1 3) (A1 11)) (A1 9)) (A1 12)) (A0 (A1 12) A2)))))))))))
  (D2 (A1 4))))
noncomputable def U9:List T→R T:=fun ts=>clR (Tr.run 14 N7 ts)
noncomputable def AAI:FS:=(B2 (C0 (Tr.gTup [(Tr.gName 2),(Tr.gName 3)]) (A1 1))
  (D2 (eN AcF (A0 (E2 (iOf A9 (A1 0)) [none,none,none,some 3,some 2] (Tr.gTup [(Tr.gName 0),(Tr.gName 1),(Tr.gName 2)]) (bV (e2 gtT (e2 C7 (A1 0) (A1 3)) (e2 C7 (A1 4) (A1 1)))) (A1 2)) A2))))
noncomputable def AE6:List T→R T:=fun ts=>clR (Tr.run 4 AAI ts)
noncomputable def V1:FS:=(D2 (eIf (bV (e2 eqT (A1 0) (eC (.str (Str.ofString "whole"))))) (e2 neT (A1 1) (eC (.int 0))) (e2 eqT (e2 x3 (A1 1) (eC (.int 2))) (eC (.int 1)))))
noncomputable def AAL:List T→R T:=fun ts=>clR (Tr.run 2 V1 ts)
noncomputable def R3:FS:=(B2 (C0 (Tr.gTup [(Tr.gName 3),(Tr.gName 4),(Tr.gName 5),(Tr.gName 6),(Tr.gName 7),(Tr.gName 8)]) (A1 0))
  (D2 (j9 leT leT (e2 C7 (e2 U8 (eN Ad9 (A0 (A1 4) (A0 (A1 6) A2))) (A1 7)) (A1 2)) (e2 C7 (A1 1) (A1 8)) (e2 C7 (e2 E9 (eN AWS (A0 (A1 4) (A0 (A1 6) A2))) (A1 7)) (A1 2)))))
noncomputable def M8:List T→R T:=fun ts=>clR (Tr.run 9 R3 ts)
noncomputable def U1:FS:=(B2 (C0 (Tr.gTup [(Tr.gName 4),(Tr.gName 5),(Tr.gName 6),(Tr.gName 7),(Tr.gName 8),(Tr.gName 9)]) (A1 0))
  (B2 (u6 10 11 (A0 (e2 C7 (e2 U8 (A1 6) (A1 4)) (A1 3)) (A0 (e2 C7 (e2 U8 (A1 7) (A1 5)) (A1 3)) A2)))
  (B2 (u6 12 13 (A0 (e2 U8 (e2 C7 (A1 1) (A1 9)) (e2 C7 (A1 4) (A1 3))) (A0 (e2 U8 (e2 C7 (A1 2) (A1 9)) (e2 C7 (A1 5) (A1 3))) A2)))
  (B2 (C0 (Tr.gName 14) (e2 AFJ (e2 C7 (A1 8) (A1 3)) (eC (.int 2))))
  (B2 (C0 (Tr.gName 15) (e2 E9 (e2 AFJ (A1 10) (eC (.int 2))) (e2 AFJ (A1 11) (eC (.int 2)))))
  (B2 (C0 (Tr.gName 16) (e2 E9 (e2 C7 (A1 12) (A1 10)) (e2 C7 (A1 13) (A1 11))))
  (B2 (sIf (bV (e2 leT (A1 16) (eC (.int 0)))) (D2 (e2 leT (e2 E9 (e2 AFJ (A1 12) (eC (.int 2))) (e2 AFJ (A1 13) (eC (.int 2)))) (A1 14))) B9)
  (B2 (sIf (bV (e2 geT (A1 16) (A1 15))) (D2 (e2 leT (e2 E9 (e2 AFJ (e2 U8 (A1 12) (A1 10)) (eC (.int 2))) (e2 AFJ (e2 U8 (A1 13) (A1 11)) (eC (.int 2)))) (A1 14))) B9)
  (D2 (e2 leT (e2 AFJ (e2 U8 (e2 C7 (A1 12) (A1 11)) (e2 C7 (A1 13) (A1 10))) (eC (.int 2))) (e2 C7 (A1 14) (A1 15))))))))))))
noncomputable def N2:List T→R T:=fun ts=>clR (Tr.run 17 U1 ts)
noncomputable def Z5:FS:=(B2 (sIf (bOr (bV (e2 isT (A1 1) (eC .none))) (bV (e2 eqT (e2 ixT (A1 0) (A1 1)) (eC J0)))) (D2 (eC (.int 0))) B9)
  (D2 (e2 ixT (e2 ixT (A1 0) (A1 1)) (eC (.int 3)))))
noncomputable def x5:List T→R T:=fun ts=>clR (Tr.run 2 Z5 ts)
noncomputable def O0:FS:=(D2 (Y3 (eF (A3 1 [] G5) (A0 (A1 0) A2)) (j9 leT leT (A1 1) (A1 0) (A1 2))))
noncomputable def G9:List T→R T:=fun ts=>clR (Tr.run 3 O0 ts)
noncomputable def K3:FS:=(B2 (C0 (Tr.gName 1) (eC (.int 1)))
  (B2 (AGA (iOf L4 (A1 0)) (Tr.gTup [(Tr.gName 2),(Tr.gName 3)]) (C0 (Tr.gName 1) (e2 G7 (e2 C7 (A1 1) (A1 3)) (eF (A3 2 [] B4) (A0 (A1 1) (A0 (A1 3) A2))))))
  (D2 (D4 (A0 (E2 (iOf L4 (A1 0)) [none,none,some 1] (Tr.gTup [(Tr.gName 0),(Tr.gName 1)]) (fun _=>.ok true) (e2 C7 (A1 0) (e2 G7 (A1 2) (A1 1)))) (A0 (A1 1) A2))))))
noncomputable def G4:List T→R T:=fun ts=>clR (Tr.run 4 K3 ts)
noncomputable def J7:FS:=(B2 (AGA (iOf A9 (A1 0)) (Tr.gName 4) (sIf (bV (eF (A3 4 [] N2) (A0 (A1 4) (A0 (A1 1) (A0 (A1 2) (A0 (A1 3) A2)))))) (D2 (eC (.bool true))) B9))
  (D2 (eC (.bool false))))
noncomputable def Q0:List T→R T:=fun ts=>clR (Tr.run 5 J7 ts)
noncomputable def U2:FS:=(D2 (eF (A3 3 [] G9) (A0 (A1 0) (A0 (eC (.int 1)) (A0 (eC W7) A2)))))
noncomputable def U3:List T→R T:=fun ts=>clR (Tr.run 1 U2 ts)
noncomputable def g6:FS:=(D2 (eF (A3 3 [] G9) (A0 (A1 0) (A0 (eC (.int 0)) (A0 (eC AAE) A2)))))
noncomputable def T5:List T→R T:=fun ts=>clR (Tr.run 1 g6 ts)
noncomputable def R7:FS:=(B2 (sIf (bOr (P5 (bV (e1 (AC0 "tuple") (A1 0)))) (bV (e2 neT (eN AA4 (A0 (A1 0) A2)) (eC (.int 2))))) (D2 (eC (.bool false))) B9)
  (B2 (C0 (Tr.gTup [(Tr.gName 1),(Tr.gName 2)]) (A1 0))
  (D2 (Y3 (eF (A3 1 [] D1) (A0 (A1 1) A2)) (eF (A3 1 [] D1) (A0 (A1 2) A2))))))
noncomputable def Z9:List T→R T:=fun ts=>clR (Tr.run 3 R7 ts)
noncomputable def R4:FS:=(D2 (Y3 (eF (A3 1 [] D1) (A0 (A1 0) A2)) (e2 geT (e2 ixT (A1 0) (eC (.int 0))) (eC (.int 0)))))
noncomputable def Q9:List T→R T:=fun ts=>clR (Tr.run 1 R4 ts)
noncomputable def K0:FS:=(B2 (X5 1 (AHA 1 (iOf L4 (A1 0)) (Tr.gTup [(Tr.gName 2),(Tr.gName 3)]) (AHA 1 (iN (AXE true true) (A0 (A1 2) (A0 (e2 AEZ (AGX (A1 2) (some (eC (.int 1))) none) (AGX (A1 2) none (some (eC (.int 1))))) A2))) (Tr.gTup [(Tr.gName 4),(Tr.gName 5)]) (w6 (Q7 1 (C0 (Tr.gTup [(Tr.gName 6),(Tr.gName 7)]) (eF (A3 1 [] G4) (A0 (e2 AEZ (A1 4) (A1 5)) A2)))) (ALO (e2 AEZ (eN AL4 (A0 (A1 6) A2)) (D4 (A0 (A1 7) A2))))))))
  (D2 (A1 1)))
noncomputable def K8:List T→R T:=fun ts=>clR (Tr.run 8 K0 ts)
noncomputable def K4:FS:=(B2 (C0 (Tr.gName 2) (D4 (A0 (e2 ixT (A1 1) (eC (.int 0))) (A0 (e2 C7 (e2 ixT (A1 1) (eC (.int 1))) (eC (.int 2))) A2))))
  (B2 (X5 3 (AHA 3 (iOf L4 (A1 0)) (Tr.gTup [(Tr.gName 4),(Tr.gName 5)]) (w6 (Q7 3 (C0 (Tr.gName 6) (eIf (bOr (bV (A1 5)) (bV (e2 eqT (eN AA4 (A0 (A1 4) A2)) (eC (.int 1))))) (e2 AEZ (AGX (A1 4) (some (eC (.int 1))) none) (AGX (A1 4) none (some (eC (.int 1))))) (AGX (A1 4) (some (eC (.int 1))) none)))) (AHA 3 (iN (AXE true true) (A0 (A1 4) (A0 (A1 6) A2))) (Tr.gTup [(Tr.gName 7),(Tr.gName 8)]) (w6 (Q7 3 (C0 (Tr.gTup [(Tr.gName 9),(Tr.gName 10)]) (eF (A3 1 [] G4) (A0 (e2 AEZ (e2 AEZ (A1 7) (A1 8)) (D4 (A0 (A1 2) A2))) A2)))) (ALO (e2 AEZ (eN AL4 (A0 (A1 9) A2)) (D4 (A0 (A1 10) A2)))))))))
  (D2 (A1 3))))
noncomputable def Q3:List T→R T:=fun ts=>clR (Tr.run 11 K4 ts)
noncomputable def M2:FS:=(sIf (bOr (P5 (bV (eF (A3 3 [] G9) (A0 (A1 0) (A0 (e1 AJO (eC R8)) (A0 (eC R8) A2)))))) (P5 (bV (eF (A3 3 [] G9) (A0 (A1 1) (A0 (e1 AJO (eC R8)) (A0 (eC R8) A2))))))) (ABH "NoSize" (A0 (eC (.str (Str.ofString "a place is told by whole numbers from -999 to 999"))) A2)) B9)
noncomputable def P0:List T→R T:=fun ts=>clR (Tr.run 2 M2 ts)
noncomputable def D7:FS:=(B2 (C0 (Tr.gTup [(Tr.gName 3),(Tr.gName 4)]) (A1 0))
  (B2 (C0 (Tr.gName 5) (e2 E9 (e2 C7 (eC (.int 2)) (A1 1)) (eC (.int 1))))
  (B2 (sIf (bV (e2 eqT (A1 3) (eC (.str (Str.ofString "stroke"))))) (B2 (C0 (Tr.gName 6) (E2 (iOf A9 (A1 4)) [none,some 5] (Tr.gName 0) (bV (eF (A3 3 [] M8) (A0 (A1 0) (A0 (A1 1) (A0 (eC (.int 2)) A2))))) (A1 0)))
  (D2 (E2 (iOf A9 (A1 2)) [none,some 6,some 5] (Tr.gName 0) (bV (eF (A3 4 [] Q0) (A0 (A1 1) (A0 (e2 E9 (e2 C7 (eC (.int 2)) (A1 0)) (eC (.int 1))) (A0 (A1 2) (A0 (eC (.int 2)) A2)))))) (A1 0)))) B9)
  (B2 (C0 (Tr.gName 7) (eF (A3 2 [] U9) (A0 (A1 4) (A0 (D4 (A0 (A1 5) (A0 (eC (.int 2)) A2))) A2))))
  (D2 (eIf (bV (A1 7)) (E2 (iOf A9 (A1 2)) [none,some 3,some 7] (Tr.gName 0) (bV (eF (A3 2 [] AAL) (A0 (A1 1) (A0 (eF (A3 2 [] AE6) (A0 (A1 2) (A0 (D4 (A0 (e2 E9 (e2 C7 (eC (.int 2)) (A1 0)) (eC (.int 1))) (A0 (eC (.int 2)) A2))) A2))) A2)))) (A1 0)) (S7 A2)))))))
noncomputable def J5:List T→R T:=fun ts=>clR (Tr.run 8 D7 ts)
noncomputable def M3:FS:=(B2 (C0 (Tr.gName 2) (e2 ixT (eC (.list [(.int 1),(.int 1),(.int 2),(.int 3),(.int 4)])) (eF (A3 3 [] A4) (A0 (A1 0) (A0 (A1 1) (A0 (eC (.int 5)) A2))))))
  (B2 (u6 3 4 (A0 (eF (A3 3 [] A4) (A0 (A1 0) (A0 (e2 E9 (A1 1) (eC (.int 1))) (A0 (e2 C7 (eC (.int 11)) (A1 2)) A2)))) (A0 (eF (A3 3 [] A4) (A0 (A1 0) (A0 (e2 E9 (A1 1) (eC (.int 2))) (A0 (e2 C7 (eC (.int 11)) (A1 2)) A2)))) A2)))
  (D2 (D4 (A0 (eF (A3 2 [] E3) (A0 (e2 U8 (A1 3) (A1 2)) (A0 (A1 2) A2))) (A0 (eF (A3 2 [] E3) (A0 (e2 U8 (A1 4) (A1 2)) (A0 (A1 2) A2))) A2))))))
noncomputable def O6:List T→R T:=fun ts=>clR (Tr.run 5 M3 ts)
noncomputable def U6:FS:=(B2 (sIf (bOr (P5 (bV (e1 (AC0 "tuple") (A1 0)))) (bV (e2 neT (eN AA4 (A0 (A1 0) A2)) (eC (.int 2))))) (D2 (eC (.bool false))) B9)
  (B2 (C0 (Tr.gTup [(Tr.gName 1),(Tr.gName 2)]) (A1 0))
  (B2 (sIf (bOr (P5 (bV (e1 (AC0 "tuple") (A1 1)))) (bOr (P5 (bV (A1 1))) (P5 (bV (e1 (AC0 "bool") (A1 2)))))) (D2 (eC (.bool false))) B9)
  (D2 (eN AQF (A0 (E2 (iOf L4 (A1 1)) [none] (Tr.gName 0) (fun _=>.ok true) (eF (A3 1 [] Z9) (A0 (A1 0) A2))) A2))))))
noncomputable def y9:List T→R T:=fun ts=>clR (Tr.run 3 U6 ts)
noncomputable def M0:FS:=(sIf (bOr (P5 (bV (eF (A3 1 [] U3) (A0 (A1 0) A2)))) (P5 (bV (eF (A3 1 [] U3) (A0 (A1 1) A2))))) (ABH "NoSize" (A0 (eC (.str (Str.ofString "a page has from 1 to 64 cells either way"))) A2)) B9)
noncomputable def P1:List T→R T:=fun ts=>clR (Tr.run 2 M0 ts)
noncomputable def C9:FS:=(B2 (sIf (bV (e2 eqT (A1 0) (eC J0))) (D2 (S7 A2)) B9)
  (B2 (C0 (Tr.gTup [(Tr.gName 1),(Tr.gName 2),(Tr.gName 3),(Tr.gName 4),(Tr.gName 5)]) (A1 0))
  (B2 (C0 (Tr.gName 6) (eIf (bV (e2 eqT (A1 1) (eC (.str (Str.ofString "fill"))))) (D4 (A0 (A1 3) (A0 (eF (A3 1 [] K8) (A0 (A1 2) A2)) A2))) (D4 (A0 (A1 1) (A0 (eF (A3 2 [] Q3) (A0 (A1 2) (A0 (A1 3) A2))) A2)))))
  (D2 (e2 E9 (S7 (A0 (A1 6) A2)) (E2 (iOf L4 (A1 5)) [none,none] (Tr.gTup [(Tr.gName 0),(Tr.gName 1)]) (fun _=>.ok true) (D4 (A0 (A1 1) (A0 (eF (A3 1 [] K8) (A0 (A1 0) A2)) A2)))))))))
noncomputable def V6:List T→R T:=fun ts=>clR (Tr.run 7 C9 ts)
noncomputable def D5:FS:=(B2 (AGA (iOf A9 (A1 0)) (Tr.gName 3) (B2 (sIf (P5 (bV (A1 2))) AbO B9)
  (C0 (Tr.gName 2) (eF (A3 3 [] J5) (A0 (A1 3) (A0 (A1 1) (A0 (A1 2) A2)))))))
  (D2 (A1 2)))
noncomputable def D6:List T→R T:=fun ts=>clR (Tr.run 4 D5 ts)
noncomputable def N5:FS:=(B2 (C0 (Tr.gName 2) (e2 E9 (eC (.int 1)) (eF (A3 3 [] A4) (A0 (A1 0) (A0 (A1 1) (A0 (eC (.int 5)) A2))))))
  (B2 (C0 (Tr.gName 3) (eN AL4 (A0 (E2 (iN AKS (A0 (A1 2) A2)) [none,some 0,some 1] (Tr.gName 0) (fun _=>.ok true) (eF (A3 2 [] O6) (A0 (A1 1) (A0 (e2 E9 (e2 E9 (A1 2) (eC (.int 2))) (e2 C7 (eC (.int 3)) (A1 0))) A2)))) A2)))
  (D2 (D4 (A0 (A1 3) (A0 (e2 eqT (eF (A3 3 [] A4) (A0 (A1 0) (A0 (e2 E9 (A1 1) (eC (.int 1))) (A0 (eC (.int 2)) A2)))) (eC (.int 0))) A2))))))
noncomputable def S6:List T→R T:=fun ts=>clR (Tr.run 4 N5 ts)
noncomputable def U0:FS:=(D2 (Y3 (e1 (AC0 "tuple") (A1 0)) (eN AQF (A0 (E2 (iOf L4 (A1 0)) [none] (Tr.gName 0) (fun _=>.ok true) (eF (A3 1 [] y9) (A0 (A1 0) A2))) A2))))
noncomputable def N0:List T→R T:=fun ts=>clR (Tr.run 1 U0 ts)
noncomputable def M9:FS:=(B2 (t5 4 (AeL (eC .none) (A1 3)) (w6 (Q7 4 (C0 (Tr.gName 5) (eN lr2 (A0 (A1 2) (A0 (e2 E9 (A1 2) (A1 3)) A2))))) (AHA 4 (iN Ab7 (A0 (eN AA4 (A0 (A1 0) A2)) A2)) (Tr.gName 6) (w6 (AHA 4 (iOf A9 (eF (A3 3 [] D6) (A0 (e2 ixT (A1 0) (A1 6)) (A0 (A1 1) (A0 (A1 5) A2))))) (Tr.gName 7) (AbT (e2 U8 (A1 7) (A1 2)) (A1 6))) (AKG 4 5 (E2 (iOf A9 (A1 5)) [none,some 4,some 2] (Tr.gName 0) (bV (e2 isT (e2 ixT (A1 1) (e2 U8 (A1 0) (A1 2))) (eC .none))) (A1 0)))))))
  (D2 (A1 4)))
noncomputable def T3:List T→R T:=fun ts=>clR (Tr.run 8 M9 ts)
noncomputable def O2:FS:=(D2 (eN AL4 (A0 (E2 (iN AKS (A0 (eF (A3 3 [] A4) (A0 (A1 0) (A0 (A1 1) (A0 (eC (.int 4)) A2)))) A2)) [none,some 0,some 1] (Tr.gName 0) (fun _=>.ok true) (eF (A3 2 [] S6) (A0 (A1 1) (A0 (e2 E9 (e2 E9 (A1 2) (eC (.int 1))) (e2 C7 (eC (.int 18)) (A1 0))) A2)))) A2)))
noncomputable def L8:List T→R T:=fun ts=>clR (Tr.run 2 O2 ts)
noncomputable def U4:FS:=(B2 (sIf (bOr (P5 (bV (e1 (AC0 "tuple") (A1 0)))) (bV (e2 neT (eN AA4 (A0 (A1 0) A2)) (eC (.int 2))))) (D2 (eC (.bool false))) B9)
  (B2 (C0 (Tr.gTup [(Tr.gName 1),(Tr.gName 2)]) (A1 0))
  (D2 (Y3 (eF (A3 1 [] N0) (A0 (A1 1) A2)) (eF (A3 1 [] L0) (A0 (A1 2) A2))))))
noncomputable def U7:List T→R T:=fun ts=>clR (Tr.run 3 U4 ts)
noncomputable def Z6:FS:=(B2 (C0 (Tr.gName 5) (E2 (iOf A9 (A1 0)) [none] (Tr.gName 0) (fun _=>.ok true) (eF (A3 1 [] V6) (A0 (A1 0) A2))))
  (D2 (E2 (iN AbV (A0 (A1 4) (A0 (e2 E9 (A1 4) (A1 2)) A2))) [none,some 5,some 3,some 1] (Tr.gName 0) (fun _=>.ok true) (eF (A3 4 [] T3) (A0 (A1 1) (A0 (A1 0) (A0 (A1 2) (A0 (A1 3) A2))))))))
noncomputable def V3:List T→R T:=fun ts=>clR (Tr.run 6 Z6 ts)
noncomputable def C8:FS:=(B2 (sIf (bV (e2 eqT (eF (A3 3 [] A4) (A0 (A1 0) (A0 (A1 1) (A0 (eC (.int 12)) A2)))) (eC (.int 0)))) (D2 (eC (.tuple [(.str (Str.ofString "erase"))]))) B9)
  (B2 (X5 2 (AHA 2 (iN AKS (A0 (eN AWS (A0 (eC (.int 0)) (A0 (e2 U8 (eF (A3 3 [] A4) (A0 (A1 0) (A0 (e2 E9 (A1 1) (eC (.int 1))) (A0 (eC (.int 4)) A2)))) (eC (.int 1))) A2))) A2)) (Tr.gName 3) (w6 (Q7 2 (C0 (Tr.gName 4) (e2 ixT (eC (.list [(.str (Str.ofString "whole")),(.str (Str.ofString "odd"))])) (eF (A3 3 [] A4) (A0 (A1 0) (A0 (e2 E9 (e2 E9 (A1 1) (eC (.int 2))) (A1 3)) (A0 (eC (.int 2)) A2))))))) (ALO (D4 (A0 (eF (A3 2 [] L8) (A0 (A1 0) (A0 (e2 E9 (e2 E9 (A1 1) (eC (.int 70))) (e2 C7 (eC (.int 60)) (A1 3))) A2))) (A0 (A1 4) A2)))))))
  (B2 (C0 (Tr.gName 5) (eF (A3 3 [] A4) (A0 (A1 0) (A0 (e2 E9 (A1 1) (eC (.int 5))) (A0 (eC (.int 16)) A2)))))
  (B2 (sIf (bV (e2 eqT (eF (A3 3 [] A4) (A0 (A1 0) (A0 (e2 E9 (A1 1) (eC (.int 6))) (A0 (eC (.int 3)) A2)))) (eC (.int 0)))) (B2 (C0 (Tr.gName 6) (eF (A3 2 [] E3) (A0 (eF (A3 3 [] A4) (A0 (A1 0) (A0 (e2 E9 (A1 1) (eC (.int 7))) (A0 (eC (.int 9)) A2)))) (A0 (e2 E9 (eC (.int 1)) (eF (A3 3 [] A4) (A0 (A1 0) (A0 (e2 E9 (A1 1) (eC (.int 8))) (A0 (eC (.int 3)) A2))))) A2))))
  (D2 (D4 (A0 (eC (.str (Str.ofString "stroke"))) (A0 (eF (A3 2 [] L8) (A0 (A1 0) (A0 (e2 E9 (A1 1) (eC (.int 9))) A2))) (A0 (A1 6) (A0 (A1 5) (A0 (eN AL4 (A0 (ALK (A1 2) none (some (eC (.int 1)))) A2)) A2)))))))) B9)
  (B2 (C0 (Tr.gName 4) (e2 ixT (eC (.list [(.str (Str.ofString "whole")),(.str (Str.ofString "odd"))])) (eF (A3 3 [] A4) (A0 (A1 0) (A0 (e2 E9 (A1 1) (eC (.int 7))) (A0 (eC (.int 2)) A2))))))
  (D2 (D4 (A0 (eC (.str (Str.ofString "fill"))) (A0 (eF (A3 2 [] L8) (A0 (A1 0) (A0 (e2 E9 (A1 1) (eC (.int 9))) A2))) (A0 (A1 4) (A0 (A1 5) (A0 (eN AL4 (A0 (A1 2) A2)) A2))))))))))))
noncomputable def S3:List T→R T:=fun ts=>clR (Tr.run 7 C8 ts)
noncomputable def T9:FS:=(B2 (sIf (bV (e2 eqT (A1 0) (eC J0))) (D2 (eC (.bool true))) B9)
  (B2 (sIf (bOr (P5 (bV (e1 (AC0 "tuple") (A1 0)))) (bV (e2 neT (eN AA4 (A0 (A1 0) A2)) (eC (.int 5))))) (D2 (eC (.bool false))) B9)
  (B2 (C0 (Tr.gTup [(Tr.gName 1),(Tr.gName 2),(Tr.gName 3),(Tr.gName 4),(Tr.gName 5)]) (A1 0))
  (B2 (sIf (bV (e2 eqT (A1 1) (eC (.str (Str.ofString "fill"))))) (C0 (Tr.gName 6) (eF (A3 1 [] L0) (A0 (A1 3) A2))) (C0 (Tr.gName 6) (Y3 (e2 eqT (A1 1) (eC (.str (Str.ofString "stroke")))) (eF (A3 1 [] Q9) (A0 (A1 3) A2)))))
  (B2 (sIf (bOr (P5 (bV (A1 6))) (bOr (P5 (bV (eF (A3 1 [] N0) (A0 (A1 2) A2)))) (bOr (P5 (bV (eF (A3 1 [] T5) (A0 (A1 4) A2)))) (P5 (bV (e1 (AC0 "tuple") (A1 5))))))) (D2 (eC (.bool false))) B9)
  (D2 (eN AQF (A0 (E2 (iOf L4 (A1 5)) [none] (Tr.gName 0) (fun _=>.ok true) (eF (A3 1 [] U7) (A0 (A1 0) A2))) A2))))))))
noncomputable def O5:List T→R T:=fun ts=>clR (Tr.run 7 T9 ts)
noncomputable def M7:FS:=(D2 (E2 (iN AKS (A0 (A1 2) A2)) [none,some 0,some 1] (Tr.gName 0) (fun _=>.ok true) (eF (A3 2 [] S3) (A0 (A1 1) (A0 (e2 E9 (A1 2) (e2 C7 (eC (.int 200)) (A1 0))) A2)))))
noncomputable def T4:List T→R T:=fun ts=>clR (Tr.run 3 M7 ts)
noncomputable def M1:FS:=(sIf (bOr (P5 (bV (e1 (AC0 "list") (A1 0)))) (P5 (bV (eN AQF (A0 (E2 (iOf A9 (A1 0)) [none] (Tr.gName 0) (fun _=>.ok true) (eF (A3 1 [] O5) (A0 (A1 0) A2))) A2))))) (ABH "NoDeeds" (A0 (eC (.str (Str.ofString "this is no list of deeds of ink"))) A2)) B9)
noncomputable def M6:List T→R T:=fun ts=>clR (Tr.run 1 M1 ts)
noncomputable def U5:FS:=(B2 (ACX (eF (A3 1 [] M6) (A0 (A1 0) A2)))
  (B2 (ACX (eF (A3 2 [] P1) (A0 (A1 1) (A0 (A1 2) A2))))
  (B2 (ACX (eF (A3 2 [] P0) (A0 (A1 3) (A0 (A1 4) A2))))
  (B2 (C0 (Tr.gName 5) (eF (A3 5 [] V3) (A0 (A1 0) (A0 (A1 1) (A0 (A1 2) (A0 (A1 3) (A0 (A1 4) A2)))))))
  (D2 (eN AL4 (A0 (E2 (iOf A9 (A1 5)) [none,some 0] (Tr.gName 0) (fun _=>.ok true) (eN AL4 (A0 (E2 (iOf A9 (A1 0)) [none,some 1] (Tr.gName 0) (fun _=>.ok true) (eF (A3 2 [] x5) (A0 (A1 1) (A0 (A1 0) A2)))) A2))) A2)))))))
noncomputable def S2:List T→R T:=fun ts=>clR (Tr.run 6 U5 ts)
noncomputable def N6:FS:=(B2 (ACX (eF (A3 1 [] M6) (A0 (A1 0) A2)))
  (B2 (ACX (eF (A3 2 [] P0) (A0 (A1 1) (A0 (A1 2) A2))))
  (D2 (e2 ixT (e2 ixT (eF (A3 5 [] V3) (A0 (A1 0) (A0 (eC (.int 1)) (A0 (eC (.int 1)) (A0 (A1 1) (A0 (A1 2) A2)))))) (eC (.int 0))) (eC (.int 0))))))
noncomputable def S0:List T→R T:=fun ts=>clR (Tr.run 3 N6 ts)
noncomputable def g9:FS:=(B2 (ACX (eF (A3 1 [] M6) (A0 (A1 0) A2)))
  (B2 (ACX (eF (A3 2 [] P1) (A0 (A1 1) (A0 (A1 2) A2))))
  (B2 (C0 (Tr.gName 3) (AIH (iOf A9 (eF (A3 5 [] V3) (A0 (A1 0) (A0 (A1 1) (A0 (A1 2) (A0 (eC (.int 0)) (A0 (eC (.int 0)) A2))))))) [none,none] (Tr.gName 0) (fun _=>.ok true) (iOf A9 (A1 0)) 1 (fun _=>.ok true) (A1 1)))
  (D2 (E2 (iN AKS (A0 (eN AA4 (A0 (A1 0) A2)) A2)) [none,some 3] (Tr.gName 0) (bV (e2 AFD (A1 0) (A1 1))) (A1 0))))))
noncomputable def K7:List T→R T:=fun ts=>clR (Tr.run 4 g9 ts)
noncomputable def AKU:FS:=(B2 (C0 (Tr.gName 1) (eF (A3 3 [] T4) (A0 (A1 0) (A0 (eC (.int 0)) (A0 (e2 E9 (eC (.int 2)) (eF (A3 3 [] A4) (A0 (A1 0) (A0 (eC (.int 900)) (A0 (eC (.int 3)) A2))))) A2)))))
  (B2 (sIf (bV (e2 eqT (eF (A3 3 [] A4) (A0 (A1 0) (A0 (eC (.int 903)) (A0 (eC (.int 2)) A2)))) (eC (.int 0)))) (B2 (C0 (Tr.gName 2) (eC (.tuple [(.tuple [(.tuple [(.int 0),(.int 1)]),(.tuple [(.int 0),(.int 1)])]),(.tuple [(.tuple [(.int 9),(.int 1)]),(.tuple [(.int 0),(.int 1)])]),(.tuple [(.tuple [(.int 9),(.int 1)]),(.tuple [(.int 9),(.int 1)])]),(.tuple [(.tuple [(.int 0),(.int 1)]),(.tuple [(.int 9),(.int 1)])])])))
  (C0 (Tr.gName 1) (e2 E9 (e2 E9 (ALK (A1 1) none (some (eC (.int 2)))) (S7 (A0 (D4 (A0 (eC (.str (Str.ofString "fill"))) (A0 (D4 (A0 (D4 (A0 (A1 2) (A0 (eC (.bool true)) A2))) A2)) (A0 (eC (.str (Str.ofString "odd"))) (A0 (eF (A3 3 [] A4) (A0 (A1 0) (A0 (eC (.int 904)) (A0 (eC (.int 16)) A2)))) (A0 (D4 A2) A2)))))) A2))) (ALK (A1 1) (some (eC (.int 2))) none)))) B9)
  (B2 (u6 3 4 (A0 (e2 E9 (eC (.int 2)) (eF (A3 3 [] A4) (A0 (A1 0) (A0 (eC (.int 901)) (A0 (eC (.int 6)) A2))))) (A0 (e2 E9 (eC (.int 2)) (eF (A3 3 [] A4) (A0 (A1 0) (A0 (eC (.int 902)) (A0 (eC (.int 5)) A2))))) A2)))
  (B2 (C0 (Tr.gName 5) (eF (A3 3 [] K7) (A0 (A1 1) (A0 (A1 3) (A0 (A1 4) A2)))))
  (B2 (sIf (bOr (bV (e2 neT (A1 5) (eN AdC (A0 (A1 5) A2)))) (bV (e2 neT (E2 (iOf A9 (A1 5)) [none,some 1] (Tr.gName 0) (bNR (A1 0) (A0 (eN AA4 (A0 (A1 1) A2)) A2)) (A1 0)) (S7 A2)))) (D2 (eC (.bool false))) B9)
  (B2 (C0 (Tr.gName 6) (S7 A2))
  (B2 (AGA (iN AKS (A0 (A1 4) A2)) (Tr.gName 7) (C0 (Tr.gName 6) (e2 E9 (A1 6) (E2 (iN AKS (A0 (A1 3) A2)) [none,some 1,some 7] (Tr.gName 0) (fun _=>.ok true) (eF (A3 3 [] S0) (A0 (A1 1) (A0 (A1 0) (A0 (A1 2) A2))))))))
  (B2 (sIf (bV (e2 neT (E2 (iN AKS (A0 (eN AA4 (A0 (A1 1) A2)) A2)) [none,some 6,some 5] (Tr.gName 0) (bV (e2 eqT (e2 APM (A1 0) (A1 1)) (e2 APM (A1 0) (A1 2)))) (A1 0)) (S7 A2))) (D2 (eC (.bool false))) B9)
  (B2 (C0 (Tr.gName 8) (E2 (iN AWC (A0 (A1 1) A2)) [none,none,some 5] (Tr.gTup [(Tr.gName 0),(Tr.gName 1)]) (bV (e2 R9 (A1 0) (A1 2))) (A1 1)))
  (B2 (sIf (bOr (bV (e2 neT (eF (A3 5 [(.int 0),(.int 0)] S2) (A0 (A1 8) (A0 (A1 3) (A0 (A1 4) A2)))) (eF (A3 5 [(.int 0),(.int 0)] S2) (A0 (A1 1) (A0 (A1 3) (A0 (A1 4) A2)))))) (bV (e2 neT (eF (A3 3 [] K7) (A0 (A1 8) (A0 (A1 3) (A0 (A1 4) A2)))) (S7 A2)))) (D2 (eC (.bool false))) B9)
  (B2 (sIf (bV (e2 neT (E2 (iOf A9 (eF (A3 3 [] K7) (A0 (A1 1) (A0 (e2 E9 (A1 3) (eC (.int 2))) (A0 (e2 E9 (A1 4) (eC (.int 1))) A2))))) [none,some 5] (Tr.gName 0) (bV (e2 R9 (A1 0) (A1 1))) (A1 0)) (S7 A2))) (D2 (eC (.bool false))) B9)
  (B2 (sIf (bV (e2 neT (eF (A3 3 [] K7) (A0 (S7 A2) (A0 (A1 3) (A0 (A1 4) A2)))) (S7 A2))) (D2 (eC (.bool false))) B9)
  (D2 (e2 eqT (ALK (eF (A3 3 [] K7) (A0 (e2 E9 (A1 1) (A1 1)) (A0 (A1 3) (A0 (A1 4) A2)))) none (some (eN AA4 (A0 (A1 1) A2)))) (eN lr1 (A0 (eN AA4 (A0 (A1 1) A2)) A2))))))))))))))))
noncomputable def AMU:List T→R T:=fun ts=>clR (Tr.run 9 AKU ts)
end Kw
end
section
namespace Kw
open PySem hiding start
open PyProof.Rows hiding St
open L2 PySem.Spec Tr PySem.NumText
abbrev P2:=Rat × Rat
def PT (p:P2):T:=.tuple [RT p.1,RT p.2]
def PaT (q:List P2 × Bool):T:=.tuple [.tuple (q.1.map PT),.bool q.2]
def PhT (ps:List (List P2 × Bool)):T:=.tuple (ps.map PaT)
def A12 (p:P2):Prop:=At p.1 12 120∧At p.2 12 120
theorem AW5 {r:Rat} (h:At r 12 120):Sm r:=AeB h (by decide) (by rw[AD0];omega) (by rw[AD0];omega)
theorem ATL (r:Rat):Sh 1 (RT r):=L3 fun t ht=>by
 rcases List.mem_cons.mp ht with rfl | ht
 ·exact AAM _ _
 ·rw[List.mem_singleton.mp ht];exact AAM _ _
theorem AcU (p:P2):Sh 2 (PT p):=L3 fun t ht=>by
 rcases List.mem_cons.mp ht with rfl | ht
 ·exact ATL _
 ·rw[List.mem_singleton.mp ht];exact ATL _
theorem AYP (q:List P2 × Bool):Sh 4 (PaT q):=L3 fun t ht=>by
 rcases List.mem_cons.mp ht with rfl | ht
 ·exact L3 fun u hu=>by
   obtain ⟨p,_,rfl⟩:=List.mem_map.mp hu
   exact AcU p
 ·rw[List.mem_singleton.mp ht];exact AW2 _ _
theorem ANL (ps:List (List P2 × Bool)):Sh 5 (PhT ps):=L3 fun u hu=>by
 obtain ⟨p,_,rfl⟩:=List.mem_map.mp hu
 exact AYP p
theorem ALN {p:P2} (hx:Sm p.1) (hy:Sm p.2):Z9 [PT p]=.ok (.bool true):=by
 have e:R7 [some (PT p),none,none]=.rt (.bool true):=by
  unfold R7
  rw[G6 (APO (W4 (k:=true) (h_b (h_1 (x:=PT p) rfl rfl))) (h_b (h_2 (AB6 (x:=PT p) (z:=.int 2) rfl rfl) h_c rfl)))]
  rw[AAZ (v:=PT p) (ρ':=[some (PT p),some (RT p.1),some (RT p.2)]) rfl rfl]
  exact E6 (ADI (ACR (x:=RT p.1) rfl (AEB hx)) (ACR (x:=RT p.2) rfl (AEB hy)))
 show clR (Tr.run 3 R7 [PT p])=_
 rw[E4 (ρ:=[some (PT p),none,none]) rfl e]
 rfl
theorem ANT {q:List P2 × Bool} (h0:q.1≠[]) (hl:q.1.length≤1000) (h:∀p∈q.1,A12 p):y9 [PaT q]=.ok (.bool true):=by
 obtain ⟨pts,b⟩:=q
 have tr:N9 (.tuple (pts.map PT))=some true:=by
  cases pts with
  | nil=>exact absurd rfl h0
  | cons a r=>rfl
 have bv:bV (A1 1) [some (PaT (pts,b)),some (.tuple (pts.map PT)),some (.bool b)]=.ok true:=by
  show R.of (N9 (.tuple (pts.map PT)))=_
  rw[tr];rfl
 have e:U6 [some (PaT (pts,b)),none,none]=.rt (.bool true):=by
  unfold U6
  rw[G6 (APO (W4 (k:=true) (h_b (h_1 (x:=PaT (pts,b)) rfl rfl))) (h_b (h_2 (AB6 (x:=PaT (pts,b)) (z:=.int 2) rfl rfl) h_c rfl)))]
  rw[AAZ (v:=PaT (pts,b)) (ρ':=[some (PaT (pts,b)),some (.tuple (pts.map PT)),some (.bool b)]) rfl rfl]
  rw[G6 (APO (W4 (k:=true) (h_b (h_1 (x:=.tuple (pts.map PT)) rfl rfl))) (APO (W4 (k:=true) bv) (W4 (k:=true) (h_b (h_1 (x:=.bool b) rfl rfl)))))]
  refine E6 (ADX (ts:=pts.map PT) (fun t ht=>?_) (by rw[List.length_map];exact Nat.le_trans hl (by decide)) (j8 rfl))
  obtain ⟨p,hp,rfl⟩:=List.mem_map.mp ht
  exact ALN (AW5 (h p hp).1) (AW5 (h p hp).2)
 show clR (Tr.run 3 U6 [PaT (pts,b)])=_
 rw[E4 (ρ:=[some (PaT (pts,b)),none,none]) rfl e]
 rfl
structure Good (ps:List (List P2 × Bool)):Prop where
 few:ps.length≤3
 some:∀q∈ps,q.1≠[]
 short:∀q∈ps,q.1.length≤5
 pts:∀q∈ps,∀p∈q.1,A12 p
theorem ACH {ps:List (List P2 × Bool)} (h:Good ps):N0 [PhT ps]=.ok (.bool true):=by
 have e:U0 [some (PhT ps)]=.rt (.bool true):=by
  unfold U0
  refine E6 (ADI (h_1 (x:=PhT ps) rfl rfl) (ADX (ts:=ps.map PaT) (fun t ht=>?_) (by rw[List.length_map];have:=h.few;omega) (j8 rfl)))
  obtain ⟨q,hq,rfl⟩:=List.mem_map.mp ht
  exact ANT (h.some q hq) (by have:=h.short q hq;omega) (h.pts q hq)
 show clR (Tr.run 1 U0 [PhT ps])=_
 rw[E4 (ρ:=[some (PhT ps)]) rfl e]
 rfl
theorem Ac7 {d:Int} (h0:0≤d) (h1:d<5):∃b c:Int,ixT (.list [(.int 1),(.int 1),(.int 2),(.int 3),(.int 4)]) (.int d)=some (.int b)∧b*c=12∧0<b∧b≤4∧0<c∧c≤12:=by
 have:d=0∨d=1∨d=2∨d=3∨d=4:=by omega
 rcases this with rfl | rfl | rfl | rfl | rfl
 ·exact ⟨1,12,rfl,by decide,by decide,by decide,by decide,by decide⟩
 ·exact ⟨1,12,rfl,by decide,by decide,by decide,by decide,by decide⟩
 ·exact ⟨2,6,rfl,by decide,by decide,by decide,by decide,by decide⟩
 ·exact ⟨3,4,rfl,by decide,by decide,by decide,by decide,by decide⟩
 ·exact ⟨4,3,rfl,by decide,by decide,by decide,by decide,by decide⟩
theorem AZ7 {t b c:Int} (hb:0<b) (h:b*c=12) (hc:0<c) (h1:-b≤t) (h2:t<10*b):At (Rat.divInt t b) 12 120:=by
 refine ⟨t*c,?_,?_⟩
 ·rw[Rat.divInt_eq_div,←h,Rat.intCast_mul,Rat.intCast_mul]
  have:=AJ9 (show b≠0 by omega)
  grind
 ·have k1:t*c≤10*b*c:=Int.mul_le_mul_of_nonneg_right (by omega) (by omega)
  have k2:-b*c≤t*c:=Int.mul_le_mul_of_nonneg_right h1 (by omega)
  have k3:10*b*c=120:=by rw[Int.mul_assoc,h];rfl
  have k4:-b*c=-12:=by rw[Int.neg_mul,h]
  omega
theorem AKT {ns:List Int} (hl:ns.length≤63) {k:Int} (hk:0≤k):∃p:P2,O6 [.list (ns.map PyData.int),.int k]=.ok (PT p)∧A12 p:=by
 obtain ⟨d1,e1,a1,b1⟩:=D0 ns k 5 hk (by decide) hl
 obtain ⟨b,c,hb,hbc,b0,b4,c0,c12⟩:=Ac7 a1 b1
 obtain ⟨d2,e2',a2,b2⟩:=D0 ns (k+1) (11*b) (by omega) (by omega) hl
 obtain ⟨d3,e3,a3,b3⟩:=D0 ns (k+2) (11*b) (by omega) (by omega) hl
 generalize hL:PyData.list (ns.map PyData.int)=L at e1 e2' e3 ⊢
 have lg:b.natAbs.log2<9000:=(Nat.log2_lt (by omega)).mpr (Nat.lt_of_lt_of_le (show b.natAbs<2 ^ 10 by omega) (Nat.pow_le_pow_right (by decide) (by decide)))
 have m1:E3 [.int (d2-b),.int b]=.ok (RT (Rat.divInt (d2-b) b)):=AHJ (by omega) lg rfl
 have m2:E3 [.int (d3-b),.int b]=.ok (RT (Rat.divInt (d3-b) b)):=AHJ (by omega) lg rfl
 have mb:C7 (.int 11) (.int b)=some (.int (11*b)):=AD4 (by decide) (by omega)
 refine ⟨(Rat.divInt (d2-b) b,Rat.divInt (d3-b) b),?_,AZ7 b0 hbc c0 (by omega) (by omega),AZ7 b0 hbc c0 (by omega) (by omega)⟩
 have e0:M3 [some L,some (.int k),none,none,none]=.rt (PT (Rat.divInt (d2-b) b,Rat.divInt (d3-b) b)):=by
  unfold M3
  rw[O1 (v:=.int b) (ρ':=[some L,some (.int k),some (.int b),none,none]) (h_2 h_c (W3 (x:=L) (y:=.int k) rfl rfl h_c e1) hb) rfl]
  rw[AQ9 (x:=.int d2) (y:=.int d3) (ρ':=[some L,some (.int k),some (.int b),some (.int d2),some (.int d3)]) (W3 (x:=L) rfl (h_2 (x:=.int k) rfl h_c (G8 k 1)) (h_2 h_c (y:=.int b) rfl mb) e2') (W3 (x:=L) rfl (h_2 (x:=.int k) rfl h_c (G8 k 2)) (h_2 h_c (y:=.int b) rfl mb) e3) rfl]
  exact E6 (ALP (AE3 (h_2 (x:=.int d2) (y:=.int b) rfl rfl (v6 d2 b)) (y:=.int b) rfl m1) (AE3 (h_2 (x:=.int d3) (y:=.int b) rfl rfl (v6 d3 b)) (y:=.int b) rfl m2))
 show clR (Tr.run 5 M3 [L,.int k])=_
 rw[E4 (ρ:=[some L,some (.int k),none,none,none]) rfl e0]
 rfl
theorem AE0 {α:Type} {P:α→Prop} {i:α→T} {te:FE} {ρ:Ev}:∀ks:List Int,(∀k∈ks,∃a,te (ρ.set 0 (some (.int k)))=.ok (i a)∧P a) →
  ∃as:List α,as.length=ks.length∧C4 (Tr.gName 0) (fun _=>.ok true) te ρ (ks.map PyData.int)=.ok (as.map i)∧∀a∈as,P a
 | [],_=>⟨[],rfl,rfl,fun r hr=>(List.not_mem_nil hr).elim⟩
 | k::ks,h=>by
  obtain ⟨r,h1,h2⟩:=h k List.mem_cons_self
  obtain ⟨rs,g1,g2,g3⟩:=AE0 ks fun j hj=>h j (List.mem_cons_of_mem _ hj)
  refine ⟨r::rs,by rw[List.length_cons,List.length_cons,g1],?_,fun x hx=>?_⟩
  ·rw[List.map_cons,C4]
   have g:Tr.gName 0 (.int k) ρ=some (ρ.set 0 (some (.int k))):=rfl
   simp only[g,h1,g2]
   rfl
  ·rcases List.mem_cons.mp hx with rfl | hx
   ·exact h2
   ·exact g3 x hx
theorem ANR {ns:List Int} (hl:ns.length≤63) {k:Int} (hk:0≤k):∃q:List P2 × Bool,S6 [.list (ns.map PyData.int),.int k]=.ok (PaT q)∧q.1≠[]∧q.1.length≤5∧∀p∈q.1,A12 p:=by
 obtain ⟨d1,e1,a1,b1⟩:=D0 ns k 5 hk (by decide) hl
 obtain ⟨d2,e2',a2,b2⟩:=D0 ns (k+1) 2 (by omega) (by decide) hl
 have pts:=fun (j:Int) (hj:0≤j)=>AKT (ns:=ns) (k:=k+2+3*j) hl (by omega)
 generalize hL:PyData.list (ns.map PyData.int)=L at e1 e2' pts ⊢
 obtain ⟨ts,g1,g2,g3⟩:=AE0 (P:=A12) (i:=PT) (te:=(eF (A3 2 [] O6) (A0 (A1 1) (A0 (e2 E9 (e2 E9 (A1 2) (eC (.int 2))) (e2 C7 (eC (.int 3)) (A1 0))) A2)))) (ρ:=[none,some L,some (.int k)]) ((List.range (1+d1).toNat).map fun (i:Nat)=>(i:Int)) (fun j hj=>by
  obtain ⟨j0,j1⟩:=AE1 hj
  obtain ⟨t,h1,h2⟩:=pts j j0
  exact ⟨t,AE3 (x:=L) rfl (h_2 (h_2 (x:=.int k) rfl h_c (G8 k 2)) (h_2 h_c (y:=.int j) rfl (AD4 (by decide) (by omega))) (G8 (k+2) (3*j))) h1,h2⟩)
 rw[List.length_map,List.length_range]at g1
 have hne:ts≠[]:=fun z=>by rw[z]at g1;simp at g1;omega
 refine ⟨(ts,d2 == 0),?_,hne,by show ts.length≤5;omega,g3⟩
 have e0:N5 [some L,some (.int k),none,none]=.rt (PaT (ts,d2 == 0)):=by
  unfold N5
  rw[O1 (v:=.int (1+d1)) (ρ':=[some L,some (.int k),some (.int (1+d1)),none]) (h_2 h_c (W3 (x:=L) (y:=.int k) rfl rfl h_c e1) (G8 1 d1)) rfl]
  rw[O1 (v:=.tuple (ts.map PT)) (ρ':=[some L,some (.int k),some (.int (1+d1)),some (.tuple (ts.map PT))]) (AB6 (J1 (AFZ (n:=1+d1) rfl (by omega) (by omega)) (by rw[List.length_map,List.length_map,List.length_range];omega) g2) rfl) rfl]
  exact E6 (ALP (x:=.tuple (ts.map PT)) rfl (h_2 (W3 (x:=L) rfl (h_2 (x:=.int k) rfl h_c (G8 k 1)) h_c e2') h_c (Y7 d2 0)))
 show clR (Tr.run 4 N5 [L,.int k])=_
 rw[E4 (ρ:=[some L,some (.int k),none,none]) rfl e0]
 rfl
theorem AF7 {ns:List Int} (hl:ns.length≤63) {k:Int} (hk:0≤k):∃ps,L8 [.list (ns.map PyData.int),.int k]=.ok (PhT ps)∧Good ps:=by
 obtain ⟨d1,e1,a1,b1⟩:=D0 ns k 4 hk (by decide) hl
 have pts:=fun (j:Int) (hj:0≤j)=>ANR (ns:=ns) (k:=k+1+18*j) hl (by omega)
 generalize hL:PyData.list (ns.map PyData.int)=L at e1 pts ⊢
 obtain ⟨ts,g1,g2,g3⟩:=AE0 (P:=fun q:List P2 × Bool=>q.1≠[]∧q.1.length≤5∧∀p∈q.1,A12 p) (i:=PaT) (te:=(eF (A3 2 [] S6) (A0 (A1 1) (A0 (e2 E9 (e2 E9 (A1 2) (eC (.int 1))) (e2 C7 (eC (.int 18)) (A1 0))) A2)))) (ρ:=[none,some L,some (.int k)]) ((List.range d1.toNat).map fun (i:Nat)=>(i:Int)) (fun j hj=>by
  obtain ⟨j0,j1⟩:=AE1 hj
  obtain ⟨t,h1,h2⟩:=pts j j0
  exact ⟨t,AE3 (x:=L) rfl (h_2 (h_2 (x:=.int k) rfl h_c (G8 k 1)) (h_2 h_c (y:=.int j) rfl (AD4 (by decide) (by omega))) (G8 (k+1) (18*j))) h1,h2⟩)
 rw[List.length_map,List.length_range]at g1
 refine ⟨ts,?_,⟨by omega,fun q hq=>(g3 q hq).1,fun q hq=>(g3 q hq).2.1,fun q hq=>(g3 q hq).2.2⟩⟩
 have e0:O2 [some L,some (.int k)]=.rt (PhT ts):=by
  unfold O2
  exact E6 (AB6 (J1 (AFZ (W3 (x:=L) (y:=.int k) rfl rfl h_c e1) (by omega) (by omega)) (by rw[List.length_map,List.length_map,List.length_range];omega) g2) rfl)
 show clR (Tr.run 2 O2 [L,.int k])=_
 rw[E4 (ρ:=[some L,some (.int k)]) rfl e0]
 rfl
theorem AMQ {r:Rat} {q:Int} {p:Nat} (h:At r q p):r.den ∣ q.natAbs:=by
 obtain ⟨a,e,_⟩:=h
 have h1:r.num*q=a*(r.den:Int):=by
  have h2:=AC9 r
  have h3:((r.num*q:Int):Rat)=((a*(r.den:Int):Int):Rat):=by
   rw[Rat.intCast_mul,Rat.intCast_mul,Rat.intCast_natCast,←h2,←e]
   grind
  exact Rat.intCast_inj.mp h3
 have h4:r.den ∣ r.num.natAbs*q.natAbs:=by
  rw[←Int.natAbs_mul,h1,Int.natAbs_mul,Int.natAbs_natCast]
  exact Nat.dvd_mul_left _ _
 exact (Nat.Coprime.dvd_of_dvd_mul_left (Nat.Coprime.symm r.reduced) h4)
theorem W9 {n:Nat} (h:n≤1000000):n.log2<400:=by
 by_cases z:n=0
 ·rw[z];exact Nat.lt_of_le_of_lt (Nat.le_refl _) (by decide +kernel)
 ·exact (Nat.log2_lt z).mpr (Nat.lt_of_lt_of_le (show n<2 ^ 20 by omega) (Nat.pow_le_pow_right (by decide) (by decide)))
theorem ANW (m n:Nat):B4 [.int (m:Int),.int (n:Int)]=.ok (.int (Nat.gcd m n:Nat)):=by
 have q:B4 [.int (m:Int),.int (n:Int)]=if 0≤(m:Int)∧0≤(n:Int) then .ok (.int (Nat.gcd (m:Int).natAbs (n:Int).natAbs:Nat)) else .bad:=rfl
 rw[q,if_pos ⟨by omega,by omega⟩,Int.natAbs_natCast,Int.natAbs_natCast]
theorem ADY {m n:Nat} (h0:n≠0) (hn:n≤1000000):G7 (.int (m:Int)) (.int (n:Int))=some (.int ((m / n:Nat):Int)):=by
 have hl:n.log2<9000:=Nat.lt_trans (W9 hn) (by decide)
 show (if (n:Int)=0∨¬(n:Int).natAbs.log2<9000 then none else some (PyData.int ((m:Int).fdiv (n:Int))))=_
 rw[if_neg (by rw[Int.natAbs_natCast];omega),Int.fdiv_eq_ediv_of_nonneg _ (by omega)]
 rfl
theorem AFV {l:Option T} {u d:Nat} {n:Int} (hu:0<u) (hu1:u≤1000) (hd0:0<d) (hd1:d≤1000) :
  C0 (Tr.gName 1) (e2 G7 (e2 C7 (A1 1) (A1 3)) (eF (A3 2 [] B4) (A0 (A1 1) (A0 (A1 3) A2)))) [l,some (.int (u:Int)),some (.int n),some (.int (d:Int))]=.nx [l,some (.int (Nat.lcm u d:Nat)),some (.int n),some (.int (d:Int))]:=by
 have m1:C7 (.int (u:Int)) (.int (d:Int))=some (.int ((u*d:Nat):Int)):=by
  rw[AD4 (by omega) (by omega)]
  rfl
 have g0:Nat.gcd u d≠0:=Nat.ne_of_gt (Nat.gcd_pos_of_pos_left _ hu)
 have g1:Nat.gcd u d≤u:=Nat.le_of_dvd hu (Nat.gcd_dvd_left _ _)
 have f1:G7 (.int ((u*d:Nat):Int)) (.int (Nat.gcd u d:Nat))=some (.int (Nat.lcm u d:Nat)):=ADY g0 (by omega)
 exact S1 (h_2 (h_2 (x:=.int (u:Int)) (y:=.int (d:Int)) rfl rfl m1) (AE3 (x:=.int (u:Int)) (y:=.int (d:Int)) rfl rfl (ANW u d)) f1)
theorem ADC {Q:Nat} (hQ:0<Q) (hQ1:Q≤1000) {l:Option T}:∀(rs:List Rat) (u:Nat) (o2 o3:Option T),(∀r∈rs,r.den ∣ Q)→u ∣ Q→∃(U:Nat) (o2' o3':Option T),U ∣ Q∧u ∣ U∧(∀r∈rs,r.den ∣ U) ∧
  AD5 (Tr.gTup [Tr.gName 2,Tr.gName 3]) (C0 (Tr.gName 1) (e2 G7 (e2 C7 (A1 1) (A1 3)) (eF (A3 2 [] B4) (A0 (A1 1) (A0 (A1 3) A2))))) (rs.map RT) [l,some (.int (u:Int)),o2,o3]=.nx [l,some (.int (U:Int)),o2',o3']
 | [],u,o2,o3,_,hu=>⟨u,o2,o3,hu,Nat.dvd_refl _,fun r hr=>(List.not_mem_nil hr).elim,rfl⟩
 | r::rs,u,o2,o3,hr,hu=>by
  have hd:=hr r List.mem_cons_self
  have hle:=Nat.le_of_dvd hQ hd
  have hule:=Nat.le_of_dvd hQ hu
  have hu0:0<u:=Nat.pos_of_dvd_of_pos hu hQ
  have hd0:0<r.den:=Nat.pos_of_ne_zero r.den_nz
  obtain ⟨U,o2',o3',h1,h2,h3,h4⟩:=ADC hQ hQ1 (l:=l) rs (Nat.lcm u r.den) (some (.int r.num)) (some (.int (r.den:Int))) (fun s hs=>hr s (List.mem_cons_of_mem _ hs)) (Nat.lcm_dvd hu hd)
  refine ⟨U,o2',o3',h1,Nat.dvd_trans (Nat.dvd_lcm_left _ _) h2,fun s hs=>?_,?_⟩
  ·rcases List.mem_cons.mp hs with rfl | hs
   ·exact Nat.dvd_trans (Nat.dvd_lcm_right _ _) h2
   ·exact h3 s hs
  ·rw[List.map_cons]
   exact ACA (ρ1:=[l,some (.int (u:Int)),some (.int r.num),some (.int (r.den:Int))]) rfl (AFV hu0 (by omega) hd0 (by omega)) h4
def inU (U:Nat) (r:Rat):Int:=r.num*((U / r.den:Nat):Int)
theorem AZN {U:Nat} {r:Rat} (h:r.den ∣ U):(inU U r:Rat)=r*(U:Rat):=by
 obtain ⟨c,rfl⟩:=h
 have hd:0<r.den:=Nat.pos_of_ne_zero r.den_nz
 unfold inU
 rw[Nat.mul_div_cancel_left c hd,Rat.intCast_mul,Rat.intCast_natCast,Rat.natCast_mul,←AC9 r]
 grind
theorem AR5 {Q:Nat} (hQ:0<Q) (hQ1:Q≤1000) {rs:List Rat} (hs:∀r∈rs,Sm r) (hl:rs.length≤1000) (hr:∀r∈rs,r.den ∣ Q):∃U:Nat,0<U∧U ∣ Q∧(∀r∈rs,r.den ∣ U)∧G4 [.tuple (rs.map RT)]=.ok (.tuple [.list (rs.map fun r=>PyData.int (inU U r)),.int (U:Int)]):=by
 obtain ⟨U,o2,o3,h1,h2,h3,h4⟩:=ADC hQ hQ1 (l:=some (.tuple (rs.map RT))) rs 1 none none hr (Nat.one_dvd _)
 rw[show ((1:Nat):Int)=1 from rfl]at h4
 have hU0:0<U:=Nat.pos_of_dvd_of_pos h1 hQ
 have hUle:=Nat.le_of_dvd hQ h1
 refine ⟨U,hU0,h1,h3,?_⟩
 have c:=Q8 (g:=Tr.gTup [Tr.gName 0,Tr.gName 1]) (te:=e2 C7 (A1 0) (e2 G7 (A1 2) (A1 1))) (ρ:=[none,none,some (.int (U:Int))]) (i:=RT) (f:=fun r=>PyData.int (inU U r)) rs fun r hm=>by
  have hd0:0<r.den:=Nat.pos_of_ne_zero r.den_nz
  have hdle:=Nat.le_of_dvd hU0 (h3 r hm)
  have q1:U / r.den≤U:=Nat.div_le_self _ _
  refine ⟨[some (.int r.num),some (.int (r.den:Int)),some (.int (U:Int))],rfl,h_2 (x:=.int r.num) rfl (h_2 (x:=.int (U:Int)) (y:=.int (r.den:Int)) rfl rfl (ADY (by omega) (by omega))) ?_⟩
  exact AO1 (lg (hs r hm).1) (by rw[Int.natAbs_natCast];exact W9 (by omega))
 have e0:K3 [some (.tuple (rs.map RT)),none,none,none]=.rt (.tuple [.list (rs.map fun r=>PyData.int (inU U r)),.int (U:Int)]):=by
  unfold K3
  rw[O1 (v:=.int 1) (ρ':=[some (.tuple (rs.map RT)),some (.int 1),none,none]) h_c rfl]
  rw[AGK (ts:=rs.map RT) (j8 rfl) h4]
  exact E6 (ALP (J1 (ts:=rs.map RT) (j8 rfl) (by rw[List.length_map];omega) c) (y:=.int (U:Int)) rfl)
 show clR (Tr.run 4 K3 [.tuple (rs.map RT)])=_
 rw[E4 (ρ:=[some (.tuple (rs.map RT)),none,none,none]) rfl e0]
 rfl
theorem ix0 (r:Rat):ixT (RT r) (.int 0)=some (.int r.num):=rfl
theorem ix1 (r:Rat):ixT (RT r) (.int 1)=some (.int (r.den:Int)):=rfl
theorem AaX {a:FE} {ρ:Ev} {r:Rat} (h:a ρ=.ok (RT r)):e2 ixT a (eC (.int 0)) ρ=.ok (.int r.num):=h_2 h h_c (ix0 r)
theorem Ad7 {a:FE} {ρ:Ev} {r:Rat} (h:a ρ=.ok (RT r)):e2 ixT a (eC (.int 1)) ρ=.ok (.int (r.den:Int)):=h_2 h h_c (ix1 r)
theorem v7 {a b:Int} {K:Nat} (h0:a.natAbs≤K) (hK:K≤1000000000000000:=by decide):C7 (.int a) (.int b)=some (.int (a*b)):=by
 have h':CMulG a b:=.inl (.inl ⟨by omega,by omega⟩)
 show (if CMulG a b then some (PyData.int (a*b)) else none)=_
 rw[if_pos h']
theorem AT9 {a:Int} {K:Nat} (h0:a.natAbs≤K) (hK:K≤1000000000000000:=by decide):AFJ (.int a) (.int 2)=some (.int (a ^ 2)):=by
 show (if (0:Int)≤2∧(2:Int)≤1000∧a.natAbs<2 ^ 64 then some (PyData.int (a ^ (2:Int).toNat)) else none)=_
 rw[if_pos ⟨by decide,by decide,by omega⟩]
 rfl
theorem AOE {a b:Int} {A B C:Nat} (ha:a.natAbs≤A) (hb:b.natAbs≤B) (h:A+B≤C):(a-b).natAbs≤C:=by omega
theorem Af8 {a b:Int} {A B C:Nat} (ha:a.natAbs≤A) (hb:b.natAbs≤B) (h:A+B≤C):(a+b).natAbs≤C:=by omega
theorem nab {a b:Int} {A B C:Nat} (ha:a.natAbs≤A) (hb:b.natAbs≤B) (h:A*B≤C):(a*b).natAbs≤C:=by
 rw[Int.natAbs_mul]
 exact Nat.le_trans (Nat.mul_le_mul ha hb) h
theorem AFB {U:Nat} {r:Rat} (h:At r 12 120) (hU:U≤12):(inU U r).natAbs≤1440:=by
 have h1:=(AM5 h (by decide)).1
 have h2:U / r.den≤12:=Nat.le_trans (Nat.div_le_self _ _) hU
 unfold inU
 rw[Int.natAbs_mul,Int.natAbs_natCast]
 exact Nat.mul_le_mul h1 h2
def zT (z:P2 × P2):T:=.tuple [PT z.1,PT z.2]
def rs4 (z:P2 × P2):List Rat:=[z.1.1,z.1.2,z.2.1,z.2.2]
def IsU (rs:List Rat) (U:Nat):Prop:=0<U∧U≤12∧(∀r∈rs,r.den ∣ U)∧G4 [.tuple (rs.map RT)]=.ok (.tuple [.list (rs.map fun r=>PyData.int (inU U r)),.int (U:Int)])
open Classical in
noncomputable def uOf (rs:List Rat):Nat:=if h:∃U,IsU rs U then Classical.choose h else 1
theorem AT3 {rs:List Rat} (h:∀r∈rs,At r 12 120) (hl:rs.length≤1000):IsU rs (uOf rs):=by
 obtain ⟨U,h0,h1,h2,h3⟩:=AR5 (Q:=12) (by decide) (by decide) (rs:=rs) (fun r hr=>AW5 (h r hr)) hl (fun r hr=>AMQ (h r hr))
 have hh:∃U,IsU rs U:=⟨U,h0,Nat.le_of_dvd (by decide) h1,h2,h3⟩
 unfold uOf
 rw[dif_pos hh]
 exact Classical.choose_spec hh
theorem ASU {z:P2 × P2} (hp:A12 z.1) (hq:A12 z.2):∀r∈rs4 z,At r 12 120:=fun r hr=>by
 simp only[rs4,List.mem_cons,List.not_mem_nil,or_false]at hr
 rcases hr with rfl | rfl | rfl | rfl
 ·exact hp.1
 ·exact hp.2
 ·exact hq.1
 ·exact hq.2
noncomputable def lnT (z:P2 × P2):T:=.tuple [.int (inU (uOf (rs4 z)) z.1.1),.int (inU (uOf (rs4 z)) z.1.2),.int (inU (uOf (rs4 z)) z.2.1),.int (inU (uOf (rs4 z)) z.2.2),.int (uOf (rs4 z):Int)]
theorem ASZ {g:FG} {e:FE} {ρ ρ':Ev} {v:T} (h:e ρ=.ok v) (hg:g v ρ=some ρ'):C0 g e ρ=.nx ρ':=by
 unfold C0
 rw[h]
 show (match g v ρ with | some ρ'=>SR.nx ρ' | none=>.bad)=_
 rw[hg]
noncomputable def lrB:FB:=(w6 (Q7 1 (C0 (Tr.gTup [(Tr.gName 6),(Tr.gName 7)]) (eF (A3 1 [] G4) (A0 (e2 AEZ (A1 4) (A1 5)) A2)))) (ALO (e2 AEZ (eN AL4 (A0 (A1 6) A2)) (D4 (A0 (A1 7) A2)))))
theorem AVN {z:P2 × P2} (hp:A12 z.1) (hq:A12 z.2):∃v w,∀(o0 o2 o3 o6 o7:Option T) (acc:List T),acc.length≤1000→∀ad,lrB ad [o0,some (E8 ad),o2,o3,some (PT z.1),some (PT z.2),o6,o7] acc=.nx [o0,some (E8 ad),o2,o3,some (PT z.1),some (PT z.2),some v,some w] (acc++[lnT z]):=by
 obtain ⟨h0,h1,_,h2⟩:=AT3 (ASU hp hq) (show (rs4 z).length≤1000 by show 4≤1000;decide)
 unfold lnT
 generalize uOf (rs4 z)=U at *
 obtain ⟨p,q⟩:=z
 refine ⟨.list [.int (inU U p.1),.int (inU U p.2),.int (inU U q.1),.int (inU U q.2)],.int (U:Int),fun o0 o2 o3 o6 o7 acc hl ad=>?_⟩
 unfold lrB
 refine X6 (T7 (ρ':=[o0,some (E8 ad),o2,o3,some (PT p),some (PT q),some (.list [.int (inU U p.1),.int (inU U p.2),.int (inU U q.1),.int (inU U q.2)]),some (.int (U:Int))]) (ASZ (ACR (h_2 (x:=PT p) (y:=PT q) (z:=.tuple ([p.1,p.2,q.1,q.2].map RT)) rfl rfl rfl) h2) rfl) rfl) ?_
 exact AIQ (h_2 (AB6 (x:=.list [.int (inU U p.1),.int (inU U p.2),.int (inU U q.1),.int (inU U q.2)]) rfl rfl) (AbP (x:=.int (U:Int)) rfl) rfl) hl
theorem AMT {o0 o2 o3:Option T}:∀(zs:List (P2 × P2)) (acc:List T) (o4 o5 o6 o7:Option T),(∀z∈zs,A12 z.1∧A12 z.2)→acc.length+zs.length≤1000→∃(o4' o5' o6' o7':Option T),∀ad:Nat,
  O4 (fun t ρ=>(Tr.gTup [Tr.gName 4,Tr.gName 5] t ρ).bind fun ρ'=>if J3 1 ad ρ'=true then some ρ' else none) lrB (zs.map zT) ad [o0,some (E8 ad),o2,o3,o4,o5,o6,o7] acc=.nx [o0,some (E8 ad),o2,o3,o4',o5',o6',o7'] (acc++zs.map lnT)
 | [],acc,o4,o5,o6,o7,_,_=>⟨o4,o5,o6,o7,fun ad=>by rw[List.map_nil,O4,List.map_nil,List.append_nil]⟩
 | z::zs,acc,o4,o5,o6,o7,h,hl=>by
  rw[List.length_cons]at hl
  obtain ⟨v,w,hb⟩:=AVN (h z List.mem_cons_self).1 (h z List.mem_cons_self).2
  obtain ⟨o4',o5',o6',o7',h3⟩:=AMT (o0:=o0) (o2:=o2) (o3:=o3) zs (acc++[lnT z]) (some (PT z.1)) (some (PT z.2)) (some v) (some w) (fun y hy=>h y (List.mem_cons_of_mem _ hy)) (by rw[List.length_append,List.length_singleton];omega)
  refine ⟨o4',o5',o6',o7',fun ad=>?_⟩
  have hq:=h3 ad
  rw[List.append_assoc]at hq
  exact Z1 (ρ1:=[o0,some (E8 ad),o2,o3,some (PT z.1),some (PT z.2),o6,o7]) rfl rfl (hb o0 o2 o3 o6 o7 acc (by omega) ad) hq
theorem AfI (x:T) (xs:List T):ADK (x::xs) (some 1) none=xs:=by
 unfold ADK
 have h:HT.sIx (x::xs).length 0 (some 1)=1:=by
  rw[show (1:Int)=((1:Nat):Int) from rfl,HT.sIx_nat,List.length_cons]
  omega
 rw[h,HT.sIx_none,List.length_cons,List.drop_one,List.tail_cons]
 exact List.take_of_length_le (by omega)
theorem Af1 (x:T) (xs:List T):ADK (x::xs) none (some 1)=[x]:=by
 unfold ADK
 have h:HT.sIx (x::xs).length (x::xs).length (some 1)=1:=by
  rw[show (1:Int)=((1:Nat):Int) from rfl,HT.sIx_nat,List.length_cons]
  omega
 rw[h,HT.sIx_none,List.drop_zero]
 rfl
theorem AOA {a:FE} {ρ:Ev} {x:T} {xs:List T} (h:a ρ=.ok (.tuple (x::xs))):AGX a (some (eC (.int 1))) none ρ=.ok (.tuple xs):=by
 unfold AGX
 rw[h]
 show R.ok (PyData.tuple (ADK (x::xs) (some 1) none))=_
 rw[AfI]
theorem AdW {a:FE} {ρ:Ev} {x:T} {xs:List T} (h:a ρ=.ok (.tuple (x::xs))):AGX a none (some (eC (.int 1))) ρ=.ok (.tuple [x]):=by
 unfold AGX
 rw[h]
 show R.ok (PyData.tuple (ADK (x::xs) none (some 1)))=_
 rw[Af1]
theorem AUX {xs ys:List T} (h:xs.length+ys.length≤1000):AEZ (.tuple xs) (.tuple ys)=some (.tuple (xs++ys)):=by
 show (if J4 (xs.length+ys.length)=true then some (PyData.tuple (xs++ys)) else none)=_
 rw[if_pos (show J4 (xs.length+ys.length)=true from decide_eq_true h)]
theorem AbE:∀(ps qs:List P2),List.zipWith (fun a b=>PyData.tuple [a,b]) (ps.map PT) (qs.map PT)=(ps.zip qs).map zT
 | [],_=>rfl
 | _::_,[]=>rfl
 | p::ps,q::qs=>by
  rw[List.map_cons,List.map_cons,List.zipWith_cons_cons,List.zip_cons_cons,List.map_cons,AbE ps qs]
  rfl
theorem Ab9 {a b:FE} {ρ:Ev} {ps qs:List P2} (h1:a ρ=.ok (.tuple (ps.map PT))) (h2:b ρ=.ok (.tuple (qs.map PT))):iN (AXE true true) (A0 a (A0 b A2)) ρ=.ok ((ps.zip qs).map zT):=by
 unfold iN A0 A2
 rw[h1,h2]
 show R.of (some (List.zipWith (fun a b=>PyData.tuple [a,b]) (ps.map PT) (qs.map PT)))=_
 rw[AbE]
 rfl
theorem AT1 {ps qs:List P2} (h1:∀p∈ps,A12 p) (h2:∀p∈qs,A12 p):∀z∈ps.zip qs,A12 z.1∧A12 z.2:=fun z hz=>by
 obtain ⟨a,b⟩:=z
 have:=List.of_mem_zip hz
 exact ⟨h1 a this.1,h2 b this.2⟩
theorem AXP {a:FE} {ρ:Ev} {p:P2} {ps:List P2} (h:a ρ=.ok (.tuple ((p::ps).map PT))) (hl:ps.length≤100):e2 AEZ (AGX a (some (eC (.int 1))) none) (AGX a none (some (eC (.int 1)))) ρ=.ok (.tuple ((ps++[p]).map PT)):=by
 rw[List.map_cons]at h
 have:=AUX (xs:=ps.map PT) (ys:=[PT p]) (by rw[List.length_map,List.length_singleton];omega)
 refine h_2 (AOA h) (AdW h) ?_
 rw[this,List.map_append]
 rfl
structure GoodQ (q:List P2 × Bool):Prop where
 some:q.1≠[]
 short:q.1.length≤5
 pts:∀p∈q.1,A12 p
noncomputable def lrO:FB:=(AHA 1 (iN (AXE true true) (A0 (A1 2) (A0 (e2 AEZ (AGX (A1 2) (some (eC (.int 1))) none) (AGX (A1 2) none (some (eC (.int 1))))) A2))) (Tr.gTup [(Tr.gName 4),(Tr.gName 5)]) lrB)
def AC7 (pts:List P2):List (P2 × P2):=pts.zip (pts.drop 1++pts.take 1)
def AB1 (ps:List (List P2 × Bool)):List (P2 × P2):=ps.flatMap fun q=>AC7 q.1
theorem AKL (pts:List P2):(AC7 pts).length≤pts.length:=by
 unfold AC7
 rw[List.length_zip]
 omega
theorem AFN {pts:List P2} (h:∀p∈pts,A12 p):∀z∈AC7 pts,A12 z.1∧A12 z.2:=AT1 h fun x hx=>by
 rcases List.mem_append.mp hx with hx | hx
 ·exact h x (List.mem_of_mem_drop hx)
 ·exact h x (List.mem_of_mem_take hx)
theorem AJK {o0:Option T}:∀(ps:List (List P2 × Bool)) (acc:List T) (o2 o3 o4 o5 o6 o7:Option T),(∀q∈ps,GoodQ q)→acc.length+5*ps.length≤1000→∃(o2' o3' o4' o5' o6' o7':Option T),∀ad:Nat,
  O4 (fun t ρ=>(Tr.gTup [Tr.gName 2,Tr.gName 3] t ρ).bind fun ρ'=>if J3 1 ad ρ'=true then some ρ' else none) lrO (ps.map PaT) ad [o0,some (E8 ad),o2,o3,o4,o5,o6,o7] acc=.nx [o0,some (E8 ad),o2',o3',o4',o5',o6',o7'] (acc++(AB1 ps).map lnT)
 | [],acc,o2,o3,o4,o5,o6,o7,_,_=>⟨o2,o3,o4,o5,o6,o7,fun ad=>by rw[List.map_nil,O4];unfold AB1;rw[List.flatMap_nil,List.map_nil,List.append_nil]⟩
 | q::ps,acc,o2,o3,o4,o5,o6,o7,h,hl=>by
  rw[List.length_cons]at hl
  have hq:=h q List.mem_cons_self
  obtain ⟨pts,b⟩:=q
  match pts,hq with
  | [],hq=>exact absurd rfl hq.some
  | p::r,hq =>
   have hlen:r.length+1≤5:=hq.short
   have ep:AC7 (p::r)=(p::r).zip (r++[p]):=rfl
   have hz:((p::r).zip (r++[p])).length≤5:=by
    rw[List.length_zip,List.length_append,List.length_singleton,List.length_cons];omega
   obtain ⟨a4,a5,a6,a7,h3⟩:=AMT (o0:=o0) (o2:=some (.tuple ((p::r).map PT))) (o3:=some (.bool b)) ((p::r).zip (r++[p])) acc o4 o5 o6 o7 (by rw[←ep];exact AFN hq.pts) (by omega)
   obtain ⟨b2,b3,b4,b5,b6,b7,g3⟩:=AJK (o0:=o0) ps (acc++((p::r).zip (r++[p])).map lnT) (some (.tuple ((p::r).map PT))) (some (.bool b)) a4 a5 a6 a7 (fun y hy=>h y (List.mem_cons_of_mem _ hy)) (by rw[List.length_append,List.length_map];omega)
   refine ⟨b2,b3,b4,b5,b6,b7,fun ad=>?_⟩
   have hr:=g3 ad
   rw[List.append_assoc,←List.map_append,←ep]at hr
   refine Z1 (ρ1:=[o0,some (E8 ad),some (.tuple ((p::r).map PT)),some (.bool b),o4,o5,o6,o7]) rfl rfl ?_ hr
   rw[ep]
   exact AAQ (Ab9 rfl (AXP (a:=A1 2) rfl (by omega))) (h3 ad)
theorem AFC {ps:List (List P2 × Bool)} (h:∀q∈ps,GoodQ q) (hl:ps.length≤3):K8 [PhT ps]=.ok (.list ((AB1 ps).map lnT)):=by
 obtain ⟨b2,b3,b4,b5,b6,b7,g3⟩:=AJK (o0:=some (PhT ps)) ps [] none none none none none none h (by rw[List.length_nil];omega)
 have e:K0 [some (PhT ps),none,none,none,none,none,none,none]=.rt (.list ((AB1 ps).map lnT)):=by
  unfold K0
  rw[AEP (r:=[some (PhT ps),some (.list ((AB1 ps).map lnT)),b2,b3,b4,b5,b6,b7]) (show 1<8 by decide) fun ad=>⟨_,_,AAQ (ts:=ps.map PaT) (j8 rfl) (g3 ad),rfl⟩]
  exact E6 rfl
 show clR (Tr.run 8 K0 [PhT ps])=_
 rw[E4 (ρ:=[some (PhT ps),none,none,none,none,none,none,none]) rfl e]
 rfl
theorem AWR {t u:FB} {a:Nat} {ρ ρ':Ev} {acc acc':List T} (h:t a ρ acc=.ct ρ' acc'):w6 t u a ρ acc=.ct ρ' acc':=by
 unfold w6;rw[h]
theorem AS2 {i a:Nat} {t:FS} {ρ ρ':Ev} {acc:List T} (h:t ρ=.ct ρ') (hk:ρ'[i]?=some (some (E8 a))):Q7 i t a ρ acc=.ct ρ' acc:=by
 unfold Q7;rw[h]
 show (if J3 i a ρ'=true then BR.ct ρ' acc else .bad)=_
 rw[if_pos (W5 hk)]
theorem APU {i a:Nat} {g:FG} {body:FB} {t:T} {ts:List T} {ρ ρ1 ρ2:Ev} {acc acc2:List T} {r:BR} (hg:g t ρ=some ρ1) (hk:ρ1[i]?=some (some (E8 a))) (hb:body a ρ1 acc=.ct ρ2 acc2)
  (hr:O4 (fun t ρ=>(g t ρ).bind fun ρ'=>if J3 i a ρ'=true then some ρ' else none) body ts a ρ2 acc2=r):O4 (fun t ρ=>(g t ρ).bind fun ρ'=>if J3 i a ρ'=true then some ρ' else none) body (t::ts) a ρ acc=r:=by
 rw[O4]
 have e:((g t ρ).bind fun ρ'=>if J3 i a ρ'=true then some ρ' else none)=some ρ1:=by
  rw[hg]
  show (if J3 i a ρ1=true then some ρ1 else none)=_
  rw[if_pos (W5 hk)]
 simp only[e,hb]
 exact hr
theorem AOD {a b c:FE} {ρ:Ev} {i j k:Int} (h1:a ρ=.ok (.int i)) (h2:b ρ=.ok (.int j)) (h3:c ρ=.ok (.int k)):j7 leT ltT a b c ρ=.ok (decide (i≤j)&&decide (j<k)):=by
 have e1:leT (.int i) (.int j)=some (.bool (decide (i≤j))):=rfl
 have e2:ltT (.int j) (.int k)=some (.bool (decide (j<k))):=rfl
 unfold j7 j9
 simp only[h1,h2,h3,R.bind,e1,R.of]
 cases decide (i≤j) with
 | true=>simp only[e2,R.of];rfl
 | false=>rfl
def AA3 (x y tx ty l be:Int):Int:=x*be*(ty-y)+(l-y*be)*(tx-x)
def tri (x y tx ty u tp be:Int):List (Int × Int × Int) :=
 if y*be≤tp*u∧tp*u<ty*be then [(AA3 x y tx ty (tp*u) be*1,be*(ty-y)*u*1,1)]
 else if ty*be≤tp*u∧tp*u<y*be then [(AA3 x y tx ty (tp*u) be*(-1),be*(ty-y)*u*(-1),-1)]
 else []
def ACV (t:Int × Int × Int):T:=.tuple [.int t.1,.int t.2.1,.int t.2.2]
noncomputable def crI:FS:=(sIf (j7 leT ltT (e2 C7 (A1 6) (A1 3)) (A1 10) (e2 C7 (A1 8) (A1 3))) (C0 (Tr.gName 12) (eC (.int 1))) (sIf (j7 leT ltT (e2 C7 (A1 8) (A1 3)) (A1 10) (e2 C7 (A1 6) (A1 3))) (C0 (Tr.gName 12) (e1 AJO (eC (.int 1)))) AWY))
noncomputable def crE:FB:=(w6 (Q7 4 (C0 (Tr.gName 13) (e2 E9 (e2 C7 (e2 C7 (A1 5) (A1 3)) (A1 11)) (e2 C7 (e2 U8 (A1 10) (e2 C7 (A1 6) (A1 3))) (e2 U8 (A1 7) (A1 5)))))) (ALO (D4 (A0 (e2 C7 (A1 13) (A1 12)) (A0 (e2 C7 (e2 C7 (e2 C7 (A1 3) (A1 11)) (A1 9)) (A1 12)) (A0 (A1 12) A2))))))
noncomputable def crB:FB:=(w6 (Q7 4 (C0 (Tr.gName 10) (e2 C7 (A1 2) (A1 9)))) (w6 (Q7 4 (C0 (Tr.gName 11) (e2 U8 (A1 8) (A1 6)))) (w6 (Q7 4 crI) crE)))
theorem AfU {a b c:FE} {ρ:Ev} {x y z:T} (h1:a ρ=.ok x) (h2:b ρ=.ok y) (h3:c ρ=.ok z):D4 (A0 a (A0 b (A0 c A2))) ρ=.ok (.tuple [x,y,z]):=by
 unfold D4 A0 A2;rw[h1,h2,h3];rfl
theorem ASQ {x y tx ty u tp be l s:Int} (hx:x.natAbs≤1440) (hy:y.natAbs≤1440) (htx:tx.natAbs≤1440) (hty:ty.natAbs≤1440) (hu:u.natAbs≤12) (hb:be.natAbs≤24) (hl:l.natAbs≤2880) (hs:s.natAbs≤1):∀(o0 o1 o13:Option T) (acc:List T),acc.length≤1000→∀ad,
  crE ad [o0,o1,some (.int tp),some (.int be),some (E8 ad),some (.int x),some (.int y),some (.int tx),some (.int ty),some (.int u),some (.int l),some (.int (ty-y)),some (.int s),o13] acc=.nx [o0,o1,some (.int tp),some (.int be),some (E8 ad),some (.int x),some (.int y),some (.int tx),some (.int ty),some (.int u),some (.int l),some (.int (ty-y)),some (.int s),some (.int (AA3 x y tx ty l be))] (acc++[ACV (AA3 x y tx ty l be*s,be*(ty-y)*u*s,s)]):=by
 have k1:(x*be).natAbs≤34560:=nab hx hb (by decide)
 have k2:(y*be).natAbs≤34560:=nab hy hb (by decide)
 have k3:(ty-y).natAbs≤2880:=AOE hty hy (by decide)
 have k4:(tx-x).natAbs≤2880:=AOE htx hx (by decide)
 have k5:(x*be*(ty-y)).natAbs≤100000000:=nab k1 k3 (by decide)
 have k6:(l-y*be).natAbs≤40000:=AOE hl k2 (by decide)
 have k7:((l-y*be)*(tx-x)).natAbs≤200000000:=nab k6 k4 (by decide)
 have k8:(AA3 x y tx ty l be).natAbs≤300000000:=Af8 k5 k7 (by decide)
 have k9:(be*(ty-y)).natAbs≤100000:=nab hb k3 (by decide)
 have k10:(be*(ty-y)*u).natAbs≤10000000:=nab k9 hu (by decide)
 intro o0 o1 o13 acc hacc ad
 have hA:x*be*(ty-y)+(l-y*be)*(tx-x)=AA3 x y tx ty l be:=rfl
 generalize AA3 x y tx ty l be=A at *
 unfold crE
 refine X6 (T7 (ρ':=[o0,o1,some (.int tp),some (.int be),some (E8 ad),some (.int x),some (.int y),some (.int tx),some (.int ty),some (.int u),some (.int l),some (.int (ty-y)),some (.int s),some (.int A)]) (S1 (v:=.int A) (h_2 (h_2 (h_2 (x:=.int x) (y:=.int be) rfl rfl (v7 hx)) (y:=.int (ty-y)) rfl (v7 k1)) (h_2 (h_2 (x:=.int l) rfl (h_2 (x:=.int y) (y:=.int be) rfl rfl (v7 hy)) (v6 _ _)) (h_2 (x:=.int tx) (y:=.int x) rfl rfl (v6 _ _)) (v7 k6)) (by rw[←hA];exact G8 _ _))) rfl) ?_
 exact AIQ (AfU (h_2 (x:=.int A) (y:=.int s) rfl rfl (v7 k8)) (h_2 (h_2 (h_2 (x:=.int be) (y:=.int (ty-y)) rfl rfl (v7 hb)) (y:=.int u) rfl (v7 k9)) (y:=.int s) rfl (v7 k10)) (z:=.int s) rfl) hacc
theorem AVO {x y tx ty u tp be:Int} (hx:x.natAbs≤1440) (hy:y.natAbs≤1440) (htx:tx.natAbs≤1440) (hty:ty.natAbs≤1440) (hu:u.natAbs≤12) (ht:tp.natAbs≤240) (hb:be.natAbs≤24) (o0 o1 o10 o11 o12 o13:Option T):∃(p10 p11 p12 p13:Option T),∀(acc:List T) (ad:Nat),acc.length≤1000 →
  (crB ad [o0,o1,some (.int tp),some (.int be),some (E8 ad),some (.int x),some (.int y),some (.int tx),some (.int ty),some (.int u),o10,o11,o12,o13] acc=.nx [o0,o1,some (.int tp),some (.int be),some (E8 ad),some (.int x),some (.int y),some (.int tx),some (.int ty),some (.int u),p10,p11,p12,p13] (acc++(tri x y tx ty u tp be).map ACV)) ∨
  (crB ad [o0,o1,some (.int tp),some (.int be),some (E8 ad),some (.int x),some (.int y),some (.int tx),some (.int ty),some (.int u),o10,o11,o12,o13] acc=.ct [o0,o1,some (.int tp),some (.int be),some (E8 ad),some (.int x),some (.int y),some (.int tx),some (.int ty),some (.int u),p10,p11,p12,p13] (acc++(tri x y tx ty u tp be).map ACV)):=by
 have hl:(tp*u).natAbs≤2880:=nab ht hu (by decide)
 have m1:C7 (.int tp) (.int u)=some (.int (tp*u)):=v7 ht
 unfold tri
 generalize hL:tp*u=l at hl m1
 have first:∀acc ad,∀r,(w6 (Q7 4 crI) crE) ad [o0,o1,some (.int tp),some (.int be),some (E8 ad),some (.int x),some (.int y),some (.int tx),some (.int ty),some (.int u),some (.int l),some (.int (ty-y)),o12,o13] acc=r →
   crB ad [o0,o1,some (.int tp),some (.int be),some (E8 ad),some (.int x),some (.int y),some (.int tx),some (.int ty),some (.int u),o10,o11,o12,o13] acc=r:=fun acc ad r h=>by
  unfold crB
  refine X6 (T7 (ρ':=[o0,o1,some (.int tp),some (.int be),some (E8 ad),some (.int x),some (.int y),some (.int tx),some (.int ty),some (.int u),some (.int l),o11,o12,o13]) (S1 (v:=.int l) (h_2 (x:=.int tp) (y:=.int u) rfl rfl m1)) rfl) ?_
  exact X6 (T7 (ρ':=[o0,o1,some (.int tp),some (.int be),some (E8 ad),some (.int x),some (.int y),some (.int tx),some (.int ty),some (.int u),some (.int l),some (.int (ty-y)),o12,o13]) (S1 (v:=.int (ty-y)) (h_2 (x:=.int ty) (y:=.int y) rfl rfl (v6 _ _))) rfl) h
 have c1:∀ad,j7 leT ltT (e2 C7 (A1 6) (A1 3)) (A1 10) (e2 C7 (A1 8) (A1 3)) [o0,o1,some (.int tp),some (.int be),some (E8 ad),some (.int x),some (.int y),some (.int tx),some (.int ty),some (.int u),some (.int l),some (.int (ty-y)),o12,o13]=.ok (decide (y*be≤l)&&decide (l<ty*be)):=fun ad =>
  AOD (h_2 (x:=.int y) (y:=.int be) rfl rfl (v7 hy)) rfl (h_2 (x:=.int ty) (y:=.int be) rfl rfl (v7 hty))
 have c2:∀ad,j7 leT ltT (e2 C7 (A1 8) (A1 3)) (A1 10) (e2 C7 (A1 6) (A1 3)) [o0,o1,some (.int tp),some (.int be),some (E8 ad),some (.int x),some (.int y),some (.int tx),some (.int ty),some (.int u),some (.int l),some (.int (ty-y)),o12,o13]=.ok (decide (ty*be≤l)&&decide (l<y*be)):=fun ad =>
  AOD (h_2 (x:=.int ty) (y:=.int be) rfl rfl (v7 hty)) rfl (h_2 (x:=.int y) (y:=.int be) rfl rfl (v7 hy))
 rw[←Bool.decide_and]at c1 c2
 by_cases h1:y*be≤l∧l<ty*be
 ·rw[if_pos h1]
  rw[decide_eq_true h1]at c1
  refine ⟨some (.int l),some (.int (ty-y)),some (.int 1),some (.int (AA3 x y tx ty l be)),fun acc ad hacc=>.inl (first acc ad _ ?_)⟩
  exact X6 (T7 (AbU (c1 ad) (S1 h_c)) rfl) (ASQ (tp:=tp) hx hy htx hty hu hb hl (by decide) o0 o1 o13 acc hacc ad)
 ·rw[if_neg h1]
  rw[decide_eq_false h1]at c1
  by_cases h2:ty*be≤l∧l<y*be
  ·rw[if_pos h2]
   rw[decide_eq_true h2]at c2
   refine ⟨some (.int l),some (.int (ty-y)),some (.int (-1)),some (.int (AA3 x y tx ty l be)),fun acc ad hacc=>.inl (first acc ad _ ?_)⟩
   exact X6 (T7 (AW8 (c1 ad) (AbU (c2 ad) (S1 (v:=.int (-1)) rfl))) rfl) (ASQ (tp:=tp) hx hy htx hty hu hb hl (by decide) o0 o1 o13 acc hacc ad)
  ·rw[if_neg h2]
   rw[decide_eq_false h2]at c2
   refine ⟨some (.int l),some (.int (ty-y)),o12,o13,fun acc ad hacc=>.inr (first acc ad _ ?_)⟩
   rw[List.map_nil,List.append_nil]
   exact AWR (AS2 (AW8 (c1 ad) (AW8 (c2 ad) rfl)) rfl)
noncomputable def AFY (z:P2 × P2) (y:Rat):List (Int × Int × Int):=tri (inU (uOf (rs4 z)) z.1.1) (inU (uOf (rs4 z)) z.1.2) (inU (uOf (rs4 z)) z.2.1) (inU (uOf (rs4 z)) z.2.2) (uOf (rs4 z):Int) y.num (y.den:Int)
theorem AN5 (x y tx ty u tp be:Int):(tri x y tx ty u tp be).length≤1:=by
 unfold tri
 split
 ·exact Nat.le_refl _
 ·split
  ·exact Nat.le_refl _
  ·exact Nat.zero_le _
theorem AOY {o0 o1:Option T} {y:Rat} (hy:At y 24 240):∀(zs:List (P2 × P2)) (acc:List T) (o5 o6 o7 o8 o9 o10 o11 o12 o13:Option T),(∀z∈zs,A12 z.1∧A12 z.2)→acc.length+zs.length≤1000→∃(p5 p6 p7 p8 p9 p10 p11 p12 p13:Option T),∀ad:Nat,
  O4 (fun t ρ=>(Tr.gTup [Tr.gName 5,Tr.gName 6,Tr.gName 7,Tr.gName 8,Tr.gName 9] t ρ).bind fun ρ'=>if J3 4 ad ρ'=true then some ρ' else none) crB (zs.map lnT) ad [o0,o1,some (.int y.num),some (.int (y.den:Int)),some (E8 ad),o5,o6,o7,o8,o9,o10,o11,o12,o13] acc=.nx [o0,o1,some (.int y.num),some (.int (y.den:Int)),some (E8 ad),p5,p6,p7,p8,p9,p10,p11,p12,p13] (acc++(zs.flatMap fun z=>AFY z y).map ACV)
 | [],acc,o5,o6,o7,o8,o9,o10,o11,o12,o13,_,_=>⟨o5,o6,o7,o8,o9,o10,o11,o12,o13,fun ad=>by rw[List.map_nil,O4,List.flatMap_nil,List.map_nil,List.append_nil]⟩
 | z::zs,acc,o5,o6,o7,o8,o9,o10,o11,o12,o13,h,hl=>by
  rw[List.length_cons]at hl
  have hz:=h z List.mem_cons_self
  have h24:=AM5 hy (by decide)
  obtain ⟨u0,u1,_,_⟩:=AT3 (ASU hz.1 hz.2) (show (rs4 z).length≤1000 by show 4≤1000;decide)
  obtain ⟨q10,q11,q12,q13,g3⟩:=AVO (AFB hz.1.1 u1) (AFB hz.1.2 u1) (AFB hz.2.1 u1) (AFB hz.2.2 u1) (u:=(uOf (rs4 z):Int)) (by rw[Int.natAbs_natCast];exact u1) h24.1 (be:=(y.den:Int)) (by rw[Int.natAbs_natCast];exact h24.2) o0 o1 o10 o11 o12 o13
  have tl:(AFY z y).length≤1:=AN5 _ _ _ _ _ _ _
  obtain ⟨p5,p6,p7,p8,p9,p10,p11,p12,p13,k3⟩:=AOY hy (o0:=o0) (o1:=o1) zs (acc++(AFY z y).map ACV) (some (.int (inU (uOf (rs4 z)) z.1.1))) (some (.int (inU (uOf (rs4 z)) z.1.2))) (some (.int (inU (uOf (rs4 z)) z.2.1))) (some (.int (inU (uOf (rs4 z)) z.2.2))) (some (.int (uOf (rs4 z):Int))) q10 q11 q12 q13 (fun v hv=>h v (List.mem_cons_of_mem _ hv)) (by rw[List.length_append,List.length_map];omega)
  refine ⟨p5,p6,p7,p8,p9,p10,p11,p12,p13,fun ad=>?_⟩
  have hr:=k3 ad
  rw[List.append_assoc,←List.map_append,show AFY z y++(zs.flatMap fun z=>AFY z y)=(z::zs).flatMap fun z=>AFY z y from (List.flatMap_cons (f:=fun z=>AFY z y) (x:=z) (xs:=zs)).symm]at hr
  rcases g3 acc ad (by omega) with e | e
  ·exact Z1 (ρ1:=[o0,o1,some (.int y.num),some (.int (y.den:Int)),some (E8 ad),some (.int (inU (uOf (rs4 z)) z.1.1)),some (.int (inU (uOf (rs4 z)) z.1.2)),some (.int (inU (uOf (rs4 z)) z.2.1)),some (.int (inU (uOf (rs4 z)) z.2.2)),some (.int (uOf (rs4 z):Int)),o10,o11,o12,o13]) rfl rfl e hr
  ·exact APU (ρ1:=[o0,o1,some (.int y.num),some (.int (y.den:Int)),some (E8 ad),some (.int (inU (uOf (rs4 z)) z.1.1)),some (.int (inU (uOf (rs4 z)) z.1.2)),some (.int (inU (uOf (rs4 z)) z.2.1)),some (.int (inU (uOf (rs4 z)) z.2.2)),some (.int (uOf (rs4 z):Int)),o10,o11,o12,o13]) rfl rfl e hr
theorem AGV {zs:List (P2 × P2)} {y:Rat} (h:∀z∈zs,A12 z.1∧A12 z.2) (hl:zs.length≤15) (hy:At y 24 240):U9 [.list (zs.map lnT),RT y]=.ok (.list ((zs.flatMap fun z=>AFY z y).map ACV)):=by
 obtain ⟨p5,p6,p7,p8,p9,p10,p11,p12,p13,g3⟩:=AOY (o0:=some (.list (zs.map lnT))) (o1:=some (RT y)) hy zs [] none none none none none none none none none h (by rw[List.length_nil];omega)
 have e:N7 [some (.list (zs.map lnT)),some (RT y),none,none,none,none,none,none,none,none,none,none,none,none]=.rt (.list ((zs.flatMap fun z=>AFY z y).map ACV)):=by
  unfold N7
  rw[AAZ (v:=RT y) (ρ':=[some (.list (zs.map lnT)),some (RT y),some (.int y.num),some (.int (y.den:Int)),none,none,none,none,none,none,none,none,none,none]) rfl rfl]
  rw[AEP (r:=[some (.list (zs.map lnT)),some (RT y),some (.int y.num),some (.int (y.den:Int)),some (.list ((zs.flatMap fun z=>AFY z y).map ACV)),p5,p6,p7,p8,p9,p10,p11,p12,p13]) (show 4<14 by decide) fun ad=>⟨_,_,AAQ (ts:=zs.map lnT) (O8 rfl) (g3 ad),rfl⟩]
  exact E6 rfl
 show clR (Tr.run 14 N7 [.list (zs.map lnT),RT y])=_
 rw[E4 (ρ:=[some (.list (zs.map lnT)),some (RT y),none,none,none,none,none,none,none,none,none,none,none,none]) rfl e]
 rfl
theorem AEL:∀ns:List Int,P8 (ns.map PyData.int)=some ns
 | []=>rfl
 | n::ns=>by
  show (P8 (ns.map PyData.int)).map (n::·)=_
  rw[AEL ns];rfl
noncomputable def tuE:FT:=(bV (e2 gtT (e2 C7 (A1 0) (A1 3)) (e2 C7 (A1 4) (A1 1))))
def hit (x:Rat) (t:Int × Int × Int):Bool:=decide (x.num*t.2.1<t.1*(x.den:Int))
theorem AML {x:Rat} (hx:x.num.natAbs≤240) (hb:x.den≤24):∀ts:List (Int × Int × Int),C4 (Tr.gTup [Tr.gName 0,Tr.gName 1,Tr.gName 2]) tuE (A1 2) [none,none,none,some (.int (x.den:Int)),some (.int x.num)] (ts.map ACV)=.ok (((ts.filter (hit x)).map fun t=>t.2.2).map PyData.int)
 | []=>rfl
 | t::ts=>by
  have ih:=AML hx hb ts
  obtain ⟨a,b,s⟩:=t
  have g:Tr.gTup [Tr.gName 0,Tr.gName 1,Tr.gName 2] (ACV (a,b,s)) [none,none,none,some (.int (x.den:Int)),some (.int x.num)]=some [some (.int a),some (.int b),some (.int s),some (.int (x.den:Int)),some (.int x.num)]:=rfl
  have mr:C7 (.int a) (.int (x.den:Int))=some (.int (a*(x.den:Int))):=by
   have h':CMulG a (x.den:Int):=.inl (.inr ⟨by omega,by omega⟩)
   show (if CMulG a (x.den:Int) then some (PyData.int (a*(x.den:Int))) else none)=_
   rw[if_pos h']
  have c:tuE [some (.int a),some (.int b),some (.int s),some (.int (x.den:Int)),some (.int x.num)]=.ok (hit x (a,b,s)) :=
   h_b (h_2 (h_2 (x:=.int a) (y:=.int (x.den:Int)) rfl rfl mr) (h_2 (x:=.int x.num) (y:=.int b) rfl rfl (v7 hx)) rfl)
  have e:A1 2 [some (.int a),some (.int b),some (.int s),some (.int (x.den:Int)),some (.int x.num)]=.ok (.int s):=rfl
  rw[List.map_cons,C4,List.filter_cons]
  cases hk:hit x (a,b,s) with
  | true =>
   rw[hk]at c
   simp only[g,c,e,ih]
   rfl
  | false =>
   rw[hk]at c
   simp only[g,c,ih]
   rfl
def AW1 (x:Rat) (ts:List (Int × Int × Int)):Int:=((ts.filter (hit x)).map fun t=>t.2.2).sum
theorem ASE {ts:List (Int × Int × Int)} {x:Rat} (hl:ts.length≤1000) (hx:At x 24 240):AE6 [.list (ts.map ACV),RT x]=.ok (.int (AW1 x ts)):=by
 have h1:=AM5 hx (by decide)
 have hn:=AML h1.1 h1.2 ts
 have e:AAI [some (.list (ts.map ACV)),some (RT x),none,none]=.rt (.int (AW1 x ts)):=by
  unfold AAI
  rw[AAZ (v:=RT x) (ρ':=[some (.list (ts.map ACV)),some (RT x),some (.int x.num),some (.int (x.den:Int))]) rfl rfl]
  refine E6 (AB6 (J1 (ts:=ts.map ACV) (O8 rfl) (by rw[List.length_map];omega) hn) ?_)
  show (P8 _).map (fun ns=>PyData.int ns.sum)=_
  rw[AEL];rfl
 show clR (Tr.run 4 AAI [.list (ts.map ACV),RT x])=_
 rw[E4 (ρ:=[some (.list (ts.map ACV)),some (RT x),none,none]) rfl e]
 rfl
abbrev X2:T:=.str (Str.ofString "whole")
abbrev ARN:T:=.str (Str.ofString "odd")
def ASV (r:Bool) (n:Int):Bool:=if r=true then (n.fmod 2 == 1) else !(n == 0)
theorem AL1 (n:Int):AAL [X2,.int n]=.ok (.bool (ASV false n)):=by
 have e:V1 [some X2,some (.int n)]=.rt (.bool (!(n == 0))):=by
  unfold V1
  exact E6 (AS7 (h_b (h_2 (x:=X2) rfl h_c (show eqT X2 X2=some (.bool true) by kernel_rfl))) (h_2 (x:=.int n) rfl h_c rfl))
 show clR (Tr.run 2 V1 [X2,.int n])=_
 rw[E4 (ρ:=[some X2,some (.int n)]) rfl e]
 rfl
theorem ARF (n:Int):AAL [ARN,.int n]=.ok (.bool (ASV true n)):=by
 have e:V1 [some ARN,some (.int n)]=.rt (.bool (n.fmod 2 == 1)):=by
  unfold V1
  exact E6 (APQ (h_b (h_2 (x:=ARN) rfl h_c (show eqT ARN X2=some (.bool false) by kernel_rfl))) (h_2 (h_2 (x:=.int n) (z:=.int (n.fmod 2)) rfl h_c rfl) h_c rfl))
 show clR (Tr.run 2 V1 [ARN,.int n])=_
 rw[E4 (ρ:=[some ARN,some (.int n)]) rfl e]
 rfl
theorem AL2:L0 [X2]=.ok (.bool true):=by kernel_rfl
theorem AR2:L0 [ARN]=.ok (.bool true):=by kernel_rfl
def prT (t:Int × Nat):T:=.tuple [.int t.1,.int (t.2:Int)]
def inP (U:Nat) (t:Int × Nat):Int:=t.1*((U / t.2:Nat):Int)
theorem ABX {Q:Nat} (hQ:0<Q) (hQ1:Q≤1000) {l:Option T}:∀(rs:List (Int × Nat)) (u:Nat) (o2 o3:Option T),(∀r∈rs,0<r.2∧r.2 ∣ Q)→u ∣ Q→∃(U:Nat) (o2' o3':Option T),U ∣ Q∧u ∣ U∧(∀r∈rs,r.2 ∣ U) ∧
  AD5 (Tr.gTup [Tr.gName 2,Tr.gName 3]) (C0 (Tr.gName 1) (e2 G7 (e2 C7 (A1 1) (A1 3)) (eF (A3 2 [] B4) (A0 (A1 1) (A0 (A1 3) A2))))) (rs.map prT) [l,some (.int (u:Int)),o2,o3]=.nx [l,some (.int (U:Int)),o2',o3']
 | [],u,o2,o3,_,hu=>⟨u,o2,o3,hu,Nat.dvd_refl _,fun r hr=>(List.not_mem_nil hr).elim,rfl⟩
 | r::rs,u,o2,o3,hr,hu=>by
  have hd:=(hr r List.mem_cons_self).2
  have hle:=Nat.le_of_dvd hQ hd
  have hule:=Nat.le_of_dvd hQ hu
  have hu0:0<u:=Nat.pos_of_dvd_of_pos hu hQ
  have hd0:=(hr r List.mem_cons_self).1
  obtain ⟨U,o2',o3',h1,h2,h3,h4⟩:=ABX hQ hQ1 (l:=l) rs (Nat.lcm u r.2) (some (.int r.1)) (some (.int (r.2:Int))) (fun s hs=>hr s (List.mem_cons_of_mem _ hs)) (Nat.lcm_dvd hu hd)
  refine ⟨U,o2',o3',h1,Nat.dvd_trans (Nat.dvd_lcm_left _ _) h2,fun s hs=>?_,?_⟩
  ·rcases List.mem_cons.mp hs with rfl | hs
   ·exact Nat.dvd_trans (Nat.dvd_lcm_right _ _) h2
   ·exact h3 s hs
  ·rw[List.map_cons]
   exact ACA (ρ1:=[l,some (.int (u:Int)),some (.int r.1),some (.int (r.2:Int))]) rfl (AFV hu0 (by omega) hd0 (by omega)) h4
theorem ANM {Q:Nat} (hQ:0<Q) (hQ1:Q≤1000) {rs:List (Int × Nat)} (hs:∀r∈rs,r.1.natAbs.log2<400) (hl:rs.length≤1000) (hr:∀r∈rs,0<r.2∧r.2 ∣ Q):∃U:Nat,0<U∧U ∣ Q∧(∀r∈rs,r.2 ∣ U)∧G4 [.tuple (rs.map prT)]=.ok (.tuple [.list (rs.map fun r=>PyData.int (inP U r)),.int (U:Int)]):=by
 obtain ⟨U,o2,o3,h1,h2,h3,h4⟩:=ABX hQ hQ1 (l:=some (.tuple (rs.map prT))) rs 1 none none hr (Nat.one_dvd _)
 rw[show ((1:Nat):Int)=1 from rfl]at h4
 have hU0:0<U:=Nat.pos_of_dvd_of_pos h1 hQ
 have hUle:=Nat.le_of_dvd hQ h1
 refine ⟨U,hU0,h1,h3,?_⟩
 have c:=Q8 (g:=Tr.gTup [Tr.gName 0,Tr.gName 1]) (te:=e2 C7 (A1 0) (e2 G7 (A1 2) (A1 1))) (ρ:=[none,none,some (.int (U:Int))]) (i:=prT) (f:=fun r=>PyData.int (inP U r)) rs fun r hm=>by
  have hd0:=(hr r hm).1
  have hdle:=Nat.le_of_dvd hU0 (h3 r hm)
  have q1:U / r.2≤U:=Nat.div_le_self _ _
  refine ⟨[some (.int r.1),some (.int (r.2:Int)),some (.int (U:Int))],rfl,h_2 (x:=.int r.1) rfl (h_2 (x:=.int (U:Int)) (y:=.int (r.2:Int)) rfl rfl (ADY (by omega) (by omega))) ?_⟩
  exact AO1 (hs r hm) (by rw[Int.natAbs_natCast];exact W9 (by omega))
 have e0:K3 [some (.tuple (rs.map prT)),none,none,none]=.rt (.tuple [.list (rs.map fun r=>PyData.int (inP U r)),.int (U:Int)]):=by
  unfold K3
  rw[O1 (v:=.int 1) (ρ':=[some (.tuple (rs.map prT)),some (.int 1),none,none]) h_c rfl]
  rw[AGK (ts:=rs.map prT) (j8 rfl) h4]
  exact E6 (ALP (J1 (ts:=rs.map prT) (j8 rfl) (by rw[List.length_map];omega) c) (y:=.int (U:Int)) rfl)
 show clR (Tr.run 4 K3 [.tuple (rs.map prT)])=_
 rw[E4 (ρ:=[some (.tuple (rs.map prT)),none,none,none]) rfl e0]
 rfl
theorem AFE {U:Nat} {n:Int} {d:Nat} {v:Rat} (hd:0<d) (h:d ∣ U) (hv:v*(d:Rat)=(n:Rat)):(inP U (n,d):Rat)=v*(U:Rat):=by
 obtain ⟨c,rfl⟩:=h
 unfold inP
 dsimp only
 rw[Nat.mul_div_cancel_left c hd,Rat.intCast_mul,Rat.intCast_natCast,Rat.natCast_mul,←hv]
 grind
structure Wd (w:Rat):Prop where
 pos:0≤w
 num:w.num.natAbs≤100
 den:w.den*2 ∣ 12
def hf (w:Rat):Int × Nat:=(w.num,w.den*2)
def ts5 (w:Rat) (z:P2 × P2):List (Int × Nat):=[(z.1.1.num,z.1.1.den),(z.1.2.num,z.1.2.den),(z.2.1.num,z.2.1.den),(z.2.2.num,z.2.2.den),hf w]
def IsP (ts:List (Int × Nat)) (U:Nat):Prop:=0<U∧U≤12∧(∀r∈ts,r.2 ∣ U)∧G4 [.tuple (ts.map prT)]=.ok (.tuple [.list (ts.map fun r=>PyData.int (inP U r)),.int (U:Int)])
open Classical in
noncomputable def uP (ts:List (Int × Nat)):Nat:=if h:∃U,IsP ts U then Classical.choose h else 1
theorem AWP {ts:List (Int × Nat)} (h:∀t∈ts,t.1.natAbs≤120∧0<t.2∧t.2 ∣ 12) (hl:ts.length≤1000):IsP ts (uP ts):=by
 obtain ⟨U,h0,h1,h2,h3⟩:=ANM (Q:=12) (by decide) (by decide) (rs:=ts) (fun r hr=>W9 (by have:=(h r hr).1;omega)) hl (fun r hr=>(h r hr).2)
 have hh:∃U,IsP ts U:=⟨U,h0,Nat.le_of_dvd (by decide) h1,h2,h3⟩
 unfold uP
 rw[dif_pos hh]
 exact Classical.choose_spec hh
theorem AJS {w:Rat} (hw:Wd w) {z:P2 × P2} (hz:A12 z.1∧A12 z.2):∀t∈ts5 w z,t.1.natAbs≤120∧0<t.2∧t.2 ∣ 12:=fun t ht=>by
 have one:∀r:Rat,At r 12 120→r.num.natAbs≤120∧0<r.den∧r.den ∣ 12:=fun r h=>⟨(AM5 h (by decide)).1,Nat.pos_of_ne_zero r.den_nz,AMQ h⟩
 simp only[ts5,List.mem_cons,List.not_mem_nil,or_false]at ht
 rcases ht with rfl | rfl | rfl | rfl | rfl
 ·exact one _ hz.1.1
 ·exact one _ hz.1.2
 ·exact one _ hz.2.1
 ·exact one _ hz.2.2
 ·refine ⟨Nat.le_trans hw.num (by decide),?_,hw.den⟩
  have:=w.den_nz
  show 0<w.den*2
  omega
noncomputable def lnD (w:Rat) (z:P2 × P2):T:=.tuple [.int (inP (uP (ts5 w z)) (z.1.1.num,z.1.1.den)),.int (inP (uP (ts5 w z)) (z.1.2.num,z.1.2.den)),.int (inP (uP (ts5 w z)) (z.2.1.num,z.2.1.den)),.int (inP (uP (ts5 w z)) (z.2.2.num,z.2.2.den)),.int (inP (uP (ts5 w z)) (hf w)),.int (uP (ts5 w z):Int)]
noncomputable def ldB:FB:=(w6 (Q7 3 (C0 (Tr.gTup [(Tr.gName 9),(Tr.gName 10)]) (eF (A3 1 [] G4) (A0 (e2 AEZ (e2 AEZ (A1 7) (A1 8)) (D4 (A0 (A1 2) A2))) A2)))) (ALO (e2 AEZ (eN AL4 (A0 (A1 9) A2)) (D4 (A0 (A1 10) A2)))))
theorem ATV {w:Rat} (hw:Wd w) {z:P2 × P2} (hz:A12 z.1∧A12 z.2):∃v v',∀(o0 o1 o4 o5 o6 o9 o10:Option T) (acc:List T),acc.length≤1000→∀ad,ldB ad [o0,o1,some (prT (hf w)),some (E8 ad),o4,o5,o6,some (PT z.1),some (PT z.2),o9,o10] acc=.nx [o0,o1,some (prT (hf w)),some (E8 ad),o4,o5,o6,some (PT z.1),some (PT z.2),some v,some v'] (acc++[lnD w z]):=by
 obtain ⟨h0,h1,_,h2⟩:=AWP (AJS hw hz) (show (ts5 w z).length≤1000 by show 5≤1000;decide)
 unfold lnD
 generalize uP (ts5 w z)=U at *
 obtain ⟨p,q⟩:=z
 refine ⟨.list [.int (inP U (p.1.num,p.1.den)),.int (inP U (p.2.num,p.2.den)),.int (inP U (q.1.num,q.1.den)),.int (inP U (q.2.num,q.2.den)),.int (inP U (hf w))],.int (U:Int),fun o0 o1 o4 o5 o6 o9 o10 acc hl ad=>?_⟩
 unfold ldB
 refine X6 (T7 (ρ':=[o0,o1,some (prT (hf w)),some (E8 ad),o4,o5,o6,some (PT p),some (PT q),some (.list [.int (inP U (p.1.num,p.1.den)),.int (inP U (p.2.num,p.2.den)),.int (inP U (q.1.num,q.1.den)),.int (inP U (q.2.num,q.2.den)),.int (inP U (hf w))]),some (.int (U:Int))]) (ASZ (ACR (h_2 (h_2 (x:=PT p) (y:=PT q) (z:=.tuple [RT p.1,RT p.2,RT q.1,RT q.2]) rfl rfl rfl) (AbP (x:=prT (hf w)) rfl) (z:=.tuple ((ts5 w (p,q)).map prT)) rfl) h2) rfl) rfl) ?_
 exact AIQ (h_2 (AB6 (x:=.list [.int (inP U (p.1.num,p.1.den)),.int (inP U (p.2.num,p.2.den)),.int (inP U (q.1.num,q.1.den)),.int (inP U (q.2.num,q.2.den)),.int (inP U (hf w))]) rfl rfl) (AbP (x:=.int (U:Int)) rfl) rfl) hl
theorem AM8 {w:Rat} (hw:Wd w) {o0 o1 o4 o5 o6:Option T}:∀(zs:List (P2 × P2)) (acc:List T) (o7 o8 o9 o10:Option T),(∀z∈zs,A12 z.1∧A12 z.2)→acc.length+zs.length≤1000→∃(p7 p8 p9 p10:Option T),∀ad:Nat,
  O4 (fun t ρ=>(Tr.gTup [Tr.gName 7,Tr.gName 8] t ρ).bind fun ρ'=>if J3 3 ad ρ'=true then some ρ' else none) ldB (zs.map zT) ad [o0,o1,some (prT (hf w)),some (E8 ad),o4,o5,o6,o7,o8,o9,o10] acc=.nx [o0,o1,some (prT (hf w)),some (E8 ad),o4,o5,o6,p7,p8,p9,p10] (acc++zs.map (lnD w))
 | [],acc,o7,o8,o9,o10,_,_=>⟨o7,o8,o9,o10,fun ad=>by rw[List.map_nil,O4,List.map_nil,List.append_nil]⟩
 | z::zs,acc,o7,o8,o9,o10,h,hl=>by
  rw[List.length_cons]at hl
  obtain ⟨v,v',hb⟩:=ATV hw (h z List.mem_cons_self)
  obtain ⟨p7,p8,p9,p10,h3⟩:=AM8 hw (o0:=o0) (o1:=o1) (o4:=o4) (o5:=o5) (o6:=o6) zs (acc++[lnD w z]) (some (PT z.1)) (some (PT z.2)) (some v) (some v') (fun y hy=>h y (List.mem_cons_of_mem _ hy)) (by rw[List.length_append,List.length_singleton];omega)
  refine ⟨p7,p8,p9,p10,fun ad=>?_⟩
  have hq:=h3 ad
  rw[List.append_assoc]at hq
  exact Z1 (ρ1:=[o0,o1,some (prT (hf w)),some (E8 ad),o4,o5,o6,some (PT z.1),some (PT z.2),o9,o10]) rfl rfl (hb o0 o1 o4 o5 o6 o9 o10 acc (by omega) ad) hq
def ATA (q:List P2 × Bool):List P2:=if (q.2||(q.1.length == 1))=true then q.1.drop 1++q.1.take 1 else q.1.drop 1
def S4 (q:List P2 × Bool):List (P2 × P2):=q.1.zip (ATA q)
def T1 (ps:List (List P2 × Bool)):List (P2 × P2):=ps.flatMap S4
theorem AWH (q:List P2 × Bool):∀x∈ATA q,x∈q.1:=fun x hx=>by
 unfold ATA at hx
 split at hx
 ·rcases List.mem_append.mp hx with hx | hx
  ·exact List.mem_of_mem_drop hx
  ·exact List.mem_of_mem_take hx
 ·exact List.mem_of_mem_drop hx
theorem ADQ {q:List P2 × Bool} (h:∀p∈q.1,A12 p):∀z∈S4 q,A12 z.1∧A12 z.2:=AT1 h fun x hx=>h x (AWH q x hx)
theorem AC8 (q:List P2 × Bool):(S4 q).length≤q.1.length:=by
 unfold S4
 rw[List.length_zip]
 omega
noncomputable def ldE:FE:=(eIf (bOr (bV (A1 5)) (bV (e2 eqT (eN AA4 (A0 (A1 4) A2)) (eC (.int 1))))) (e2 AEZ (AGX (A1 4) (some (eC (.int 1))) none) (AGX (A1 4) none (some (eC (.int 1))))) (AGX (A1 4) (some (eC (.int 1))) none))
theorem AVL {p:P2} {r:List P2} {b:Bool} (hr:r.length≤5) (o0 o1 o2 o3 o6 o7 o8 o9 o10:Option T):ldE [o0,o1,o2,o3,some (.tuple ((p::r).map PT)),some (.bool b),o6,o7,o8,o9,o10]=.ok (.tuple ((ATA (p::r,b)).map PT)):=by
 have hc:(bOr (bV (A1 5)) (bV (e2 eqT (eN AA4 (A0 (A1 4) A2)) (eC (.int 1))))) [o0,o1,o2,o3,some (.tuple ((p::r).map PT)),some (.bool b),o6,o7,o8,o9,o10]=.ok (b||((((p::r).map PT).length:Int) == 1)) :=
  AQX (h_b rfl) (h_b (h_2 (AB6 (x:=.tuple ((p::r).map PT)) (z:=.int (((p::r).map PT).length:Int)) rfl rfl) h_c (Y7 _ _)))
 have he:((((p::r).map PT).length:Int) == 1)=((p::r).length == 1):=by
  rw[List.length_map,Bool.eq_iff_iff]
  simp only[beq_iff_eq]
  omega
 rw[he]at hc
 unfold ATA
 dsimp only
 cases hk:(b||((p::r).length == 1)) with
 | true =>
  rw[hk]at hc
  rw[if_pos rfl]
  exact AS7 hc (AXP (a:=A1 4) (p:=p) (ps:=r) rfl (by omega))
 | false =>
  rw[hk]at hc
  rw[if_neg (by decide)]
  exact APQ hc (AOA (x:=PT p) (xs:=r.map PT) rfl)
noncomputable def ldO:FB:=(w6 (Q7 3 (C0 (Tr.gName 6) ldE)) (AHA 3 (iN (AXE true true) (A0 (A1 4) (A0 (A1 6) A2))) (Tr.gTup [(Tr.gName 7),(Tr.gName 8)]) ldB))
theorem AIS {w:Rat} (hw:Wd w) {o0 o1:Option T}:∀(ps:List (List P2 × Bool)) (acc:List T) (o4 o5 o6 o7 o8 o9 o10:Option T),(∀q∈ps,GoodQ q)→acc.length+5*ps.length≤1000→∃(p4 p5 p6 p7 p8 p9 p10:Option T),∀ad:Nat,
  O4 (fun t ρ=>(Tr.gTup [Tr.gName 4,Tr.gName 5] t ρ).bind fun ρ'=>if J3 3 ad ρ'=true then some ρ' else none) ldO (ps.map PaT) ad [o0,o1,some (prT (hf w)),some (E8 ad),o4,o5,o6,o7,o8,o9,o10] acc=.nx [o0,o1,some (prT (hf w)),some (E8 ad),p4,p5,p6,p7,p8,p9,p10] (acc++(T1 ps).map (lnD w))
 | [],acc,o4,o5,o6,o7,o8,o9,o10,_,_=>⟨o4,o5,o6,o7,o8,o9,o10,fun ad=>by rw[List.map_nil,O4];unfold T1;rw[List.flatMap_nil,List.map_nil,List.append_nil]⟩
 | q::ps,acc,o4,o5,o6,o7,o8,o9,o10,h,hl=>by
  rw[List.length_cons]at hl
  have hq:=h q List.mem_cons_self
  obtain ⟨pts,b⟩:=q
  match pts,hq with
  | [],hq=>exact absurd rfl hq.some
  | p::r,hq =>
   have hlen:r.length+1≤5:=hq.short
   have hz:(S4 (p::r,b)).length≤5:=Nat.le_trans (AC8 _) hlen
   obtain ⟨a7,a8,a9,a10,h3⟩:=AM8 hw (o0:=o0) (o1:=o1) (o4:=some (.tuple ((p::r).map PT))) (o5:=some (.bool b)) (o6:=some (.tuple ((ATA (p::r,b)).map PT))) (S4 (p::r,b)) acc o7 o8 o9 o10 (ADQ hq.pts) (by omega)
   obtain ⟨b4,b5,b6,b7,b8,b9,b10,g3⟩:=AIS hw (o0:=o0) (o1:=o1) ps (acc++(S4 (p::r,b)).map (lnD w)) (some (.tuple ((p::r).map PT))) (some (.bool b)) (some (.tuple ((ATA (p::r,b)).map PT))) a7 a8 a9 a10 (fun y hy=>h y (List.mem_cons_of_mem _ hy)) (by rw[List.length_append,List.length_map];omega)
   refine ⟨b4,b5,b6,b7,b8,b9,b10,fun ad=>?_⟩
   have hr:=g3 ad
   rw[List.append_assoc,←List.map_append,show S4 (p::r,b)++T1 ps=T1 ((p::r,b)::ps) from (List.flatMap_cons (f:=S4) (x:=(p::r,b)) (xs:=ps)).symm]at hr
   refine Z1 (ρ1:=[o0,o1,some (prT (hf w)),some (E8 ad),some (.tuple ((p::r).map PT)),some (.bool b),o6,o7,o8,o9,o10]) rfl rfl ?_ hr
   unfold ldO
   refine X6 (T7 (ρ':=[o0,o1,some (prT (hf w)),some (E8 ad),some (.tuple ((p::r).map PT)),some (.bool b),some (.tuple ((ATA (p::r,b)).map PT)),o7,o8,o9,o10]) (S1 (AVL (by omega) o0 o1 (some (prT (hf w))) (some (E8 ad)) o6 o7 o8 o9 o10)) rfl) ?_
   exact AAQ (Ab9 rfl rfl) (h3 ad)
theorem AP4 {w:Rat} (hw:Wd w) {ps:List (List P2 × Bool)} (h:∀q∈ps,GoodQ q) (hl:ps.length≤3):Q3 [PhT ps,RT w]=.ok (.list ((T1 ps).map (lnD w))):=by
 obtain ⟨b4,b5,b6,b7,b8,b9,b10,g3⟩:=AIS hw (o0:=some (PhT ps)) (o1:=some (RT w)) ps [] none none none none none none none h (by rw[List.length_nil];omega)
 have m2:C7 (.int (w.den:Int)) (.int 2)=some (.int ((w.den*2:Nat):Int)):=by
  have:w.den≤12:=by have:=Nat.le_of_dvd (by decide) hw.den;omega
  rw[v7 (K:=12) (by rw[Int.natAbs_natCast];exact this)]
  rfl
 have e:K4 [some (PhT ps),some (RT w),none,none,none,none,none,none,none,none,none]=.rt (.list ((T1 ps).map (lnD w))):=by
  unfold K4
  rw[O1 (v:=prT (hf w)) (ρ':=[some (PhT ps),some (RT w),some (prT (hf w)),none,none,none,none,none,none,none,none]) (ALP (AaX (r:=w) rfl) (h_2 (Ad7 (r:=w) rfl) h_c m2)) rfl]
  rw[AEP (r:=[some (PhT ps),some (RT w),some (prT (hf w)),some (.list ((T1 ps).map (lnD w))),b4,b5,b6,b7,b8,b9,b10]) (show 3<11 by decide) fun ad=>⟨_,_,AAQ (ts:=ps.map PaT) (j8 rfl) (g3 ad),rfl⟩]
  exact E6 rfl
 show clR (Tr.run 11 K4 [PhT ps,RT w])=_
 rw[E4 (ρ:=[some (PhT ps),some (RT w),none,none,none,none,none,none,none,none,none]) rfl e]
 rfl
theorem Ae2 {a b c:Rat} (h:0<c):c*a≤c*b↔a≤b:=by
 rw[←Rat.not_lt,←Rat.not_lt,Rat.mul_lt_mul_left h]
theorem AGP {m n:Int} {c a b:Rat} (h:0<c) (hm:(m:Rat)=c*a) (hn:(n:Rat)=c*b):m≤n↔a≤b:=by
 rw[←Rat.intCast_le_intCast,hm,hn];exact Ae2 h
theorem Good.q {ps:List (List P2 × Bool)} (h:Good ps):∀q∈ps,GoodQ q:=fun q hq=>⟨h.some q hq,h.short q hq,h.pts q hq⟩
def ANH (W Hh Aa Bb Mo Le Al:Int):Bool :=
 if Al≤0 then decide (Aa ^ 2+Bb ^ 2≤Mo) else if Le≤Al then decide ((Aa-W) ^ 2+(Bb-Hh) ^ 2≤Mo) else decide ((Aa*Hh-Bb*W) ^ 2≤Mo*Le)
def AYH (fx fy tx ty re u x y be:Int):Bool:=ANH ((tx-fx)*be) ((ty-fy)*be) (x*u-fx*be) (y*u-fy*be) ((re*be) ^ 2) (((tx-fx)*be) ^ 2+((ty-fy)*be) ^ 2) ((x*u-fx*be)*((tx-fx)*be)+(y*u-fy*be)*((ty-fy)*be))
theorem AVZ {fx fy tx ty re u x y be:Int} (h1:fx.natAbs≤1440) (h2:fy.natAbs≤1440) (h3:tx.natAbs≤1440) (h4:ty.natAbs≤1440) (h5:re.natAbs≤1440) (h6:u.natAbs≤12) (hx:x.natAbs≤5760) (hy:y.natAbs≤5760) (hb:be.natAbs≤24):N2 [.tuple [.int fx,.int fy,.int tx,.int ty,.int re,.int u],.int x,.int y,.int be]=.ok (.bool (AYH fx fy tx ty re u x y be)):=by
 have a1:(tx-fx).natAbs≤2880:=AOE h3 h1 (by decide)
 have a2:(ty-fy).natAbs≤2880:=AOE h4 h2 (by decide)
 have a3:((tx-fx)*be).natAbs≤200000:=nab a1 hb (by decide)
 have a4:((ty-fy)*be).natAbs≤200000:=nab a2 hb (by decide)
 have a5:(x*u-fx*be).natAbs≤200000:=AOE (nab hx h6 (Nat.le_refl _)) (nab h1 hb (Nat.le_refl _)) (by decide)
 have a6:(y*u-fy*be).natAbs≤200000:=AOE (nab hy h6 (Nat.le_refl _)) (nab h2 hb (Nat.le_refl _)) (by decide)
 have a7:(re*be).natAbs≤200000:=nab h5 hb (by decide)
 have m1:C7 (.int (tx-fx)) (.int be)=some (.int ((tx-fx)*be)):=v7 a1
 have m2:C7 (.int (ty-fy)) (.int be)=some (.int ((ty-fy)*be)):=v7 a2
 unfold AYH
 generalize hL:PyData.tuple [.int fx,.int fy,.int tx,.int ty,.int re,.int u]=L
 have g:Tr.gTup [Tr.gName 4,Tr.gName 5,Tr.gName 6,Tr.gName 7,Tr.gName 8,Tr.gName 9] L [some L,some (.int x),some (.int y),some (.int be),none,none,none,none,none,none,none,none,none,none,none,none,none]=some [some L,some (.int x),some (.int y),some (.int be),some (.int fx),some (.int fy),some (.int tx),some (.int ty),some (.int re),some (.int u),none,none,none,none,none,none,none]:=by rw[←hL];rfl
 generalize hW:(tx-fx)*be=W at *
 generalize hH:(ty-fy)*be=Hh at *
 have s1:e2 U8 (e2 C7 (A1 1) (A1 9)) (e2 C7 (A1 4) (A1 3)) [some L,some (.int x),some (.int y),some (.int be),some (.int fx),some (.int fy),some (.int tx),some (.int ty),some (.int re),some (.int u),some (.int W),some (.int Hh),none,none,none,none,none]=.ok (.int (x*u-fx*be)) :=
  h_2 (h_2 (x:=.int x) (y:=.int u) rfl rfl (v7 hx)) (h_2 (x:=.int fx) (y:=.int be) rfl rfl (v7 h1)) (v6 _ _)
 have s2:e2 U8 (e2 C7 (A1 2) (A1 9)) (e2 C7 (A1 5) (A1 3)) [some L,some (.int x),some (.int y),some (.int be),some (.int fx),some (.int fy),some (.int tx),some (.int ty),some (.int re),some (.int u),some (.int W),some (.int Hh),none,none,none,none,none]=.ok (.int (y*u-fy*be)) :=
  h_2 (h_2 (x:=.int y) (y:=.int u) rfl rfl (v7 hy)) (h_2 (x:=.int fy) (y:=.int be) rfl rfl (v7 h2)) (v6 _ _)
 generalize hA:x*u-fx*be=Aa at *
 generalize hB:y*u-fy*be=Bb at *
 have b3:(Aa*Hh).natAbs≤40000000000:=nab a5 a4 (by decide)
 have b4:(Bb*W).natAbs≤40000000000:=nab a6 a3 (by decide)
 have b5:(Aa-W).natAbs≤400000:=AOE a5 a3 (by decide)
 have b6:(Bb-Hh).natAbs≤400000:=AOE a6 a4 (by decide)
 have b7:(Aa*Hh-Bb*W).natAbs≤80000000000:=AOE b3 b4 (by decide)
 have b8:((re*be) ^ 2).natAbs≤40000000000:=by
  rw[Int.pow_succ,Int.pow_succ,Int.pow_zero,Int.one_mul]
  exact nab a7 a7 (by decide)
 have mm:C7 (.int re) (.int be)=some (.int (re*be)):=v7 h5
 have pm:=AT9 a7
 generalize hM:(re*be) ^ 2=Mo at *
 have key:U1 [some L,some (.int x),some (.int y),some (.int be),none,none,none,none,none,none,none,none,none,none,none,none,none]=.rt (.bool (ANH W Hh Aa Bb Mo (W ^ 2+Hh ^ 2) (Aa*W+Bb*Hh))):=by
  unfold U1
  rw[AAZ (v:=L) rfl g]
  rw[AQ9 (x:=.int W) (y:=.int Hh) (ρ':=[some L,some (.int x),some (.int y),some (.int be),some (.int fx),some (.int fy),some (.int tx),some (.int ty),some (.int re),some (.int u),some (.int W),some (.int Hh),none,none,none,none,none]) (h_2 (h_2 (x:=.int tx) (y:=.int fx) rfl rfl (v6 _ _)) (y:=.int be) rfl m1) (h_2 (h_2 (x:=.int ty) (y:=.int fy) rfl rfl (v6 _ _)) (y:=.int be) rfl m2) rfl]
  rw[AQ9 (x:=.int Aa) (y:=.int Bb) (ρ':=[some L,some (.int x),some (.int y),some (.int be),some (.int fx),some (.int fy),some (.int tx),some (.int ty),some (.int re),some (.int u),some (.int W),some (.int Hh),some (.int Aa),some (.int Bb),none,none,none]) s1 s2 rfl]
  rw[O1 (v:=.int Mo) (ρ':=[some L,some (.int x),some (.int y),some (.int be),some (.int fx),some (.int fy),some (.int tx),some (.int ty),some (.int re),some (.int u),some (.int W),some (.int Hh),some (.int Aa),some (.int Bb),some (.int Mo),none,none]) (h_2 (h_2 (x:=.int re) (y:=.int be) rfl rfl mm) h_c pm) rfl]
  rw[O1 (v:=.int (W ^ 2+Hh ^ 2)) (ρ':=[some L,some (.int x),some (.int y),some (.int be),some (.int fx),some (.int fy),some (.int tx),some (.int ty),some (.int re),some (.int u),some (.int W),some (.int Hh),some (.int Aa),some (.int Bb),some (.int Mo),some (.int (W ^ 2+Hh ^ 2)),none]) (h_2 (h_2 (x:=.int W) rfl h_c (AT9 a3)) (h_2 (x:=.int Hh) rfl h_c (AT9 a4)) (G8 _ _)) rfl]
  rw[O1 (v:=.int (Aa*W+Bb*Hh)) (ρ':=[some L,some (.int x),some (.int y),some (.int be),some (.int fx),some (.int fy),some (.int tx),some (.int ty),some (.int re),some (.int u),some (.int W),some (.int Hh),some (.int Aa),some (.int Bb),some (.int Mo),some (.int (W ^ 2+Hh ^ 2)),some (.int (Aa*W+Bb*Hh))]) (h_2 (h_2 (x:=.int Aa) (y:=.int W) rfl rfl (v7 a5)) (h_2 (x:=.int Bb) (y:=.int Hh) rfl rfl (v7 a6)) (G8 _ _)) rfl]
  generalize W ^ 2+Hh ^ 2=Le
  generalize Aa*W+Bb*Hh=Al
  have c1:bV (e2 leT (A1 16) (eC (.int 0))) [some L,some (.int x),some (.int y),some (.int be),some (.int fx),some (.int fy),some (.int tx),some (.int ty),some (.int re),some (.int u),some (.int W),some (.int Hh),some (.int Aa),some (.int Bb),some (.int Mo),some (.int Le),some (.int Al)]=.ok (decide (Al≤0)):=h_b (h_2 (x:=.int Al) rfl h_c rfl)
  have c2:bV (e2 geT (A1 16) (A1 15)) [some L,some (.int x),some (.int y),some (.int be),some (.int fx),some (.int fy),some (.int tx),some (.int ty),some (.int re),some (.int u),some (.int W),some (.int Hh),some (.int Aa),some (.int Bb),some (.int Mo),some (.int Le),some (.int Al)]=.ok (decide (Le≤Al)):=h_b (h_2 (x:=.int Al) (y:=.int Le) rfl rfl rfl)
  unfold ANH
  by_cases e1:Al≤0
  ·rw[decide_eq_true e1]at c1
   rw[if_pos e1]
   exact AD8 c1 (h_2 (h_2 (h_2 (x:=.int Aa) rfl h_c (AT9 a5)) (h_2 (x:=.int Bb) rfl h_c (AT9 a6)) (G8 _ _)) (y:=.int Mo) rfl rfl)
  ·rw[decide_eq_false e1]at c1
   rw[if_neg e1,G6 c1]
   by_cases e2:Le≤Al
   ·rw[decide_eq_true e2]at c2
    rw[if_pos e2]
    exact AD8 c2 (h_2 (h_2 (h_2 (h_2 (x:=.int Aa) (y:=.int W) rfl rfl (v6 _ _)) h_c (AT9 b5)) (h_2 (h_2 (x:=.int Bb) (y:=.int Hh) rfl rfl (v6 _ _)) h_c (AT9 b6)) (G8 _ _)) (y:=.int Mo) rfl rfl)
   ·rw[decide_eq_false e2]at c2
    rw[if_neg e2,G6 c2]
    exact E6 (h_2 (h_2 (h_2 (h_2 (x:=.int Aa) (y:=.int Hh) rfl rfl (v7 a5)) (h_2 (x:=.int Bb) (y:=.int W) rfl rfl (v7 a6)) (v6 _ _)) h_c (AT9 b7)) (h_2 (x:=.int Mo) (y:=.int Le) rfl rfl (v7 b8)) rfl)
 show clR (Tr.run 17 U1 [L,.int x,.int y,.int be])=_
 rw[E4 (ρ:=[some L,some (.int x),some (.int y),some (.int be),none,none,none,none,none,none,none,none,none,none,none,none,none]) rfl key]
 rfl
def ABR (w:Rat) (z:P2 × P2) (x y:Rat):Prop :=
 if (x-z.1.1)*(z.2.1-z.1.1)+(y-z.1.2)*(z.2.2-z.1.2)≤0 then (x-z.1.1)*(x-z.1.1)+(y-z.1.2)*(y-z.1.2)≤w / 2*(w / 2)
 else if (z.2.1-z.1.1)*(z.2.1-z.1.1)+(z.2.2-z.1.2)*(z.2.2-z.1.2)≤(x-z.1.1)*(z.2.1-z.1.1)+(y-z.1.2)*(z.2.2-z.1.2) then (x-z.2.1)*(x-z.2.1)+(y-z.2.2)*(y-z.2.2)≤w / 2*(w / 2)
 else ((x-z.1.1)*(z.2.2-z.1.2)-(y-z.1.2)*(z.2.1-z.1.1))*((x-z.1.1)*(z.2.2-z.1.2)-(y-z.1.2)*(z.2.1-z.1.1))≤w / 2*(w / 2)*((z.2.1-z.1.1)*(z.2.1-z.1.1)+(z.2.2-z.1.2)*(z.2.2-z.1.2))
theorem sqC (a:Int):((a ^ 2:Int):Rat)=(a:Rat)*(a:Rat):=by
 rw[Int.pow_succ,Int.pow_succ,Int.pow_zero,Int.one_mul,Rat.intCast_mul]
theorem ARC {W Hh Aa Bb Rr:Int} {c dx dy ax ay h:Rat} (hc:0<c) (eW:(W:Rat)=c*dx) (eH:(Hh:Rat)=c*dy) (eA:(Aa:Rat)=c*ax) (eB:(Bb:Rat)=c*ay) (eR:(Rr:Rat)=c*h) :
  ANH W Hh Aa Bb (Rr ^ 2) (W ^ 2+Hh ^ 2) (Aa*W+Bb*Hh)=true↔(if ax*dx+ay*dy≤0 then ax*ax+ay*ay≤h*h else if dx*dx+dy*dy≤ax*dx+ay*dy then (ax-dx)*(ax-dx)+(ay-dy)*(ay-dy)≤h*h else (ax*dy-ay*dx)*(ax*dy-ay*dx)≤h*h*(dx*dx+dy*dy)):=by
 have c2:0<c*c:=Rat.mul_pos hc hc
 have c4:0<c*c*(c*c):=Rat.mul_pos c2 c2
 have kAl:((Aa*W+Bb*Hh:Int):Rat)=c*c*(ax*dx+ay*dy):=by rw[Rat.intCast_add,Rat.intCast_mul,Rat.intCast_mul,eW,eH,eA,eB];grind
 have kLe:((W ^ 2+Hh ^ 2:Int):Rat)=c*c*(dx*dx+dy*dy):=by rw[Rat.intCast_add,sqC,sqC,eW,eH];grind
 have kMo:((Rr ^ 2:Int):Rat)=c*c*(h*h):=by rw[sqC,eR];grind
 have k0:((0:Int):Rat)=c*c*0:=by rw[Rat.mul_zero];rfl
 have i1:=AGP c2 kAl k0
 have i2:=AGP c2 kLe kAl
 have i3:=AGP c2 (m:=Aa ^ 2+Bb ^ 2) (a:=ax*ax+ay*ay) (by rw[Rat.intCast_add,sqC,sqC,eA,eB];grind) kMo
 have i4:=AGP c2 (m:=(Aa-W) ^ 2+(Bb-Hh) ^ 2) (a:=(ax-dx)*(ax-dx)+(ay-dy)*(ay-dy)) (by rw[Rat.intCast_add,sqC,sqC,Rat.intCast_sub,Rat.intCast_sub,eA,eB,eW,eH];grind) kMo
 have i5:=AGP c4 (m:=(Aa*Hh-Bb*W) ^ 2) (n:=Rr ^ 2*(W ^ 2+Hh ^ 2)) (a:=(ax*dy-ay*dx)*(ax*dy-ay*dx)) (b:=h*h*(dx*dx+dy*dy)) (by rw[sqC,Rat.intCast_sub,Rat.intCast_mul,Rat.intCast_mul,eA,eB,eW,eH];grind) (by rw[Rat.intCast_mul,kMo,kLe];grind)
 unfold ANH
 by_cases h1:Aa*W+Bb*Hh≤0
 ·rw[if_pos h1,if_pos (i1.mp h1),decide_eq_true_iff];exact i3
 ·rw[if_neg h1,if_neg (fun w=>h1 (i1.mpr w))]
  by_cases h2:W ^ 2+Hh ^ 2≤Aa*W+Bb*Hh
  ·rw[if_pos h2,if_pos (i2.mp h2),decide_eq_true_iff];exact i4
  ·rw[if_neg h2,if_neg (fun w=>h2 (i2.mpr w)),decide_eq_true_iff];exact i5
instance (w:Rat) (z:P2 × P2) (x y:Rat):Decidable (ABR w z x y):=by unfold ABR;infer_instance
theorem ADL {U:Nat} {r:Rat} (h:At r 12 120) (hU:U≤12):(inP U (r.num,r.den)).natAbs≤1440:=AFB h hU
theorem ALS {w:Rat} (hw:Wd w) {z:P2 × P2} (hz:A12 z.1∧A12 z.2) {x y:Rat} {X Y:Int} {V:Nat} (hV:0<V) (hV2:V≤24) (eX:(X:Rat)=x*(V:Rat)) (eY:(Y:Rat)=y*(V:Rat)) (bX:X.natAbs≤5760) (bY:Y.natAbs≤5760):N2 [lnD w z,.int X,.int Y,.int (V:Int)]=.ok (.bool (decide (ABR w z x y))):=by
 have hok:=AJS hw hz
 obtain ⟨u0,u1,ud,_⟩:=AWP hok (show (ts5 w z).length≤1000 by show 5≤1000;decide)
 have hm:∀t∈ts5 w z,t.2 ∣ uP (ts5 w z):=ud
 have ea:=AFE (v:=z.1.1) (n:=z.1.1.num) (d:=z.1.1.den) (hok (z.1.1.num,z.1.1.den) (by simp[ts5])).2.1 (hm (z.1.1.num,z.1.1.den) (by simp[ts5])) (AC9 _)
 have eb:=AFE (v:=z.1.2) (n:=z.1.2.num) (d:=z.1.2.den) (hok (z.1.2.num,z.1.2.den) (by simp[ts5])).2.1 (hm (z.1.2.num,z.1.2.den) (by simp[ts5])) (AC9 _)
 have ec:=AFE (v:=z.2.1) (n:=z.2.1.num) (d:=z.2.1.den) (hok (z.2.1.num,z.2.1.den) (by simp[ts5])).2.1 (hm (z.2.1.num,z.2.1.den) (by simp[ts5])) (AC9 _)
 have ed:=AFE (v:=z.2.2) (n:=z.2.2.num) (d:=z.2.2.den) (hok (z.2.2.num,z.2.2.den) (by simp[ts5])).2.1 (hm (z.2.2.num,z.2.2.den) (by simp[ts5])) (AC9 _)
 have er:=AFE (v:=w / 2) (n:=w.num) (d:=w.den*2) (hok (hf w) (by simp[ts5])).2.1 (hm (hf w) (by simp[ts5])) (by
  have:=AC9 w
  rw[Rat.natCast_mul]
  have e2:((2:Nat):Rat)=2:=rfl
  rw[e2,←this]
  grind)
 have br:(inP (uP (ts5 w z)) (hf w)).natAbs≤1440:=by
  have h2:uP (ts5 w z) / (w.den*2)≤12:=Nat.le_trans (Nat.div_le_self _ _) u1
  show (w.num*((uP (ts5 w z) / (w.den*2):Nat):Int)).natAbs≤1440
  rw[Int.natAbs_mul,Int.natAbs_natCast]
  exact Nat.le_trans (Nat.mul_le_mul hw.num h2) (by decide)
 unfold lnD
 rw[AVZ (ADL hz.1.1 u1) (ADL hz.1.2 u1) (ADL hz.2.1 u1) (ADL hz.2.2 u1) br (by rw[Int.natAbs_natCast];exact u1) bX bY (by rw[Int.natAbs_natCast];exact hV2)]
 have er':((inP (uP (ts5 w z)) (hf w):Int):Rat)=w / 2*(uP (ts5 w z):Rat):=er
 generalize inP (uP (ts5 w z)) (hf w)=re at *
 generalize inP (uP (ts5 w z)) (z.1.1.num,z.1.1.den)=a at *
 generalize inP (uP (ts5 w z)) (z.1.2.num,z.1.2.den)=b at *
 generalize inP (uP (ts5 w z)) (z.2.1.num,z.2.1.den)=c at *
 generalize inP (uP (ts5 w z)) (z.2.2.num,z.2.2.den)=d at *
 generalize uP (ts5 w z)=U at *
 have hUp:(0:Rat)<(U:Rat):=Rat.natCast_pos.mpr u0
 have hVp:(0:Rat)<(V:Rat):=Rat.natCast_pos.mpr hV
 have key:=ARC (W:=(c-a)*(V:Int)) (Hh:=(d-b)*(V:Int)) (Aa:=X*(U:Int)-a*(V:Int)) (Bb:=Y*(U:Int)-b*(V:Int)) (Rr:=re*(V:Int)) (c:=(U:Rat)*(V:Rat)) (dx:=z.2.1-z.1.1) (dy:=z.2.2-z.1.2) (ax:=x-z.1.1) (ay:=y-z.1.2) (h:=w / 2) (Rat.mul_pos hUp hVp)
  (by rw[Rat.intCast_mul,Rat.intCast_sub,Rat.intCast_natCast,ea,ec];grind) (by rw[Rat.intCast_mul,Rat.intCast_sub,Rat.intCast_natCast,eb,ed];grind)
  (by rw[Rat.intCast_sub,Rat.intCast_mul,Rat.intCast_mul,Rat.intCast_natCast,Rat.intCast_natCast,ea,eX];grind) (by rw[Rat.intCast_sub,Rat.intCast_mul,Rat.intCast_mul,Rat.intCast_natCast,Rat.intCast_natCast,eb,eY];grind)
  (by rw[Rat.intCast_mul,Rat.intCast_natCast,er'];grind)
 rw[show x-z.1.1-(z.2.1-z.1.1)=x-z.2.1 by grind,show y-z.1.2-(z.2.2-z.1.2)=y-z.2.2 by grind]at key
 congr 2
 rw[Bool.eq_iff_iff,decide_eq_true_iff]
 exact key
theorem AGF {w:Rat} (hw:Wd w) {x y:Rat} {X Y:Int} {V:Nat} (hV:0<V) (hV2:V≤24) (eX:(X:Rat)=x*(V:Rat)) (eY:(Y:Rat)=y*(V:Rat)) (bX:X.natAbs≤5760) (bY:Y.natAbs≤5760) {o0:Option T}:∀(zs:List (P2 × P2)) (o4:Option T),(∀z∈zs,A12 z.1∧A12 z.2) →
  ∃r:SR,AD5 (Tr.gName 4) (sIf (bV (eF (A3 4 [] N2) (A0 (A1 4) (A0 (A1 1) (A0 (A1 2) (A0 (A1 3) A2)))))) (D2 (eC (.bool true))) B9) (zs.map (lnD w)) [o0,some (.int X),some (.int Y),some (.int (V:Int)),o4]=r∧(((zs.any fun z=>decide (ABR w z x y))=false∧∃ρ,r=.nx ρ)∨((zs.any fun z=>decide (ABR w z x y))=true∧r=.rt (.bool true)))
 | [],o4,_=>⟨_,rfl,.inl ⟨rfl,_,rfl⟩⟩
 | z::zs,o4,h=>by
  have hk:=ALS hw (h z List.mem_cons_self) hV hV2 eX eY bX bY
  have g:Tr.gName 4 (lnD w z) [o0,some (.int X),some (.int Y),some (.int (V:Int)),o4]=some [o0,some (.int X),some (.int Y),some (.int (V:Int)),some (lnD w z)]:=rfl
  have c:bV (eF (A3 4 [] N2) (A0 (A1 4) (A0 (A1 1) (A0 (A1 2) (A0 (A1 3) A2))))) [o0,some (.int X),some (.int Y),some (.int (V:Int)),some (lnD w z)]=.ok (decide (ABR w z x y)):=h_b (Ae0 (x:=lnD w z) (y:=.int X) (z:=.int Y) (w:=.int (V:Int)) rfl rfl rfl rfl hk)
  rw[List.any_cons]
  cases hd:decide (ABR w z x y) with
  | true =>
   rw[hd]at c
   refine ⟨.rt (.bool true),?_,.inr ⟨rfl,rfl⟩⟩
   rw[List.map_cons,AD5]
   have e:sIf (bV (eF (A3 4 [] N2) (A0 (A1 4) (A0 (A1 1) (A0 (A1 2) (A0 (A1 3) A2)))))) (D2 (eC (.bool true))) B9 [o0,some (.int X),some (.int Y),some (.int (V:Int)),some (lnD w z)]=.rt (.bool true):=AbU c (E6 h_c)
   simp only[g,e]
  | false =>
   rw[hd]at c
   obtain ⟨r,h1,h2⟩:=AGF hw hV hV2 eX eY bX bY (o0:=o0) zs (some (lnD w z)) fun u hu=>h u (List.mem_cons_of_mem _ hu)
   rw[Bool.false_or]
   exact ⟨r,ACA g (AW8 c rfl) h1,h2⟩
theorem AKF {w:Rat} (hw:Wd w) {x y:Rat} {X Y:Int} {V:Nat} (hV:0<V) (hV2:V≤24) (eX:(X:Rat)=x*(V:Rat)) (eY:(Y:Rat)=y*(V:Rat)) (bX:X.natAbs≤5760) (bY:Y.natAbs≤5760) {zs:List (P2 × P2)} (h:∀z∈zs,A12 z.1∧A12 z.2):Q0 [.list (zs.map (lnD w)),.int X,.int Y,.int (V:Int)]=.ok (.bool (zs.any fun z=>decide (ABR w z x y))):=by
 obtain ⟨r,h1,h2⟩:=AGF hw hV hV2 eX eY bX bY (o0:=some (.list (zs.map (lnD w)))) zs none h
 have key:J7 [some (.list (zs.map (lnD w))),some (.int X),some (.int Y),some (.int (V:Int)),none]=.rt (.bool (zs.any fun z=>decide (ABR w z x y))):=by
  unfold J7
  rcases h2 with ⟨ha,ρ,rfl⟩ | ⟨ha,rfl⟩
  ·rw[AGK (ts:=zs.map (lnD w)) (O8 rfl) h1,ha]
   exact E6 h_c
  ·rw[ha]
   unfold B2 AGA
   rw[O8 (ts:=zs.map (lnD w)) rfl]
   show (match AD5 (Tr.gName 4) (sIf (bV (eF (A3 4 [] N2) (A0 (A1 4) (A0 (A1 1) (A0 (A1 2) (A0 (A1 3) A2)))))) (D2 (eC (.bool true))) B9) (zs.map (lnD w)) [some (.list (zs.map (lnD w))),some (.int X),some (.int Y),some (.int (V:Int)),none]with | .nx ρ'=>D2 (eC (.bool false)) ρ' | r=>r)=_
   rw[h1]
 show clR (Tr.run 5 J7 [.list (zs.map (lnD w)),.int X,.int Y,.int (V:Int)])=_
 rw[E4 (ρ:=[some (.list (zs.map (lnD w))),some (.int X),some (.int Y),some (.int (V:Int)),none]) rfl key]
 rfl
theorem APH {ps:List (List P2 × Bool)} (h:∀q∈ps,GoodQ q):∀z∈T1 ps,A12 z.1∧A12 z.2:=fun z hz=>by
 obtain ⟨q,hq,hz⟩:=List.mem_flatMap.mp hz
 exact ADQ (h q hq).pts z hz
def strk (w:Rat) (ps:List (List P2 × Bool)) (x y:Rat):Bool:=(T1 ps).any fun z=>decide (ABR w z x y)
theorem AK1 {a b c:FE} {ρ:Ev} {i j k:Int} (h1:a ρ=.ok (.int i)) (h2:b ρ=.ok (.int j)) (h3:c ρ=.ok (.int k)):j9 leT leT a b c ρ=.ok (.bool (decide (i≤j)&&decide (j≤k))):=by
 have e1:leT (.int i) (.int j)=some (.bool (decide (i≤j))):=rfl
 have e2:leT (.int j) (.int k)=some (.bool (decide (j≤k))):=rfl
 unfold j9
 simp only[h1,h2,h3,R.bind,e1,R.of]
 cases decide (i≤j) with
 | true=>simp only[e2,R.of];rfl
 | false=>rfl
theorem ACF (i a b:Int):G9 [.int i,.int a,.int b]=.ok (.bool (decide (a≤i)&&decide (i≤b))):=by
 have e:O0 [some (.int i),some (.int a),some (.int b)]=.rt (.bool (decide (a≤i)&&decide (i≤b))):=by
  unfold O0
  exact E6 (ADI (ACR (x:=.int i) rfl rfl) (AK1 rfl rfl rfl))
 show clR (Tr.run 3 O0 [.int i,.int a,.int b])=_
 rw[E4 (ρ:=[some (.int i),some (.int a),some (.int b)]) rfl e]
 rfl
theorem AU8 (i:Int):U3 [.int i]=.ok (.bool (decide (1≤i)&&decide (i≤64))):=by
 have e:U2 [some (.int i)]=.rt (.bool (decide (1≤i)&&decide (i≤64))):=by
  unfold U2
  exact E6 (W3 (x:=.int i) rfl h_c h_c (ACF i 1 64))
 show clR (Tr.run 1 U2 [.int i])=_
 rw[E4 (ρ:=[some (.int i)]) rfl e]
 rfl
theorem AYK (i:Int):T5 [.int i]=.ok (.bool (decide (0≤i)&&decide (i≤15))):=by
 have e:g6 [some (.int i)]=.rt (.bool (decide (0≤i)&&decide (i≤15))):=by
  unfold g6
  exact E6 (W3 (x:=.int i) rfl h_c h_c (ACF i 0 15))
 show clR (Tr.run 1 g6 [.int i])=_
 rw[E4 (ρ:=[some (.int i)]) rfl e]
 rfl
def rT (r:List Int):T:=.tuple (r.map PyData.int)
def pT (p:List (List Int)):T:=.tuple (p.map rT)
theorem AK2 {n:Nat} (h1:1≤n) (h2:n≤64):U3 [.int (n:Int)]=.ok (.bool true):=by
 rw[AU8,decide_eq_true (by omega),decide_eq_true (by omega)];rfl
theorem AUS (x:Int):Nat.Coprime (2*x+1).natAbs 2:=by
 have h:(2*x+1).natAbs % 2=1:=by omega
 show Nat.gcd (2*x+1).natAbs 2=1
 rw[Nat.gcd_comm,Nat.gcd_rec,h]
 decide
def mid (x:Int):Rat:=⟨2*x+1,2,by decide,AUS x⟩
theorem AdQ (x:Int):RT (mid x)=.tuple [.int (2*x+1),.int 2]:=rfl
theorem AU9 (x:Int):((2*x+1:Int):Rat)=mid x*((2:Nat):Rat):=by
 have h:=AZN (U:=2) (r:=mid x) (Nat.dvd_refl 2)
 rw[←h]
 show _=(((2*x+1)*((2 / 2:Nat):Int):Int):Rat)
 congr 1
 omega
structure Cl (x:Int):Prop where
 lo:-4≤x
 hi:x≤9
theorem ASP {x:Int} (h:Cl x):At (mid x) 24 240:=by
 have:=h.lo
 have:=h.hi
 refine ⟨12*(2*x+1),?_,by omega⟩
 rw[Rat.intCast_mul,AU9]
 have e:((24:Int):Rat)=((2:Nat):Rat)*((12:Int):Rat):=by decide +kernel
 rw[e]
 grind
inductive Sp where
 | fill (odd:Bool) (zs:List (P2 × P2))
 | strk (w:Rat) (zs:List (P2 × P2))
def N4 (b:Bool):T:=if b then ARN else X2
noncomputable def SpT:Sp→T
 | .fill b zs=>.tuple [N4 b,.list (zs.map lnT)]
 | .strk w zs=>.tuple [.str (Str.ofString "stroke"),.list (zs.map (lnD w))]
def APP:Sp→Prop
 | .fill _ zs=>zs.length≤15∧∀z∈zs,A12 z.1∧A12 z.2
 | .strk w zs=>Wd w∧zs.length≤15∧∀z∈zs,A12 z.1∧A12 z.2
theorem AOC (b:Bool) (n:Int):AAL [N4 b,.int n]=.ok (.bool (ASV b n)):=by
 cases b with
 | false=>exact AL1 n
 | true=>exact ARF n
noncomputable def lvl (w:Rat) (z:P2 × P2) (y:Int):Bool:=match M8 [lnD w z,.int (2*y+1),.int 2] with
 | .ok (.bool b)=>b
 | _=>false
theorem APZ {w:Rat} (hw:Wd w) {z:P2 × P2} (hz:A12 z.1∧A12 z.2) {y:Int} (hy:Cl y):M8 [lnD w z,.int (2*y+1),.int 2]=.ok (.bool (lvl w z y)):=by
 have key:∃b,M8 [lnD w z,.int (2*y+1),.int 2]=.ok (.bool b):=by
  obtain ⟨u0,u1,ud,_⟩:=AWP (AJS hw hz) (by show 5≤1000;decide)
  have hy1:=hy.lo
  have hy2:=hy.hi
  have hY:(2*y+1).natAbs≤19:=by omega
  unfold lnD
  generalize inP (uP (ts5 w z)) (z.1.1.num,z.1.1.den)=a
  have hb:(inP (uP (ts5 w z)) (z.1.2.num,z.1.2.den)).natAbs≤1440:=ADL hz.1.2 u1
  revert hb
  generalize inP (uP (ts5 w z)) (z.1.2.num,z.1.2.den)=b
  intro hb
  generalize inP (uP (ts5 w z)) (z.2.1.num,z.2.1.den)=c
  have hd:(inP (uP (ts5 w z)) (z.2.2.num,z.2.2.den)).natAbs≤1440:=ADL hz.2.2 u1
  revert hd
  generalize inP (uP (ts5 w z)) (z.2.2.num,z.2.2.den)=d
  intro hd
  have hr:(inP (uP (ts5 w z)) (hf w)).natAbs≤1440:=by
   have h0:=AJS hw hz (hf w) (by unfold ts5;simp)
   unfold inP
   refine nab h0.1 (B:=12) ?_ (by decide)
   rw[Int.natAbs_natCast]
   exact Nat.le_trans (Nat.div_le_self _ _) u1
  revert hr
  generalize inP (uP (ts5 w z)) (hf w)=r
  intro hr
  generalize uP (ts5 w z)=u at u1
  have hu:((u:Nat):Int).natAbs≤12:=by rw[Int.natAbs_natCast];exact u1
  generalize 2*y+1=Y at hY
  have hmn:(if d<b then d else b).natAbs≤1440:=by split<;>assumption
  have hmx:(if d>b then d else b).natAbs≤1440:=by split<;>assumption
  have b1:((if d<b then d else b)-r).natAbs≤2880:=AOE hmn hr (by decide)
  have b2:((if d>b then d else b)+r).natAbs≤2880:=Af8 hmx hr (by decide)
  have e:R3 [some (.tuple [.int a,.int b,.int c,.int d,.int r,.int (u:Int)]),some (.int Y),some (.int 2),none,none,none,none,none,none]=.rt (.bool (decide (((if d<b then d else b)-r)*2≤Y*(u:Int))&&decide (Y*(u:Int)≤((if d>b then d else b)+r)*2))):=by
   unfold R3
   rw[AAZ (v:=.tuple [.int a,.int b,.int c,.int d,.int r,.int (u:Int)]) (ρ':=[some (.tuple [.int a,.int b,.int c,.int d,.int r,.int (u:Int)]),some (.int Y),some (.int 2),some (.int a),some (.int b),some (.int c),some (.int d),some (.int r),some (.int (u:Int))]) rfl rfl]
   refine E6 (AK1 (h_2 (h_2 (AbM (x:=.int b) (y:=.int d) (z:=.int (if d<b then d else b)) rfl rfl rfl) (y:=.int r) rfl (v6 _ _)) (y:=.int 2) rfl (v7 b1)) (h_2 (x:=.int Y) (y:=.int (u:Int)) rfl rfl (v7 hY)) (h_2 (h_2 (AbM (x:=.int b) (y:=.int d) (z:=.int (if d>b then d else b)) rfl rfl rfl) (y:=.int r) rfl (G8 _ _)) (y:=.int 2) rfl (v7 b2)))
  refine ⟨(decide (((if d<b then d else b)-r)*2≤Y*(u:Int))&&decide (Y*(u:Int)≤((if d>b then d else b)+r)*2)),?_⟩
  show clR (Tr.run 9 R3 [.tuple [.int a,.int b,.int c,.int d,.int r,.int (u:Int)],.int Y,.int 2])=_
  rw[E4 (ρ:=[some (.tuple [.int a,.int b,.int c,.int d,.int r,.int (u:Int)]),some (.int Y),some (.int 2),none,none,none,none,none,none]) rfl e]
  rfl
 obtain ⟨b,hb⟩:=key
 unfold lvl
 rw[hb]
noncomputable def inS:Sp→Int→Int→Bool
 | .fill b zs,x,y=>ASV b (AW1 (mid x) (zs.flatMap fun z=>AFY z (mid y)))
 | .strk w zs,x,y=>(zs.filter fun z=>lvl w z y).any fun z=>decide (ABR w z (mid x) (mid y))
theorem W8 {test:FT} {r:Ev} {p:Int→Bool} (cs:List Int) (h:∀x∈cs,test (some (.int x)::r)=.ok (p x)):C4 (Tr.gName 0) test (A1 0) (none::r) (cs.map PyData.int)=.ok ((cs.filter p).map PyData.int):=by
 rw[AHF (f:=fun t=>match t with
  | .int x=>p x
  | _=>false) (cs.map PyData.int) fun t ht=>?_]
 ·rw[List.filter_map];rfl
 ·obtain ⟨x,hx,rfl⟩:=List.mem_map.mp ht
  exact ⟨h x hx,rfl⟩
noncomputable def lvT (y:Int) (t:T):Bool:=match M8 [t,.int (2*y+1),.int 2] with
 | .ok (.bool b)=>b
 | _=>false
theorem ARS {e:FE} {ρ:Ev} {x:Int} (h:e ρ=.ok (.int x)):e2 E9 (e2 C7 (eC (.int 2)) e) (eC (.int 1)) ρ=.ok (.int (2*x+1)):=h_2 (h_2 h_c h (v7 (K:=2) (by decide))) h_c (G8 _ _)
abbrev B3 (cs:List Int):T:=.list (cs.map PyData.int)
theorem AN7 {w:Rat} {zs:List (P2 × P2)} (hs:APP (.strk w zs)) {y:Int} (hy:Cl y) {cs:List Int} (hl:cs.length≤1000) (hc:∀x∈cs,Cl x):J5 [SpT (.strk w zs),.int y,B3 cs]=.ok (B3 (cs.filter fun x=>inS (.strk w zs) x y)):=by
 obtain ⟨hw,hz,ha⟩:=hs
 have hy1:=hy.lo
 have hy2:=hy.hi
 have c1:C4 (Tr.gName 0) (bV (eF (A3 3 [] M8) (A0 (A1 0) (A0 (A1 1) (A0 (eC (.int 2)) A2))))) (A1 0) [none,some (.int (2*y+1))] (zs.map (lnD w))=.ok ((zs.filter fun z=>lvl w z y).map (lnD w)):=by
  rw[AHF (f:=lvT y) (zs.map (lnD w)) fun t ht=>?_]
  ·rw[List.filter_map];rfl
  ·obtain ⟨z,hz',rfl⟩:=List.mem_map.mp ht
   exact ⟨h_b (W3 (x:=lnD w z) (y:=.int (2*y+1)) (z:=.int 2) rfl rfl rfl (APZ hw (ha z hz') hy)),rfl⟩
 have e:D7 [some (SpT (.strk w zs)),some (.int y),some (B3 cs),none,none,none,none,none]=.rt (B3 (cs.filter fun x=>inS (.strk w zs) x y)):=by
  unfold D7
  rw[AAZ (v:=SpT (.strk w zs)) (ρ':=[some (SpT (.strk w zs)),some (.int y),some (B3 cs),some (.str (Str.ofString "stroke")),some (.list (zs.map (lnD w))),none,none,none]) rfl rfl]
  rw[O1 (v:=.int (2*y+1)) (ρ':=[some (SpT (.strk w zs)),some (.int y),some (B3 cs),some (.str (Str.ofString "stroke")),some (.list (zs.map (lnD w))),some (.int (2*y+1)),none,none]) (ARS rfl) rfl]
  refine AOG (h_b (h_2 (x:=.str (Str.ofString "stroke")) (y:=.str (Str.ofString "stroke")) rfl rfl (by kernel_rfl))) ?_
  rw[O1 (v:=.list ((zs.filter fun z=>lvl w z y).map (lnD w))) (ρ':=[some (SpT (.strk w zs)),some (.int y),some (B3 cs),some (.str (Str.ofString "stroke")),some (.list (zs.map (lnD w))),some (.int (2*y+1)),some (.list ((zs.filter fun z=>lvl w z y).map (lnD w))),none]) (J1 (O8 rfl) (by rw[List.length_map];omega) c1) rfl]
  refine E6 (J1 (O8 (ts:=cs.map PyData.int) rfl) (by rw[List.length_map];omega) ?_)
  show C4 _ _ _ [none,some (.list ((zs.filter fun z=>lvl w z y).map (lnD w))),some (.int (2*y+1))] _=_
  refine W8 cs fun x hx=>?_
  have hx1:=(hc x hx).lo
  have hx2:=(hc x hx).hi
  exact h_b (Ae0 (x:=.list ((zs.filter fun z=>lvl w z y).map (lnD w))) (y:=.int (2*x+1)) (z:=.int (2*y+1)) (w:=.int 2) rfl (ARS rfl) rfl rfl (AKF hw (V:=2) (by decide) (by decide) (AU9 x) (AU9 y) (by omega) (by omega) fun z hz'=>ha z (List.mem_filter.mp hz').1))
 show clR (Tr.run 8 D7 [SpT (.strk w zs),.int y,B3 cs])=_
 rw[E4 (ρ:=[some (SpT (.strk w zs)),some (.int y),some (B3 cs),none,none,none,none,none]) rfl e]
 rfl
theorem AOL (b:Bool):eqT (N4 b) (.str (Str.ofString "stroke"))=some (.bool false):=by
 cases b with
 | false=>kernel_rfl
 | true=>kernel_rfl
theorem AZX (b:Bool):ASV b 0=false:=by cases b<;>decide
theorem AG5 {α:Type} {f:α→T} (l:List α):N9 (.list (l.map f))=some (!l.isEmpty):=by
 cases l<;>rfl
theorem AP1 {b:Bool} {zs:List (P2 × P2)} (hs:APP (.fill b zs)) {y:Int} (hy:Cl y) {cs:List Int} (hl:cs.length≤1000) (hc:∀x∈cs,Cl x):J5 [SpT (.fill b zs),.int y,B3 cs]=.ok (B3 (cs.filter fun x=>inS (.fill b zs) x y)):=by
 obtain ⟨hz,ha⟩:=hs
 have tl:(zs.flatMap fun z=>AFY z (mid y)).length≤1000:=by
  have:∀l:List (P2 × P2),(l.flatMap fun z=>AFY z (mid y)).length≤l.length:=by
   intro l
   induction l with
   | nil=>simp
   | cons z l ih =>
    rw[List.flatMap_cons,List.length_append,List.length_cons]
    have:(AFY z (mid y)).length≤1:=AN5 ..
    omega
  have:=this zs
  omega
 have k1:=AGV ha hz (ASP hy)
 have e:D7 [some (SpT (.fill b zs)),some (.int y),some (B3 cs),none,none,none,none,none]=.rt (B3 (cs.filter fun x=>inS (.fill b zs) x y)):=by
  unfold D7
  rw[AAZ (v:=SpT (.fill b zs)) (ρ':=[some (SpT (.fill b zs)),some (.int y),some (B3 cs),some (N4 b),some (.list (zs.map lnT)),none,none,none]) rfl rfl]
  rw[O1 (v:=.int (2*y+1)) (ρ':=[some (SpT (.fill b zs)),some (.int y),some (B3 cs),some (N4 b),some (.list (zs.map lnT)),some (.int (2*y+1)),none,none]) (ARS rfl) rfl]
  rw[G6 (h_b (h_2 (x:=N4 b) rfl rfl (AOL b)))]
  generalize htr:(zs.flatMap fun z=>AFY z (mid y))=tr at k1 tl
  rw[O1 (v:=.list (tr.map ACV)) (ρ':=[some (SpT (.fill b zs)),some (.int y),some (B3 cs),some (N4 b),some (.list (zs.map lnT)),some (.int (2*y+1)),none,some (.list (tr.map ACV))]) (AE3 (x:=.list (zs.map lnT)) (y:=RT (mid y)) rfl (ALP (x:=.int (2*y+1)) rfl rfl) k1) rfl]
  refine E6 ?_
  by_cases h0:tr=[]
  ·subst h0
   refine (APQ (r:=.ok (.list [])) (by show R.of (N9 (.list []))=_;rfl) rfl).trans ?_
   have:(cs.filter fun x=>inS (.fill b zs) x y)=[]:=by
    rw[List.filter_eq_nil_iff]
    intro x _
    show ¬(ASV b (AW1 (mid x) (zs.flatMap fun z=>AFY z (mid y)))=true)
    rw[htr]
    show ¬(ASV b 0=true)
    rw[AZX]
    decide
   rw[this]
   rfl
  ·have ne:tr.isEmpty=false:=by cases tr with
    | nil=>exact absurd rfl h0
    | cons=>rfl
   refine AS7 (by show R.of (N9 (.list (tr.map ACV)))=_;rw[AG5,ne];rfl) ?_
   refine J1 (O8 (ts:=cs.map PyData.int) rfl) (by rw[List.length_map];omega) ?_
   show C4 _ _ _ [none,some (N4 b),some (.list (tr.map ACV))] _=_
   refine W8 cs fun x hx=>?_
   have q:=ASE tl (ASP (hc x hx))
   rw[AdQ]at q
   have q2:=AOC b (AW1 (mid x) tr)
   show _=R.ok (ASV b (AW1 (mid x) (zs.flatMap fun z=>AFY z (mid y))))
   rw[htr]
   exact h_b (AE3 (x:=N4 b) (y:=.int (AW1 (mid x) tr)) rfl (AE3 (x:=.list (tr.map ACV)) (y:=.tuple [.int (2*x+1),.int 2]) rfl (ALP (ARS rfl) rfl) q) q2)
 show clR (Tr.run 8 D7 [SpT (.fill b zs),.int y,B3 cs])=_
 rw[E4 (ρ:=[some (SpT (.fill b zs)),some (.int y),some (B3 cs),none,none,none,none,none]) rfl e]
 rfl
theorem AX5 {s:Sp} (hs:APP s) {y:Int} (hy:Cl y) {cs:List Int} (hl:cs.length≤1000) (hc:∀x∈cs,Cl x):J5 [SpT s,.int y,B3 cs]=.ok (B3 (cs.filter fun x=>inS s x y)):=by
 cases s with
 | fill b zs=>exact AP1 hs hy hl hc
 | strk w zs=>exact AN7 hs hy hl hc
noncomputable def inA (ss:List Sp) (x y:Int):Bool:=ss.all fun s=>inS s x y
noncomputable abbrev caB:FS:=(B2 (sIf (P5 (bV (A1 2))) AbO B9) (C0 (Tr.gName 2) (eF (A3 3 [] J5) (A0 (A1 3) (A0 (A1 1) (A0 (A1 2) A2))))))
theorem ALT {o0:Option T} {y:Int} (hy:Cl y):∀(ss:List Sp) (cs:List Int) (o3:Option T),(∀s∈ss,APP s)→cs.length≤1000→(∀x∈cs,Cl x)→∃o3',AD5 (Tr.gName 3) caB (ss.map SpT) [o0,some (.int y),some (B3 cs),o3]=.nx [o0,some (.int y),some (B3 (cs.filter fun x=>inA ss x y)),o3']
 | [],cs,o3,_,_,_=>⟨o3,by
  show SR.nx _=_
  have:(cs.filter fun x=>inA [] x y)=cs:=List.filter_eq_self.mpr fun _ _=>rfl
  rw[this]⟩
 | s::ss,cs,o3,hs,hl,hc=>by
  by_cases h0:cs=[]
  ·subst h0
   refine ⟨some (SpT s),?_⟩
   have hb:caB [o0,some (.int y),some (B3 []),some (SpT s)]=.bk [o0,some (.int y),some (B3 []),some (SpT s)]:=by
    unfold caB B2
    rw[AbU (c:=P5 (bV (A1 2))) (s:=AbO) (u:=B9) (r:=.bk [o0,some (.int y),some (B3 []),some (SpT s)]) rfl rfl]
   show (match caB [o0,some (.int y),some (B3 []),some (SpT s)] with
     | .nx ρ2=>AD5 (Tr.gName 3) caB (ss.map SpT) ρ2
     | .ct ρ2=>AD5 (Tr.gName 3) caB (ss.map SpT) ρ2
     | .bk ρ2=>.nx ρ2
     | r=>r)=_
   rw[hb]
   rfl
  ·have ne:cs.isEmpty=false:=by cases cs with
    | nil=>exact absurd rfl h0
    | cons=>rfl
   obtain ⟨o3',h⟩:=ALT hy ss (cs.filter fun x=>inS s x y) (some (SpT s)) (fun s' hs'=>hs s' (List.mem_cons_of_mem _ hs')) (Nat.le_trans (List.length_filter_le _ _) hl) fun x hx=>hc x (List.mem_filter.mp hx).1
   refine ⟨o3',?_⟩
   have e2:((cs.filter fun x=>inS s x y).filter fun x=>inA ss x y)=cs.filter fun x=>inA (s::ss) x y:=by
    rw[List.filter_filter]
    congr 1
    funext x
    show _=(inS s x y&&inA ss x y)
    exact Bool.and_comm _ _
   rw[e2]at h
   refine ACA (ρ1:=[o0,some (.int y),some (B3 cs),some (SpT s)]) rfl ?_ h
   unfold caB
   rw[G6 (W4 (k:=true) (by show R.of (N9 (.list (cs.map PyData.int)))=_;rw[AG5,ne];rfl))]
   exact S1 (W3 (x:=SpT s) (y:=.int y) (z:=B3 cs) rfl rfl rfl (AX5 (hs s (List.mem_cons_self ..)) hy hl hc))
theorem Ae9 {ss:List Sp} (hs:∀s∈ss,APP s) {y:Int} (hy:Cl y) {cs:List Int} (hl:cs.length≤1000) (hc:∀x∈cs,Cl x):D6 [.list (ss.map SpT),.int y,B3 cs]=.ok (B3 (cs.filter fun x=>inA ss x y)):=by
 obtain ⟨o3,h⟩:=ALT (o0:=some (.list (ss.map SpT))) hy ss cs none hs hl hc
 have e:D5 [some (.list (ss.map SpT)),some (.int y),some (B3 cs),none]=.rt (B3 (cs.filter fun x=>inA ss x y)):=by
  unfold D5
  rw[AGK (O8 rfl) h]
  exact E6 rfl
 show clR (Tr.run 4 D5 [.list (ss.map SpT),.int y,B3 cs])=_
 rw[E4 (ρ:=[some (.list (ss.map SpT)),some (.int y),some (B3 cs),none]) rfl e]
 rfl
noncomputable def T6:List (List Sp)→Nat→Int→Int→Option Nat
 | [],_,_,_=>none
 | d::ds,k,x,y=>match T6 ds (k+1) x y with
  | some i=>some i
  | none=>if inA d x y=true then some k else none
def i7:Option Nat→T
 | none=>.none
 | some n=>.int (n:Int)
def S8 (l:Int) (w:Nat):List Int:=(List.range w).map fun (c:Nat)=>l+(c:Int)
theorem V8 {l x:Int} {w:Nat} (h:x∈S8 l w):l≤x∧x<l+w:=by
 obtain ⟨c,hc,rfl⟩:=List.mem_map.mp h
 have:=List.mem_range.mp hc
 omega
theorem AJH {l x:Int} {w:Nat} (h1:l≤x) (h2:x<l+w):x∈S8 l w:=by
 refine List.mem_map.mpr ⟨(x-l).toNat,List.mem_range.mpr (by omega),by omega⟩
theorem m8 (l:Int) (w:Nat):L1 l w=(S8 l w).map PyData.int:=by
 unfold L1 S8
 rw[List.map_map]
 rfl
theorem AKO (m:Nat):AB3 (m+1)=.int (m:Int)::AB3 m:=by
 unfold AB3
 rw[List.range_succ_eq_map,List.map_cons,List.map_map]
 congr 1
 ·congr 1
  omega
 ·apply List.map_congr_left
  intro i _
  show PyData.int _=PyData.int _
  congr 1
  simp only[Nat.succ_eq_add_one]
  omega
theorem AU5 {w k:Nat} {f:Nat→T} {v:T} (hk:k<w):((List.range w).map f).set k v=(List.range w).map fun c=>if c=k then v else f c:=by
 apply List.ext_getElem
 ·simp
 ·intro i h1 h2
  rw[List.getElem_set]
  simp only[List.getElem_map,List.getElem_range]
  by_cases h:k=i
  ·subst h;simp
  ·rw[if_neg h,if_neg (fun z=>h z.symm)]
theorem Aa7 {w:Nat} {k:Int} {f:Nat→T} (h0:0≤k) (h1:k<w):ixT (.list ((List.range w).map f)) (.int k)=some (f k.toNat):=by
 obtain ⟨n,rfl⟩:=Int.eq_ofNat_of_zero_le h0
 show atI ((List.range w).map f) (n:Int)=_
 refine AEM ?_
 rw[List.getElem?_map,List.getElem?_range (by omega)]
 rfl
noncomputable abbrev riI:FB:=AbT (e2 U8 (A1 7) (A1 2)) (A1 6)
theorem AK4 {o0 o1 o3 o5:Option T} {l:Int} {w m:Nat}:∀(cs:List Int) (o7:Option T),(∀x∈cs,l≤x∧x<l+w)→∃p7:Option T,∀(ad:Nat) (f:Nat→T),
  O4 (fun t ρ=>(Tr.gName 7 t ρ).bind fun ρ'=>if J3 4 ad ρ'=true then some ρ' else none) riI (cs.map PyData.int) ad [o0,o1,some (.int l),o3,some (E8 ad),o5,some (.int (m:Int)),o7] ((List.range w).map f) =
  .nx [o0,o1,some (.int l),o3,some (E8 ad),o5,some (.int (m:Int)),p7] ((List.range w).map fun (c:Nat)=>if l+(c:Int)∈cs then .int (m:Int) else f c)
 | [],o7,_=>⟨o7,fun ad f=>by
  show BR.nx _ _=_
  congr 1⟩
 | x::cs,o7,h=>by
  obtain ⟨p7,ih⟩:=AK4 cs (some (.int x)) fun z hz=>h z (List.mem_cons_of_mem _ hz)
  refine ⟨p7,fun ad f=>?_⟩
  have hx:=h x (List.mem_cons_self ..)
  have hb:riI ad [o0,o1,some (.int l),o3,some (E8 ad),o5,some (.int (m:Int)),some (.int x)] ((List.range w).map f)=.nx [o0,o1,some (.int l),o3,some (E8 ad),o5,some (.int (m:Int)),some (.int x)] ((List.range w).map fun c=>if c=(x-l).toNat then .int (m:Int) else f c):=by
   show (if 0≤x-l∧x-l<(((List.range w).map f).length:Int) then BR.nx _ (((List.range w).map f).set (x-l).toNat (.int (m:Int))) else BR.bad)=_
   rw[if_pos (by rw[List.length_map,List.length_range];omega),AU5 (by omega)]
  refine Z1 (i:=4) (ρ1:=[o0,o1,some (.int l),o3,some (E8 ad),o5,some (.int (m:Int)),some (.int x)]) rfl rfl hb ((ih ad _).trans ?_)
  congr 1
  apply List.map_congr_left
  intro c hc
  have:=List.mem_range.mp hc
  by_cases h1:l+(c:Int)∈cs
  ·rw[if_pos h1,if_pos (List.mem_cons_of_mem _ h1)]
  ·rw[if_neg h1]
   by_cases h2:c=(x-l).toNat
   ·rw[if_pos h2,if_pos (by rw[show l+(c:Int)=x by omega];exact List.mem_cons_self ..)]
   ·rw[if_neg h2,if_neg]
    intro z
    rcases List.mem_cons.mp z with z | z
    ·exact h2 (by omega)
    ·exact h1 z
noncomputable abbrev shT (d:List Sp):T:=.list (d.map SpT)
noncomputable abbrev ALM (ds:List (List Sp)) (m:Nat) (l y:Int) (c:Nat):T:=i7 (T6 (ds.drop m) m (l+(c:Int)) y)
noncomputable abbrev P7 (ds:List (List Sp)) (m:Nat) (l y:Int) (w:Nat):List Int:=(S8 l w).filter fun x=>(T6 (ds.drop m) m x y).isNone
noncomputable abbrev riB:FB:=(w6 (AHA 4 (iOf A9 (eF (A3 3 [] D6) (A0 (e2 ixT (A1 0) (A1 6)) (A0 (A1 1) (A0 (A1 5) A2))))) (Tr.gName 7) riI) (AKG 4 5 (E2 (iOf A9 (A1 5)) [none,some 4,some 2] (Tr.gName 0) (bV (e2 isT (e2 ixT (A1 1) (e2 U8 (A1 0) (A1 2))) (eC .none))) (A1 0))))
theorem AJ0 (ds:List (List Sp)) (m:Nat) (l y:Int) (w:Nat):(P7 ds m l y w).length≤w:=Nat.le_trans (List.length_filter_le _ _) (by unfold S8;simp)
theorem AZ5 (o:Option Nat):isT (i7 o) .none=some (.bool o.isNone):=by cases o<;>rfl
theorem AKN (cs:List Int):AAW (cs.map PyData.int)=true:=by
 unfold AAW
 rw[List.all_map]
 exact List.all_eq_true.mpr fun _ _=>rfl
theorem AJ2 {ds:List (List Sp)} {m:Nat} (hm:m<ds.length) (x y:Int):T6 (ds.drop m) m x y=match T6 (ds.drop (m+1)) (m+1) x y with
  | some i=>some i
  | none=>if inA ds[m] x y=true then some m else none:=by
 rw[List.drop_eq_getElem_cons hm]
 rfl
theorem AU2 {ds:List (List Sp)} {m:Nat} (hm:m<ds.length) (hd:∀d∈ds,∀s∈d,APP s) {l y:Int} {w:Nat} (hy:Cl y) (hw:w≤64) (hc:∀x∈S8 l w,Cl x) (o7:Option T):∃p7:Option T,∀ad:Nat,
  riB ad [some (.list (ds.map shT)),some (.int y),some (.int l),some (.int (w:Int)),some (E8 ad),some (B3 (P7 ds (m+1) l y w)),some (.int (m:Int)),o7] ((List.range w).map (ALM ds (m+1) l y)) =
  .nx [some (.list (ds.map shT)),some (.int y),some (.int l),some (.int (w:Int)),some (E8 ad),some (B3 (P7 ds m l y w)),some (.int (m:Int)),p7] ((List.range w).map (ALM ds m l y)):=by
 have hbl:(S8 l w).length=w:=by unfold S8;simp
 have hin:∀x∈P7 ds (m+1) l y w,x∈S8 l w:=fun x hx=>(List.mem_filter.mp hx).1
 have hca:D6 [shT ds[m],.int y,B3 (P7 ds (m+1) l y w)]=.ok (B3 ((P7 ds (m+1) l y w).filter fun x=>inA ds[m] x y)) :=
  Ae9 (hd _ (List.getElem_mem hm)) hy (by have:=AJ0 ds (m+1) l y w;omega) fun x hx=>hc x (hin x hx)
 obtain ⟨p7,h7⟩:=AK4 (o0:=some (.list (ds.map shT))) (o1:=some (.int y)) (o3:=some (.int (w:Int))) (o5:=some (B3 (P7 ds (m+1) l y w))) (l:=l) (w:=w) (m:=m) ((P7 ds (m+1) l y w).filter fun x=>inA ds[m] x y) o7 fun x hx=>V8 (hin x (List.mem_filter.mp hx).1)
 refine ⟨p7,fun ad=>?_⟩
 have eA:((List.range w).map fun (c:Nat)=>if l+(c:Int)∈((P7 ds (m+1) l y w).filter fun x=>inA ds[m] x y) then PyData.int (m:Int) else ALM ds (m+1) l y c)=(List.range w).map (ALM ds m l y):=by
  apply List.map_congr_left
  intro c hcm
  have hcw:=List.mem_range.mp hcm
  have hmem:l+(c:Int)∈S8 l w:=AJH (by omega) (by omega)
  show _=i7 (T6 (ds.drop m) m (l+(c:Int)) y)
  rw[AJ2 hm]
  cases e:T6 (ds.drop (m+1)) (m+1) (l+(c:Int)) y with
  | some i =>
   rw[if_neg]
   ·show i7 (T6 (ds.drop (m+1)) (m+1) (l+(c:Int)) y)=_
    rw[e]
   ·intro z
    have:=(List.mem_filter.mp (List.mem_filter.mp z).1).2
    rw[e]at this
    cases this
  | none =>
   have hb:l+(c:Int)∈P7 ds (m+1) l y w:=List.mem_filter.mpr ⟨hmem,by rw[e];rfl⟩
   by_cases hi:inA ds[m] (l+(c:Int)) y=true
   ·rw[if_pos (List.mem_filter.mpr ⟨hb,hi⟩),if_pos hi]
    rfl
   ·rw[if_neg (show ¬(l+(c:Int)∈((P7 ds (m+1) l y w).filter fun x=>inA ds[m] x y)) from fun z=>hi (List.mem_filter.mp z).2),if_neg hi]
    show i7 (T6 (ds.drop (m+1)) (m+1) (l+(c:Int)) y)=_
    rw[e]
 have eB:((P7 ds (m+1) l y w).filter fun x=>(T6 (ds.drop m) m x y).isNone)=P7 ds m l y w:=by
  show (((S8 l w).filter _).filter _)=_
  rw[List.filter_filter]
  congr 1
  funext x
  rw[AJ2 hm]
  cases e:T6 (ds.drop (m+1)) (m+1) x y with
  | some i=>rfl
  | none=>exact Bool.and_true _
 have ix0:ixT (.list (ds.map shT)) (.int (m:Int))=some (shT ds[m]):=by
  show atI (ds.map shT) (m:Int)=_
  refine AEM ?_
  rw[List.getElem?_map,List.getElem?_eq_getElem hm]
  rfl
 refine X6 (ρ':=[some (.list (ds.map shT)),some (.int y),some (.int l),some (.int (w:Int)),some (E8 ad),some (B3 (P7 ds (m+1) l y w)),some (.int (m:Int)),p7]) (acc':=(List.range w).map (ALM ds m l y)) (AAQ (O8 (W3 (x:=shT ds[m]) (y:=.int y) (z:=B3 (P7 ds (m+1) l y w)) (h_2 (x:=.list (ds.map shT)) (y:=.int (m:Int)) rfl rfl ix0) rfl rfl hca)) ((h7 ad _).trans (by rw[eA]))) ?_
 have c2:E2 (iOf A9 (A1 5)) [none,some 4,some 2] (Tr.gName 0) (bV (e2 isT (e2 ixT (A1 1) (e2 U8 (A1 0) (A1 2))) (eC .none))) (A1 0) [some (.list (ds.map shT)),some (.int y),some (.int l),some (.int (w:Int)),some (.list ((List.range w).map (ALM ds m l y))),some (B3 (P7 ds (m+1) l y w)),some (.int (m:Int)),p7]=.ok (B3 (P7 ds m l y w)):=by
  refine J1 (O8 (ts:=(P7 ds (m+1) l y w).map PyData.int) rfl) (by rw[List.length_map];have:=AJ0 ds (m+1) l y w;omega) ?_
  show C4 _ _ _ [none,some (.list ((List.range w).map (ALM ds m l y))),some (.int l)] _=_
  rw[←eB]
  refine W8 _ fun x hx=>?_
  have hx':=V8 (hin x hx)
  refine h_b (h_2 (x:=i7 (T6 (ds.drop m) m x y)) (h_2 (x:=.list ((List.range w).map (ALM ds m l y))) (y:=.int (x-l)) rfl (h_2 (x:=.int x) (y:=.int l) rfl rfl (v6 _ _)) ?_) h_c (AZ5 _))
  rw[Aa7 (by omega) (by omega)]
  show some (i7 (T6 (ds.drop m) m (l+((x-l).toNat:Int)) y))=_
  rw[show l+((x-l).toNat:Int)=x by omega]
 show AKG 4 5 _ ad _ _=_
 unfold AKG
 show (match E2 (iOf A9 (A1 5)) [none,some 4,some 2] (Tr.gName 0) (bV (e2 isT (e2 ixT (A1 1) (e2 U8 (A1 0) (A1 2))) (eC .none))) (A1 0) [some (.list (ds.map shT)),some (.int y),some (.int l),some (.int (w:Int)),some (.list ((List.range w).map (ALM ds m l y))),some (B3 (P7 ds (m+1) l y w)),some (.int (m:Int)),p7] with
  | .ok (.list xs)=>_
  | _=>_)=_
 rw[c2]
 show (if AAW ((P7 ds m l y w).map PyData.int)=true∧_ then _ else _)=_
 rw[if_pos ⟨AKN _,W5 rfl⟩]
 rfl
theorem AOX {ds:List (List Sp)} (hd:∀d∈ds,∀s∈d,APP s) {l y:Int} {w:Nat} (hy:Cl y) (hw:w≤64) (hc:∀x∈S8 l w,Cl x):∀(m:Nat) (o6 o7:Option T),m≤ds.length→∃p6 p7:Option T,∀ad:Nat,
  O4 (fun t ρ=>(Tr.gName 6 t ρ).bind fun ρ'=>if J3 4 ad ρ'=true then some ρ' else none) riB (AB3 m) ad [some (.list (ds.map shT)),some (.int y),some (.int l),some (.int (w:Int)),some (E8 ad),some (B3 (P7 ds m l y w)),o6,o7] ((List.range w).map (ALM ds m l y)) =
  .nx [some (.list (ds.map shT)),some (.int y),some (.int l),some (.int (w:Int)),some (E8 ad),some (B3 (P7 ds 0 l y w)),p6,p7] ((List.range w).map (ALM ds 0 l y))
 | 0,o6,o7,_=>⟨o6,o7,fun ad=>rfl⟩
 | m+1,o6,o7,hm=>by
  obtain ⟨p7,h1⟩:=AU2 (m:=m) hm hd hy hw hc o7
  obtain ⟨q6,q7,h2⟩:=AOX hd hy hw hc m (some (.int (m:Int))) p7 (by omega)
  refine ⟨q6,q7,fun ad=>?_⟩
  rw[AKO]
  exact Z1 (i:=4) (ρ1:=[some (.list (ds.map shT)),some (.int y),some (.int l),some (.int (w:Int)),some (E8 ad),some (B3 (P7 ds (m+1) l y w)),some (.int (m:Int)),o7]) rfl rfl (h1 ad) (h2 ad)
noncomputable def who (ds:List (List Sp)) (x y:Int):Option Nat:=T6 ds 0 x y
noncomputable def AI4 (ds:List (List Sp)) (l y:Int) (w:Nat):T:=.list ((List.range w).map fun (c:Nat)=>i7 (who ds (l+(c:Int)) y))
theorem ARV {i:Nat} {t:FE} {tb:FB} {rest:FS} {ρ r:Ev} {xs:List T} (hi:i<ρ.length) (ht:t ρ=.ok (.list xs)) (h:∀a,∃ρ' acc,tb a (ρ.set i (some (E8 a))) xs=.nx ρ' acc∧ρ'.set i (some (.list acc))=r):B2 (t5 i t tb) rest ρ=rest r:=by
 unfold B2;rw[ADD hi ht h]
theorem AdX {i j:Int} (h:-1000000≤i∧i≤j∧j≤i+1000000∧j<1000000):lr2 [.int i,.int j]=some (.list (L1 i (j-i).toNat)):=by
 unfold lr2
 dsimp only
 rw[if_pos h]
theorem AYQ {n:Nat} (h:n≤100):Ab7 [.int (n:Int)]=some (AB3 n):=by
 unfold Ab7
 dsimp only
 rw[if_pos (by omega)]
 rfl
theorem AZV {f:List T→Option (List T)} {a:FE} {ρ:Ev} {x:T} {ts:List T} (h1:a ρ=.ok x) (h:f [x]=some ts):iN f (A0 a A2) ρ=.ok ts:=by
 unfold iN A0 A2
 rw[h1]
 show R.of (f [x])=_
 rw[h]
 rfl
theorem ALG {ds:List (List Sp)} (hd:∀d∈ds,∀s∈d,APP s) (hn:ds.length≤100) {l y:Int} {w:Nat} (hy:Cl y) (hw:w≤64) (hl0:-100≤l) (hl1:l≤100) (hc:∀x∈S8 l w,Cl x):T3 [.list (ds.map shT),.int y,.int l,.int (w:Int)]=.ok (AI4 ds l y w):=by
 have r0:(List.range w).map (ALM ds ds.length l y)=List.replicate w PyData.none:=by
  have:∀c∈List.range w,ALM ds ds.length l y c=PyData.none:=fun c _=>by
   show i7 (T6 (ds.drop ds.length) _ _ _)=_
   rw[List.drop_length]
   rfl
  rw[List.map_congr_left this]
  rw[List.map_const',List.length_range]
 have b0:P7 ds ds.length l y w=S8 l w:=List.filter_eq_self.mpr fun x _=>by
  rw[List.drop_length]
  rfl
 obtain ⟨p6,p7,h⟩:=AOX hd hy hw hc ds.length none none (Nat.le_refl _)
 rw[r0,b0]at h
 have hlr:lr2 [.int l,.int (l+w)]=some (B3 (S8 l w)):=by rw[AdX (by omega),show (l+w-l).toNat=w by omega,m8]
 have hdw:Ab7 [.int ((ds.map shT).length:Int)]=some (AB3 ds.length):=by rw[List.length_map];exact AYQ hn
 have e:M9 [some (.list (ds.map shT)),some (.int y),some (.int l),some (.int (w:Int)),none,none,none,none]=.rt (AI4 ds l y w):=by
  unfold M9
  rw[ARV (i:=4) (xs:=List.replicate w PyData.none) (r:=[some (.list (ds.map shT)),some (.int y),some (.int l),some (.int (w:Int)),some (AI4 ds l y w),some (B3 (P7 ds 0 l y w)),p6,p7]) (by show 4<8;decide) ?_ fun ad=>⟨_,_,X6 (ρ':=[some (.list (ds.map shT)),some (.int y),some (.int l),some (.int (w:Int)),some (E8 ad),some (B3 (S8 l w)),none,none]) (T7 (S1 (AbM (x:=.int l) (y:=.int (l+w)) (z:=B3 (S8 l w)) rfl (h_2 (x:=.int l) (y:=.int (w:Int)) rfl rfl (G8 _ _)) hlr)) rfl) (AAQ (ts:=AB3 ds.length) (AZV (AB6 (x:=.list (ds.map shT)) (z:=.int ((ds.map shT).length:Int)) rfl rfl) hdw) (h ad)),rfl⟩]
  ·exact E6 rfl
  ·show (if 0≤(w:Int)∧(w:Int)≤1000 then R.ok (PyData.list (List.replicate (w:Int).toNat PyData.none)) else R.bad)=_
   rw[if_pos (by omega)]
   rfl
 show clR (Tr.run 8 M9 [.list (ds.map shT),.int y,.int l,.int (w:Int)])=_
 rw[E4 (ρ:=[some (.list (ds.map shT)),some (.int y),some (.int l),some (.int (w:Int)),none,none,none,none]) rfl e]
 rfl
theorem ARZ:Sh 0 X2:=⟨by kernel_rfl,by decide +kernel⟩
theorem AXJ:Sh 0 ARN:=⟨by kernel_rfl,by decide +kernel⟩
theorem sh_fill:Sh 0 (.str (Str.ofString "fill")):=⟨by kernel_rfl,by decide +kernel⟩
theorem sh_stroke:Sh 0 (.str (Str.ofString "stroke")):=⟨by kernel_rfl,by decide +kernel⟩
theorem AXC {p r:T} {b:Bool} (hp:N0 [p]=.ok (.bool true)) (hr:L0 [r]=.ok (.bool b)):U7 [.tuple [p,r]]=.ok (.bool b):=by
 have e:U4 [some (.tuple [p,r]),none,none]=.rt (.bool b):=by
  unfold U4
  rw[G6 (APO (W4 (k:=true) (h_b (h_1 (x:=.tuple [p,r]) rfl rfl))) (h_b (h_2 (AB6 (x:=.tuple [p,r]) (z:=.int 2) rfl rfl) h_c rfl)))]
  rw[AAZ (v:=.tuple [p,r]) (ρ':=[some (.tuple [p,r]),some p,some r]) rfl rfl]
  exact E6 (ADI (ACR (x:=p) rfl hp) (ACR (x:=r) rfl hr))
 show clR (Tr.run 3 U4 [.tuple [p,r]])=_
 rw[E4 (ρ:=[some (.tuple [p,r]),none,none]) rfl e]
 rfl
theorem AFR {k p h i c:T} (sh:SeqAt.shaped (.tuple [k,p,h,i,c])=true):eqT (.tuple [k,p,h,i,c]) J0=some (.bool false):=by
 show (if (SeqAt.shaped (.tuple [k,p,h,i,c])&&SeqAt.shaped J0)=true then some (PyData.eqv (.tuple [k,p,h,i,c]) J0) else none).map PyData.bool=_
 rw[sh,show SeqAt.shaped J0=true by kernel_rfl]
 show some (PyData.bool (PyData.eqv k (.str (Str.ofString "erase"))&&false))=_
 rw[Bool.and_false]
def AV5 (k h:T) (b:Bool):Prop :=
 (eqT k (.str (Str.ofString "fill"))=some (.bool true)∧L0 [h]=.ok (.bool b)) ∨
 (eqT k (.str (Str.ofString "fill"))=some (.bool false)∧((eqT k (.str (Str.ofString "stroke"))=some (.bool true)∧Q9 [h]=.ok (.bool b))∨(eqT k (.str (Str.ofString "stroke"))=some (.bool false)∧b=false)))
theorem ARO {th k p h i c:T} {b:Bool} {rest:FS} (hw:AV5 k h b) :
  B2 (sIf (bV (e2 eqT (A1 1) (eC (.str (Str.ofString "fill"))))) (C0 (Tr.gName 6) (eF (A3 1 [] L0) (A0 (A1 3) A2))) (C0 (Tr.gName 6) (Y3 (e2 eqT (A1 1) (eC (.str (Str.ofString "stroke")))) (eF (A3 1 [] Q9) (A0 (A1 3) A2))))) rest [some th,some k,some p,some h,some i,some c,none]=rest [some th,some k,some p,some h,some i,some c,some (.bool b)]:=by
 rcases hw with ⟨h1,h2⟩ | ⟨h1,⟨h2,h3⟩ | ⟨h2,rfl⟩⟩
 ·exact AZL (h_b (h_2 (x:=k) rfl h_c h1)) (S1 (ACR (x:=h) rfl h2))
 ·exact ASY (h_b (h_2 (x:=k) rfl h_c h1)) (S1 (ADI (h_2 (x:=k) rfl h_c h2) (ACR (x:=h) rfl h3)))
 ·exact ASY (h_b (h_2 (x:=k) rfl h_c h1)) (S1 (AUA (h_2 (x:=k) rfl h_c h2)))
theorem ALZ {k p h i c:T} {b:Bool} {rest:FS} (sh:SeqAt.shaped (.tuple [k,p,h,i,c])=true) (hw:AV5 k h b) {bp bi bc:Bool} (hp:N0 [p]=.ok (.bool bp)) (hi:T5 [i]=.ok (.bool bi)) (hc:AC0 "tuple" c=some (.bool bc)) :
  (bOr (P5 (bV (A1 6))) (bOr (P5 (bV (eF (A3 1 [] N0) (A0 (A1 2) A2)))) (bOr (P5 (bV (eF (A3 1 [] T5) (A0 (A1 4) A2)))) (P5 (bV (e1 (AC0 "tuple") (A1 5))))))) [some (.tuple [k,p,h,i,c]),some k,some p,some h,some i,some c,some (.bool b)]=.ok (!b||(!bp||(!bi||!bc))) :=
 AQX (W4 (h_b rfl)) (AQX (W4 (h_b (ACR (x:=p) rfl hp))) (AQX (W4 (h_b (ACR (x:=i) rfl hi))) (W4 (h_b (h_1 (x:=c) rfl hc)))))
theorem AIY {k p h i:T} {cs:List T} {f:T→Bool} (sh:SeqAt.shaped (.tuple [k,p,h,i,.tuple cs])=true) (hw:AV5 k h true) (hp:N0 [p]=.ok (.bool true)) (hi:T5 [i]=.ok (.bool true)) (hl:cs.length≤1000) (hf:∀t∈cs,U7 [t]=.ok (.bool (f t))):O5 [.tuple [k,p,h,i,.tuple cs]]=.ok (.bool (cs.all f)):=by
 have e:T9 [some (.tuple [k,p,h,i,.tuple cs]),none,none,none,none,none,none]=.rt (.bool (cs.all f)):=by
  unfold T9
  rw[G6 (h_b (h_2 (x:=.tuple [k,p,h,i,.tuple cs]) rfl h_c (AFR sh)))]
  rw[G6 (APO (W4 (k:=true) (h_b (h_1 (x:=.tuple [k,p,h,i,.tuple cs]) rfl rfl))) (h_b (h_2 (AB6 (x:=.tuple [k,p,h,i,.tuple cs]) (z:=.int 5) rfl rfl) h_c rfl)))]
  rw[AAZ (v:=.tuple [k,p,h,i,.tuple cs]) (ρ':=[some (.tuple [k,p,h,i,.tuple cs]),some k,some p,some h,some i,some (.tuple cs),none]) rfl rfl]
  rw[ARO hw]
  rw[G6 (ALZ (rest:=B9) sh hw hp hi (c:=.tuple cs) (bc:=true) rfl)]
  exact E6 (AB6 (J1 (j8 rfl) (by omega) (ADW (f:=fun t=>PyData.bool (f t)) cs fun t ht=>ACR (x:=t) rfl (hf t ht))) (all_map cs))
 show clR (Tr.run 7 T9 [.tuple [k,p,h,i,.tuple cs]])=_
 rw[E4 (ρ:=[some (.tuple [k,p,h,i,.tuple cs]),none,none,none,none,none,none]) rfl e]
 rfl
theorem sh5 {d:Nat} {k p h i c:T} (h1:Sh d k) (h2:Sh d p) (h3:Sh d h) (h4:Sh d i) (h5:Sh d c) (hd:d<64):SeqAt.shaped (.tuple [k,p,h,i,c])=true:=by
 refine (L3 (d:=d) fun t ht=>?_).shaped hd
 simp only[List.mem_cons,List.not_mem_nil,or_false]at ht
 rcases ht with rfl | rfl | rfl | rfl | rfl<;>assumption
theorem AWL (a b:Int):AWS [.int a,.int b]=some (.int (if b>a then b else a)):=rfl
theorem AUJ:∀a:Fin 9,∀b:Fin 3,0≤Rat.divInt (a.val:Int) (1+(b.val:Int))∧(Rat.divInt (a.val:Int) (1+(b.val:Int))).num.natAbs≤100∧(Rat.divInt (a.val:Int) (1+(b.val:Int))).den*2 ∣ 12:=by decide +kernel
theorem AcI {a b:Int} (a0:0≤a) (a1:a<9) (b0:0≤b) (b1:b<3):Wd (Rat.divInt a (1+b)):=by
 obtain ⟨n,rfl⟩:=Int.eq_ofNat_of_zero_le a0
 obtain ⟨m,rfl⟩:=Int.eq_ofNat_of_zero_le b0
 obtain ⟨h1,h2,h3⟩:=AUJ ⟨n,by omega⟩ ⟨m,by omega⟩
 exact ⟨h1,h2,h3⟩
abbrev AH0:T:=.str (Str.ofString "fill")
abbrev w5:T:=.str (Str.ofString "stroke")
theorem AS9 {w:Rat} (hw:Wd w):Q9 [RT w]=.ok (.bool true):=by
 have hn:0≤w.num:=Rat.num_nonneg.mpr hw.pos
 have hs:Sm w:=by
  have h1:=hw.num
  have h2:=Nat.le_of_dvd (by decide) hw.den
  exact ⟨by rw[AD0];omega,by rw[AD0];omega⟩
 have e:R4 [some (RT w)]=.rt (.bool true):=by
  unfold R4
  exact E6 (ADI (ACR (x:=RT w) rfl (AEB hs)) (h_2 (AaX (r:=w) rfl) h_c (by show some (PyData.bool (decide (w.num ≥ 0)))=_;rw[decide_eq_true hn])))
 show clR (Tr.run 1 R4 [RT w])=_
 rw[E4 (ρ:=[some (RT w)]) rfl e]
 rfl
theorem AOB (b:Bool):L0 [N4 b]=.ok (.bool true):=by
 cases b with
 | false=>exact AL2
 | true=>exact AR2
theorem AM9 (b:Bool):Sh 0 (N4 b):=by
 cases b with
 | false=>exact ARZ
 | true=>exact AXJ
abbrev Pth:=List (List P2 × Bool)
def clT (c:Pth × Bool):T:=.tuple [PhT c.1,N4 c.2]
inductive Dd where
 | erase
 | fill (ps:Pth) (odd:Bool) (ink:Int) (cl:List (Pth × Bool))
 | strk (ps:Pth) (w:Rat) (ink:Int) (cl:List (Pth × Bool))
def DdT:Dd→T
 | .erase=>J0
 | .fill ps o i cl=>.tuple [AH0,PhT ps,N4 o,.int i,.tuple (cl.map clT)]
 | .strk ps w i cl=>.tuple [w5,PhT ps,RT w,.int i,.tuple (cl.map clT)]
structure ClsOk (cl:List (Pth × Bool)):Prop where
 few:cl.length≤10
 good:∀c∈cl,Good c.1
def AHW:Dd→Prop
 | .erase=>True
 | .fill ps _ i cl=>Good ps∧0≤i∧i≤15∧ClsOk cl
 | .strk ps w i cl=>Good ps∧Wd w∧0≤i∧i≤15∧ClsOk cl
theorem Aa6 (c:Pth × Bool):Sh 6 (clT c):=L3 fun t ht=>by
 rcases List.mem_cons.mp ht with rfl | ht
 ·exact ANL c.1
 ·rw[List.mem_singleton.mp ht];exact (AM9 c.2).mono (by decide)
theorem ASJ (cl:List (Pth × Bool)):Sh 7 (.tuple (cl.map clT)):=L3 fun t ht=>by
 obtain ⟨c,_,rfl⟩:=List.mem_map.mp ht
 exact Aa6 c
theorem ADB (d:Dd):Sh 8 (DdT d):=by
 cases d with
 | erase=>exact ⟨by kernel_rfl,by decide +kernel⟩
 | fill ps o i cl =>
  refine L3 fun t ht=>?_
  simp only[List.mem_cons,List.not_mem_nil,or_false]at ht
  rcases ht with rfl | rfl | rfl | rfl | rfl
  ·exact sh_fill.mono (by decide)
  ·exact (ANL ps).mono (by decide)
  ·exact (AM9 o).mono (by decide)
  ·exact AAM _ _
  ·exact ASJ cl
 | strk ps w i cl =>
  refine L3 fun t ht=>?_
  simp only[List.mem_cons,List.not_mem_nil,or_false]at ht
  rcases ht with rfl | rfl | rfl | rfl | rfl
  ·exact sh_stroke.mono (by decide)
  ·exact (ANL ps).mono (by decide)
  ·exact (ATL w).mono (by decide)
  ·exact AAM _ _
  ·exact ASJ cl
theorem AFO {c:Pth × Bool} (h:Good c.1):U7 [clT c]=.ok (.bool true):=AXC (ACH h) (AOB c.2)
theorem ANZ {i:Int} (h0:0≤i) (h1:i≤15):T5 [.int i]=.ok (.bool true):=by rw[AYK,decide_eq_true h0,decide_eq_true h1];rfl
theorem AMY {d:Dd} (h:AHW d):O5 [DdT d]=.ok (.bool true):=by
 cases d with
 | erase=>kernel_rfl
 | fill ps o i cl =>
  obtain ⟨h1,h2,h3,h4⟩:=h
  have:=AIY (k:=AH0) (p:=PhT ps) (h:=N4 o) (i:=.int i) (cs:=cl.map clT) (f:=fun _=>true) ((ADB (.fill ps o i cl)).shaped (by decide)) (.inl ⟨by kernel_rfl,AOB o⟩) (ACH h1) (ANZ h2 h3) (by have:=h4.few;rw[List.length_map];omega) (fun t ht=>by
   obtain ⟨c,hc,rfl⟩:=List.mem_map.mp ht
   exact AFO (h4.good c hc))
  show O5 [.tuple [AH0,PhT ps,N4 o,.int i,.tuple (cl.map clT)]]=_
  rw[this]
  simp
 | strk ps w i cl =>
  obtain ⟨h1,hw,h2,h3,h4⟩:=h
  have:=AIY (k:=w5) (p:=PhT ps) (h:=RT w) (i:=.int i) (cs:=cl.map clT) (f:=fun _=>true) ((ADB (.strk ps w i cl)).shaped (by decide)) (.inr ⟨by kernel_rfl,.inl ⟨by kernel_rfl,AS9 hw⟩⟩) (ACH h1) (ANZ h2 h3) (by have:=h4.few;rw[List.length_map];omega) (fun t ht=>by
   obtain ⟨c,hc,rfl⟩:=List.mem_map.mp ht
   exact AFO (h4.good c hc))
  show O5 [.tuple [w5,PhT ps,RT w,.int i,.tuple (cl.map clT)]]=_
  rw[this]
  simp
theorem AE9 {ds:List Dd} (hl:ds.length≤1000) (h:∀d∈ds,AHW d):M6 [.list (ds.map DdT)]=.ok .none:=by
 have c:(bOr (P5 (bV (e1 (AC0 "list") (A1 0)))) (P5 (bV (eN AQF (A0 (E2 (iOf A9 (A1 0)) [none] (Tr.gName 0) (fun _=>.ok true) (eF (A3 1 [] O5) (A0 (A1 0) A2))) A2))))) [some (.list (ds.map DdT))]=.ok false :=
  AZG (W4 (k:=true) (h_b (h_1 (x:=.list (ds.map DdT)) rfl rfl))) (W4 (k:=true) (h_b (ADX (ts:=ds.map DdT) (fun t ht=>by
   obtain ⟨d,hd,rfl⟩:=List.mem_map.mp ht
   exact AMY (h d hd)) (by rw[List.length_map];omega) (O8 rfl))))
 have e:M1 [some (.list (ds.map DdT))]=.nx [some (.list (ds.map DdT))]:=by
  unfold M1
  exact AW8 c rfl
 show clR (Tr.run 1 M1 [.list (ds.map DdT)])=_
 rw[E4 (ρ:=[some (.list (ds.map DdT))]) rfl e]
 rfl
def clS (c:Pth × Bool):Sp:=.fill c.2 (AB1 c.1)
def shp:Dd→List Sp
 | .erase=>[]
 | .fill ps o _ cl=>.fill o (AB1 ps)::cl.map clS
 | .strk ps w _ cl=>.strk w (T1 ps)::cl.map clS
theorem AJT {ps:Pth} (h:Good ps):∀z∈AB1 ps,A12 z.1∧A12 z.2:=fun z hz=>by
 obtain ⟨q,hq,hz⟩:=List.mem_flatMap.mp hz
 exact AFN (h.pts q hq) z hz
theorem AIA {f:List P2 × Bool→List (P2 × P2)}:∀ps:Pth,(∀q∈ps,(f q).length≤5)→(ps.flatMap f).length≤5*ps.length
 | [],_=>by simp
 | q::ps,h=>by
  rw[List.flatMap_cons,List.length_append,List.length_cons]
  have:=AIA ps fun q' hq'=>h q' (List.mem_cons_of_mem _ hq')
  have:=h q (List.mem_cons_self ..)
  omega
theorem AGM {ps:Pth} (h:Good ps):(AB1 ps).length≤15:=by
 have:=AIA (f:=fun q=>AC7 q.1) ps fun q hq=>Nat.le_trans (AKL q.1) (h.short q hq)
 have h2:=h.few
 show (ps.flatMap fun q=>AC7 q.1).length≤15
 omega
theorem AKW {ps:Pth} (h:Good ps):(T1 ps).length≤15:=by
 have:=AIA (f:=S4) ps fun q hq=>Nat.le_trans (AC8 q) (h.short q hq)
 have h2:=h.few
 show (ps.flatMap S4).length≤15
 omega
theorem AbF {d:Dd} (h:AHW d):∀s∈shp d,APP s:=fun s hs=>by
 have cls:∀cl:List (Pth × Bool),ClsOk cl→s∈cl.map clS→APP s:=fun cl hc hm=>by
  obtain ⟨c,hcm,rfl⟩:=List.mem_map.mp hm
  exact ⟨AGM (hc.good c hcm),AJT (hc.good c hcm)⟩
 cases d with
 | erase=>cases hs
 | fill ps o i cl =>
  obtain ⟨h1,h2,h3,h4⟩:=h
  rcases List.mem_cons.mp hs with rfl | hs
  ·exact ⟨AGM h1,AJT h1⟩
  ·exact cls cl h4 hs
 | strk ps w i cl =>
  obtain ⟨h1,hw,h2,h3,h4⟩:=h
  rcases List.mem_cons.mp hs with rfl | hs
  ·exact ⟨hw,AKW h1,APH h1.q⟩
  ·exact cls cl h4 hs
theorem AbL {xs ys:List T} (h:xs.length+ys.length≤1000):E9 (.list xs) (.list ys)=some (.list (xs++ys)):=by
 show (if J4 (xs.length+ys.length)=true then some (PyData.list (xs++ys)) else none)=_
 rw[if_pos (show J4 _=true from decide_eq_true h)]
theorem AIX {th k p hw i:Option T} {fi:Option T} {cl:List (Pth × Bool)} (h:ClsOk cl):E2 (iOf L4 (A1 5)) [none,none] (Tr.gTup [(Tr.gName 0),(Tr.gName 1)]) (fun _=>.ok true) (D4 (A0 (A1 1) (A0 (eF (A3 1 [] K8) (A0 (A1 0) A2)) A2))) [th,k,p,hw,i,some (.tuple (cl.map clT)),fi]=.ok (.list ((cl.map clS).map SpT)):=by
 have hf:=h.few
 refine J1 (j8 (ts:=cl.map clT) rfl) (by rw[List.length_map];omega) ?_
 show C4 _ _ _ [none,none] _=_
 rw[List.map_map]
 refine Q8 cl fun c hc=>⟨[some (PhT c.1),some (N4 c.2)],rfl,?_⟩
 exact ALP (x:=N4 c.2) rfl (ACR (x:=PhT c.1) rfl (AFC (h.good c hc).q (h.good c hc).few))
theorem ANS {d:Dd} (h:AHW d):V6 [DdT d]=.ok (shT (shp d)):=by
 cases d with
 | erase=>
  have e:C9 [some J0,none,none,none,none,none,none]=.rt (.list []):=by
   unfold C9
   exact AD8 (h_b (h_2 (x:=J0) (y:=J0) rfl rfl (by kernel_rfl))) rfl
  show clR (Tr.run 7 C9 [J0])=_
  rw[E4 (ρ:=[some J0,none,none,none,none,none,none]) rfl e]
  rfl
 | fill ps o i cl =>
  obtain ⟨h1,h2,h3,h4⟩:=h
  have sh:=(ADB (.fill ps o i cl)).shaped (by decide)
  have e:C9 [some (DdT (.fill ps o i cl)),none,none,none,none,none,none]=.rt (shT (shp (.fill ps o i cl))):=by
   unfold C9
   rw[G6 (h_b (h_2 (x:=DdT (.fill ps o i cl)) rfl h_c (AFR sh)))]
   rw[AAZ (v:=DdT (.fill ps o i cl)) (ρ':=[some (DdT (.fill ps o i cl)),some AH0,some (PhT ps),some (N4 o),some (.int i),some (.tuple (cl.map clT)),none]) rfl rfl]
   rw[O1 (v:=SpT (.fill o (AB1 ps))) (ρ':=[some (DdT (.fill ps o i cl)),some AH0,some (PhT ps),some (N4 o),some (.int i),some (.tuple (cl.map clT)),some (SpT (.fill o (AB1 ps)))]) (AS7 (h_b (h_2 (x:=AH0) (y:=AH0) rfl rfl (by kernel_rfl))) (ALP (x:=N4 o) rfl (ACR (x:=PhT ps) rfl (AFC h1.q h1.few)))) rfl]
   exact E6 (h_2 (Ae3 (x:=SpT (.fill o (AB1 ps))) rfl) (AIX h4) (AbL (by have:=h4.few;rw[List.length_map,List.length_map];show 1+_≤1000;omega)))
  show clR (Tr.run 7 C9 [DdT (.fill ps o i cl)])=_
  rw[E4 (ρ:=[some (DdT (.fill ps o i cl)),none,none,none,none,none,none]) rfl e]
  rfl
 | strk ps w i cl =>
  obtain ⟨h1,hw,h2,h3,h4⟩:=h
  have sh:=(ADB (.strk ps w i cl)).shaped (by decide)
  have e:C9 [some (DdT (.strk ps w i cl)),none,none,none,none,none,none]=.rt (shT (shp (.strk ps w i cl))):=by
   unfold C9
   rw[G6 (h_b (h_2 (x:=DdT (.strk ps w i cl)) rfl h_c (AFR sh)))]
   rw[AAZ (v:=DdT (.strk ps w i cl)) (ρ':=[some (DdT (.strk ps w i cl)),some w5,some (PhT ps),some (RT w),some (.int i),some (.tuple (cl.map clT)),none]) rfl rfl]
   rw[O1 (v:=SpT (.strk w (T1 ps))) (ρ':=[some (DdT (.strk ps w i cl)),some w5,some (PhT ps),some (RT w),some (.int i),some (.tuple (cl.map clT)),some (SpT (.strk w (T1 ps)))]) (APQ (h_b (h_2 (x:=w5) (y:=AH0) rfl rfl (by kernel_rfl))) (ALP (x:=w5) rfl (AE3 (x:=PhT ps) (y:=RT w) rfl rfl (AP4 hw h1.q h1.few)))) rfl]
   exact E6 (h_2 (Ae3 (x:=SpT (.strk w (T1 ps))) rfl) (AIX h4) (AbL (by have:=h4.few;rw[List.length_map,List.length_map];show 1+_≤1000;omega)))
  show clR (Tr.run 7 C9 [DdT (.strk ps w i cl)])=_
  rw[E4 (ρ:=[some (DdT (.strk ps w i cl)),none,none,none,none,none,none]) rfl e]
  rfl
noncomputable abbrev dsT (ds:List Dd):T:=.list (ds.map DdT)
noncomputable def AA9 (ds:List Dd) (x y:Int):Option Nat:=who (ds.map shp) x y
def AbR:Dd→Int
 | .erase=>0
 | .fill _ _ i _=>i
 | .strk _ _ i _=>i
def ARM (ds:List Dd):Option Nat→Int
 | none=>0
 | some i=>match ds[i]? with
  | some d=>AbR d
  | none=>0
noncomputable def cell (ds:List Dd) (x y:Int):Int:=ARM ds (AA9 ds x y)
theorem ABS:∀(ds:List (List Sp)) (k:Nat) (x y:Int) (i:Nat),T6 ds k x y=some i→k≤i∧i<k+ds.length
 | [],k,x,y,i,h=>by cases h
 | d::ds,k,x,y,i,h=>by
  unfold T6 at h
  rw[List.length_cons]
  cases e:T6 ds (k+1) x y with
  | some j =>
   rw[e]at h
   have:=ABS ds (k+1) x y j e
   have:j=i:=Option.some.inj h
   omega
  | none =>
   rw[e]at h
   have h':(if inA d x y=true then some k else none)=some i:=h
   by_cases q:inA d x y=true
   ·rw[if_pos q]at h'
    have:k=i:=Option.some.inj h'
    omega
   ·rw[if_neg q]at h';cases h'
theorem AWE {ds:List Dd} {x y:Int} {i:Nat} (h:AA9 ds x y=some i):i<ds.length:=by
 have:=ABS _ 0 x y i h
 rw[List.length_map]at this
 omega
theorem ATT {i j:Int} (h:(-100000<i∧i<100000)∧(-100000<j∧j<100000)):AbV [.int i,.int j]=some (L1 i (j-i).toNat):=by
 unfold AbV
 dsimp only
 rw[if_pos h]
theorem AcA {m:List T→R T} {a b c d e:FE} {ρ:Ev} {x y z w v:T} {r:R T} (h1:a ρ=.ok x) (h2:b ρ=.ok y) (h3:c ρ=.ok z) (h4:d ρ=.ok w) (h5:e ρ=.ok v) (h:m [x,y,z,w,v]=r):eF (A3 5 [] m) (A0 a (A0 b (A0 c (A0 d (A0 e A2))))) ρ=r:=by
 unfold eF A0 A2;rw[h1,h2,h3,h4,h5];show m ([x,y,z,w,v]++[])=_;rw[List.append_nil];exact h
theorem AdV {f:List T→Option (List T)} {a b:FE} {ρ:Ev} {x y:T} {ts:List T} (h1:a ρ=.ok x) (h2:b ρ=.ok y) (h:f [x,y]=some ts):iN f (A0 a (A0 b A2)) ρ=.ok ts:=by
 unfold iN A0
 show R.bind ((a ρ).bind fun x=>((b ρ).bind fun x=>(R.ok []).bind fun xs=>R.ok (x::xs)).bind fun xs=>R.ok (x::xs)) _=_
 rw[h1,h2]
 show R.of (f [x,y])=_
 rw[h]
 rfl
structure Win (l t:Int) (w h:Nat):Prop where
 w0:1≤w
 h0:1≤h
 l0:-4≤l
 t0:-4≤t
 l1:l+w≤10
 t1:t+h≤10
theorem Win.cx {l t:Int} {w h:Nat} (W:Win l t w h):∀x∈S8 l w,Cl x:=fun x hx=>by
 have:=V8 hx
 have:=W.l0
 have:=W.l1
 exact ⟨by omega,by omega⟩
theorem Win.cy {l t:Int} {w h:Nat} (W:Win l t w h):∀y∈S8 t h,Cl y:=fun y hy=>by
 have:=V8 hy
 have:=W.t0
 have:=W.t1
 exact ⟨by omega,by omega⟩
noncomputable abbrev AQ3 (ds:List Dd) (l t:Int) (w h:Nat):T:=.list ((S8 t h).map fun y=>AI4 (ds.map shp) l y w)
theorem ABG {ds:List Dd} (hd:∀d∈ds,AHW d) (hn:ds.length≤100) {l t:Int} {w h:Nat} (W:Win l t w h):V3 [dsT ds,.int (w:Int),.int (h:Int),.int l,.int t]=.ok (AQ3 ds l t w h):=by
 have b1:=W.l0
 have b2:=W.l1
 have b3:=W.t0
 have b4:=W.t1
 have hs:(ds.map DdT).map (fun _=>())=(ds.map DdT).map (fun _=>()):=rfl
 have e:Z6 [some (dsT ds),some (.int (w:Int)),some (.int (h:Int)),some (.int l),some (.int t),none]=.rt (AQ3 ds l t w h):=by
  unfold Z6
  rw[O1 (v:=.list ((ds.map shp).map shT)) (ρ':=[some (dsT ds),some (.int (w:Int)),some (.int (h:Int)),some (.int l),some (.int t),some (.list ((ds.map shp).map shT))]) (J1 (O8 (ts:=ds.map DdT) rfl) (by rw[List.length_map];omega) (by
   show C4 _ _ _ [none] _=_
   rw[List.map_map]
   exact Q8 ds fun d hdm=>⟨[some (DdT d)],rfl,ACR (x:=DdT d) rfl (ANS (hd d hdm))⟩)) rfl]
  refine E6 (J1 (AdV (x:=.int t) (y:=.int (t+h)) rfl (h_2 (x:=.int t) (y:=.int (h:Int)) rfl rfl (G8 _ _)) (ATT (by omega))) ?_ ?_)
  ·rw[m8,List.length_map]
   unfold S8
   rw[List.length_map,List.length_range]
   omega
  ·rw[m8,show (t+h-t).toNat=h by omega]
   show C4 _ _ _ [none,some (.list ((ds.map shp).map shT)),some (.int l),some (.int (w:Int))] _=_
   refine AJN (S8 t h) fun y hy=>?_
   exact Ae0 (x:=.list ((ds.map shp).map shT)) (y:=.int y) (z:=.int l) (w:=.int (w:Int)) rfl rfl rfl rfl (ALG (fun d' hd'=>by
    obtain ⟨d,hdm,rfl⟩:=List.mem_map.mp hd'
    exact AbF (hd d hdm)) (by rw[List.length_map];exact hn) (W.cy y hy) (by omega) (by omega) (by omega) W.cx)
 show clR (Tr.run 6 Z6 [dsT ds,.int (w:Int),.int (h:Int),.int l,.int t])=_
 rw[E4 (ρ:=[some (dsT ds),some (.int (w:Int)),some (.int (h:Int)),some (.int l),some (.int t),none]) rfl e]
 rfl
theorem AZO {α:Type} {f:α→T} {l:List α} {i:Nat} {a:α} (h:l[i]?=some a):ixT (.list (l.map f)) (.int (i:Int))=some (f a):=by
 show atI (l.map f) (i:Int)=_
 refine AEM ?_
 rw[List.getElem?_map,h]
 rfl
theorem AQ2 (d:Dd):eqT (DdT d) J0=some (.bool (match d with | .erase=>true | _=>false)):=by
 cases d with
 | erase=>kernel_rfl
 | fill ps o i cl=>exact AFR ((ADB (.fill ps o i cl)).shaped (by decide))
 | strk ps w i cl=>exact AFR ((ADB (.strk ps w i cl)).shaped (by decide))
theorem AN1 {ds:List Dd} {o:Option Nat} (h:∀i,o=some i→i<ds.length):x5 [dsT ds,i7 o]=.ok (.int (ARM ds o)):=by
 have e:Z5 [some (dsT ds),some (i7 o)]=.rt (.int (ARM ds o)):=by
  unfold Z5
  cases o with
  | none=>exact AD8 (AdG (h_b (h_2 (x:=.none) rfl h_c rfl))) h_c
  | some i =>
   have hi:=h i rfl
   have hg:ds[i]?=some ds[i]:=List.getElem?_eq_getElem hi
   have hx:ixT (dsT ds) (.int (i:Int))=some (DdT ds[i]):=AZO hg
   have hk:ARM ds (some i)=AbR ds[i]:=by show (match ds[i]? with | some d=>AbR d | none=>0)=_;rw[hg]
   rw[hk]
   have hc:bOr (bV (e2 isT (A1 1) (eC .none))) (bV (e2 eqT (e2 ixT (A1 0) (A1 1)) (eC J0))) [some (dsT ds),some (i7 (some i))]=.ok (match ds[i]with | .erase=>true | _=>false) :=
    AZG (h_b (h_2 (x:=.int (i:Int)) rfl h_c rfl)) (h_b (h_2 (h_2 (x:=dsT ds) (y:=.int (i:Int)) rfl rfl hx) h_c (AQ2 ds[i])))
   cases ed:ds[i] with
   | erase =>
    rw[ed]at hc
    exact AD8 hc h_c
   | fill ps o k cl =>
    rw[ed]at hc hx
    rw[G6 hc]
    exact E6 (h_2 (h_2 (x:=dsT ds) (y:=.int (i:Int)) rfl rfl hx) h_c rfl)
   | strk ps w k cl =>
    rw[ed]at hc hx
    rw[G6 hc]
    exact E6 (h_2 (h_2 (x:=dsT ds) (y:=.int (i:Int)) rfl rfl hx) h_c rfl)
 show clR (Tr.run 2 Z5 [dsT ds,i7 o])=_
 rw[E4 (ρ:=[some (dsT ds),some (i7 o)]) rfl e]
 rfl
noncomputable def page (ds:List Dd) (l t:Int) (w h:Nat):List (List Int):=(S8 t h).map fun y=>(S8 l w).map fun x=>cell ds x y
theorem AIR {w h:Nat} (w0:1≤w) (w1:w≤64) (h0:1≤h) (h1:h≤64):P1 [.int (w:Int),.int (h:Int)]=.ok .none:=by
 have e:M0 [some (.int (w:Int)),some (.int (h:Int))]=.nx [some (.int (w:Int)),some (.int (h:Int))]:=by
  unfold M0
  exact AW8 (APO (W4 (k:=true) (h_b (ACR (x:=.int (w:Int)) rfl (AK2 w0 w1)))) (W4 (k:=true) (h_b (ACR (x:=.int (h:Int)) rfl (AK2 h0 h1))))) rfl
 show clR (Tr.run 2 M0 [.int (w:Int),.int (h:Int)])=_
 rw[E4 (ρ:=[some (.int (w:Int)),some (.int (h:Int))]) rfl e]
 rfl
theorem ADA {i:Int} (h0:-999≤i) (h1:i≤999):G9 [.int i,.int (-999),.int 999]=.ok (.bool true):=by rw[ACF,decide_eq_true h0,decide_eq_true h1];rfl
theorem AJ5 {x y:Int} (x0:-999≤x) (x1:x≤999) (y0:-999≤y) (y1:y≤999):P0 [.int x,.int y]=.ok .none:=by
 have e:M2 [some (.int x),some (.int y)]=.nx [some (.int x),some (.int y)]:=by
  unfold M2
  exact AW8 (APO (W4 (k:=true) (h_b (W3 (x:=.int x) (y:=.int (-999)) (z:=.int 999) rfl rfl rfl (ADA x0 x1)))) (W4 (k:=true) (h_b (W3 (x:=.int y) (y:=.int (-999)) (z:=.int 999) rfl rfl rfl (ADA y0 y1))))) rfl
 show clR (Tr.run 2 M2 [.int x,.int y])=_
 rw[E4 (ρ:=[some (.int x),some (.int y)]) rfl e]
 rfl
theorem ARG {ds:List Dd} {l y:Int} {w:Nat} (hw:w≤64) {r0 r1:Option T} (hr:r0=some (AI4 (ds.map shp) l y w)):eN AL4 (A0 (E2 (iOf A9 (A1 0)) [none,some 1] (Tr.gName 0) (fun _=>.ok true) (eF (A3 2 [] x5) (A0 (A1 1) (A0 (A1 0) A2)))) A2) [r0,some (dsT ds)]=.ok (rT ((S8 l w).map fun x=>cell ds x y)):=by
 subst hr
 refine AB6 (x:=.list (((S8 l w).map fun x=>cell ds x y).map PyData.int)) (J1 (O8 (ts:=(List.range w).map fun (c:Nat)=>i7 (AA9 ds (l+(c:Int)) y)) rfl) (by rw[List.length_map,List.length_range];omega) ?_) rfl
 show C4 _ _ _ [none,some (dsT ds)] _=_
 have:((S8 l w).map fun x=>cell ds x y).map PyData.int=(List.range w).map fun (c:Nat)=>PyData.int (cell ds (l+(c:Int)) y):=by
  unfold S8
  rw[List.map_map,List.map_map]
  rfl
 rw[this]
 refine Q8 (List.range w) fun c _=>⟨[some (i7 (AA9 ds (l+(c:Int)) y)),some (dsT ds)],rfl,?_⟩
 exact AE3 (x:=dsT ds) (y:=i7 (AA9 ds (l+(c:Int)) y)) rfl rfl (AN1 fun i hi=>AWE hi)
theorem ADO {ds:List Dd} (hd:∀d∈ds,AHW d) (hn:ds.length≤100) {l t:Int} {w h:Nat} (W:Win l t w h):S2 [dsT ds,.int (w:Int),.int (h:Int),.int l,.int t]=.ok (pT (page ds l t w h)):=by
 have b1:=W.l0
 have b2:=W.l1
 have b3:=W.t0
 have b4:=W.t1
 have e:U5 [some (dsT ds),some (.int (w:Int)),some (.int (h:Int)),some (.int l),some (.int t),none]=.rt (pT (page ds l t w h)):=by
  unfold U5
  rw[ACK (ACR (x:=dsT ds) rfl (AE9 (by omega) hd))]
  rw[ACK (AE3 (x:=.int (w:Int)) (y:=.int (h:Int)) rfl rfl (AIR W.w0 (by omega) W.h0 (by omega)))]
  rw[ACK (AE3 (x:=.int l) (y:=.int t) rfl rfl (AJ5 (by omega) (by omega) (by omega) (by omega)))]
  rw[O1 (v:=AQ3 ds l t w h) (ρ':=[some (dsT ds),some (.int (w:Int)),some (.int (h:Int)),some (.int l),some (.int t),some (AQ3 ds l t w h)]) (AcA (x:=dsT ds) (y:=.int (w:Int)) (z:=.int (h:Int)) (w:=.int l) (v:=.int t) rfl rfl rfl rfl rfl (ABG hd hn W)) rfl]
  refine E6 (AB6 (x:=.list ((page ds l t w h).map rT)) (J1 (O8 (ts:=(S8 t h).map fun y=>AI4 (ds.map shp) l y w) rfl) (by rw[List.length_map];unfold S8;rw[List.length_map,List.length_range];omega) ?_) rfl)
  show C4 _ _ _ [none,some (dsT ds)] _=_
  unfold page
  rw[List.map_map]
  refine Q8 (S8 t h) fun y _=>⟨[some (AI4 (ds.map shp) l y w),some (dsT ds)],rfl,?_⟩
  exact ARG (r1:=none) (by omega) rfl
 show clR (Tr.run 6 U5 [dsT ds,.int (w:Int),.int (h:Int),.int l,.int t])=_
 rw[E4 (ρ:=[some (dsT ds),some (.int (w:Int)),some (.int (h:Int)),some (.int l),some (.int t),none]) rfl e]
 rfl
theorem AYX {ds:List Dd} (hd:∀d∈ds,AHW d) (hn:ds.length≤100) {x y:Int} (hx:Cl x) (hy:Cl y):S0 [dsT ds,.int x,.int y]=.ok (i7 (AA9 ds x y)):=by
 have x0:=hx.lo
 have x1:=hx.hi
 have y0:=hy.lo
 have y1:=hy.hi
 have W:Win x y 1 1:=⟨by decide,by decide,x0,y0,by omega,by omega⟩
 have e:N6 [some (dsT ds),some (.int x),some (.int y)]=.rt (i7 (AA9 ds x y)):=by
  unfold N6
  rw[ACK (ACR (x:=dsT ds) rfl (AE9 (by omega) hd))]
  rw[ACK (AE3 (x:=.int x) (y:=.int y) rfl rfl (AJ5 (by omega) (by omega) (by omega) (by omega)))]
  refine E6 (h_2 (h_2 (AcA (x:=dsT ds) (y:=.int 1) (z:=.int 1) (w:=.int x) (v:=.int y) rfl rfl rfl rfl rfl (ABG hd hn W)) h_c (z:=AI4 (ds.map shp) x (y+((0:Nat):Int)) 1) rfl) h_c ?_)
  show some (i7 (who (ds.map shp) (x+((0:Nat):Int)) (y+((0:Nat):Int))))=_
  rw[show x+((0:Nat):Int)=x by omega,show y+((0:Nat):Int)=y by omega]
  rfl
 show clR (Tr.run 3 N6 [dsT ds,.int x,.int y])=_
 rw[E4 (ρ:=[some (dsT ds),some (.int x),some (.int y)]) rfl e]
 rfl
theorem AYV {d:Int} (h0:0≤d) (h1:d<2):∃b,ixT (.list [(.str (Str.ofString "whole")),(.str (Str.ofString "odd"))]) (.int d)=some (N4 b):=by
 rcases (show d=0∨d=1 by omega) with rfl | rfl
 ·exact ⟨false,rfl⟩
 ·exact ⟨true,rfl⟩
noncomputable abbrev cmB:FB:=(w6 (Q7 2 (C0 (Tr.gName 4) (e2 ixT (eC (.list [(.str (Str.ofString "whole")),(.str (Str.ofString "odd"))])) (eF (A3 3 [] A4) (A0 (A1 0) (A0 (e2 E9 (e2 E9 (A1 1) (eC (.int 2))) (A1 3)) (A0 (eC (.int 2)) A2))))))) (ALO (D4 (A0 (eF (A3 2 [] L8) (A0 (A1 0) (A0 (e2 E9 (e2 E9 (A1 1) (eC (.int 70))) (e2 C7 (eC (.int 60)) (A1 3))) A2))) (A0 (A1 4) A2)))))
theorem ADN {ns:List Int} (hl:ns.length≤63) {k:Int} (hk:0≤k) {L:T} (hL:PyData.list (ns.map PyData.int)=L):∀(ks:List Int) (o3 o4:Option T) (acc:List (Pth × Bool)),(∀j∈ks,0≤j∧j≤3)→acc.length+ks.length≤10→(∀c∈acc,Good c.1) →
  ∃(o3' o4':Option T) (cs:List (Pth × Bool)),ClsOk cs∧∀a:Nat,O4 (fun t ρ=>(Tr.gName 3 t ρ).bind fun ρ'=>if J3 2 a ρ'=true then some ρ' else none) cmB
   (ks.map PyData.int) a [some L,some (.int k),some (E8 a),o3,o4,none,none] (acc.map clT)=.nx [some L,some (.int k),some (E8 a),o3',o4',none,none] (cs.map clT)
 | [],o3,o4,acc,_,hz,hc=>⟨o3,o4,acc,⟨by simpa using hz,hc⟩,fun a=>rfl⟩
 | j::ks,o3,o4,acc,hj,hz,hc=>by
  obtain ⟨j0,j1⟩:=hj j List.mem_cons_self
  obtain ⟨d,e1,a1,b1⟩:=D0 ns (k+2+j) 2 (by omega) (by decide) hl
  obtain ⟨r,hr⟩:=AYV a1 b1
  obtain ⟨p,hp,pp⟩:=AF7 (ns:=ns) (k:=k+70+60*j) hl (by omega)
  rw[hL]at e1 hp
  rw[List.length_cons]at hz
  obtain ⟨o3',o4',cs,q1,q3⟩:=ADN hl hk hL ks (some (.int j)) (some (N4 r)) (acc++[(p,r)]) (fun i hi=>hj i (List.mem_cons_of_mem _ hi)) (by rw[List.length_append];simp;omega) (fun c hcm=>by
   rcases List.mem_append.mp hcm with h | h
   ·exact hc c h
   ·rw[List.mem_singleton.mp h];exact pp)
  refine ⟨o3',o4',cs,q1,fun a=>?_⟩
  rw[List.map_cons]
  rw[List.map_append]at q3
  refine Z1 (ρ1:=[some L,some (.int k),some (E8 a),some (.int j),o4,none,none]) rfl rfl (X6 (T7 (ρ':=[some L,some (.int k),some (E8 a),some (.int j),some (N4 r),none,none]) ?_ rfl) (AIQ (y:=clT (p,r)) ?_ (by rw[List.length_map];omega))) (q3 a)
  ·exact S1 (h_2 h_c (W3 (x:=L) rfl (h_2 (h_2 (x:=.int k) rfl h_c (G8 k 2)) (y:=.int j) rfl (G8 (k+2) j)) h_c e1) hr)
  ·exact ALP (AE3 (x:=L) rfl (h_2 (h_2 (x:=.int k) rfl h_c (G8 k 70)) (h_2 h_c (y:=.int j) rfl (AD4 (by decide) (by omega))) (G8 (k+70) (60*j))) hp) (y:=N4 r) rfl
theorem ANV {ns:List Int} (hl:ns.length≤63) {k:Int} (hk:0≤k):∃d,S3 [.list (ns.map PyData.int),.int k]=.ok (DdT d)∧AHW d:=by
 obtain ⟨d0,e0,a0,b0⟩:=D0 ns k 12 hk (by decide) hl
 obtain ⟨d1,e1,a1,b1⟩:=D0 ns (k+1) 4 (by omega) (by decide) hl
 obtain ⟨d5,e5,a5,b5⟩:=D0 ns (k+5) 16 (by omega) (by decide) hl
 obtain ⟨d6,e6,a6,b6⟩:=D0 ns (k+6) 3 (by omega) (by decide) hl
 obtain ⟨d7,e7,a7,b7⟩:=D0 ns (k+7) 9 (by omega) (by decide) hl
 obtain ⟨d8,e8,a8,b8⟩:=D0 ns (k+8) 3 (by omega) (by decide) hl
 obtain ⟨d9,e9,a9,b9⟩:=D0 ns (k+7) 2 (by omega) (by decide) hl
 obtain ⟨p,hp,pp⟩:=AF7 (ns:=ns) (k:=k+9) hl (by omega)
 have mw:E3 [.int d7,.int (1+d8)]=.ok (RT (Rat.divInt d7 (1+d8))):=AHJ (by omega) (Nat.lt_trans (W9 (by omega)) (by decide)) rfl
 have hw:=AcI a7 b7 a8 b8
 generalize Rat.divInt d7 (1+d8)=w at mw hw
 obtain ⟨r,hr⟩:=AYV a9 b9
 have cm:=fun L hL=>ADN (ns:=ns) (k:=k) hl hk (L:=L) hL
 generalize hL:PyData.list (ns.map PyData.int)=L at e0 e1 e5 e6 e7 e8 e9 hp cm ⊢
 by_cases z:d0=0
 ·refine ⟨.erase,?_,trivial⟩
  have e:C8 [some L,some (.int k),none,none,none,none,none]=.rt (.tuple [.str (Str.ofString "erase")]):=by
   unfold C8
   exact AD8 (h_b (h_2 (W3 (x:=L) (y:=.int k) rfl rfl h_c e0) h_c (by rw[Y7,z];rfl))) h_c
  show clR (Tr.run 7 C8 [L,.int k])=_
  rw[E4 (ρ:=[some L,some (.int k),none,none,none,none,none]) rfl e]
  rfl
 ·have z':(d0 == 0)=false:=by simpa using z
  have hn:0≤(if d1-1>0 then d1-1 else 0)∧(if d1-1>0 then d1-1 else 0)≤3:=by split<;>omega
  obtain ⟨o3,o4,cs,c1,c3⟩:=cm L rfl ((List.range (if d1-1>0 then d1-1 else 0).toNat).map fun (i:Nat)=>(i:Int)) none none [] (fun j hj=>by have:=AE1 hj;omega) (by rw[List.length_map,List.length_range];simp;omega) (fun c h=>(List.not_mem_nil h).elim)
  have cf:=c1.few
  have start:∀rest:FS,B2 (X5 2 (AHA 2 (iN AKS (A0 (eN AWS (A0 (eC (.int 0)) (A0 (e2 U8 (eF (A3 3 [] A4) (A0 (A1 0) (A0 (e2 E9 (A1 1) (eC (.int 1))) (A0 (eC (.int 4)) A2)))) (eC (.int 1))) A2))) A2)) (Tr.gName 3) cmB)) rest [some L,some (.int k),none,none,none,none,none]=rest [some L,some (.int k),some (.list (cs.map clT)),o3,o4,none,none]:=fun rest =>
   AEP (show 2<7 by decide) fun a=>⟨_,_,AAQ (AFZ (by
    have hx:(eN AWS (A0 (eC (.int 0)) (A0 (e2 U8 (eF (A3 3 [] A4) (A0 (A1 0) (A0 (e2 E9 (A1 1) (eC (.int 1))) (A0 (eC (.int 4)) A2)))) (eC (.int 1))) A2))) [some L,some (.int k),some (E8 a),none,none,none,none]=.ok (.int (if d1-1>0 then d1-1 else 0)):=by
     exact AbM h_c (h_2 (W3 (x:=L) rfl (h_2 (x:=.int k) rfl h_c (G8 k 1)) h_c e1) h_c (v6 d1 1)) (AWL 0 (d1-1))
    exact hx) hn.1 (by omega)) (c3 a),rfl⟩
  by_cases y:d6=0
  ·have hcut:ADK (cs.map clT) none (some 1)=(cs.take 1).map clT:=by
    cases cs with
    | nil=>rfl
    | cons c r=>exact Af1 (clT c) (r.map clT)
   refine ⟨.strk p w d5 (cs.take 1),?_,pp,hw,a5,by omega,⟨by rw[List.length_take];omega,fun c hc=>c1.good c (List.mem_of_mem_take hc)⟩⟩
   have e:C8 [some L,some (.int k),none,none,none,none,none]=.rt (DdT (.strk p w d5 (cs.take 1))):=by
    unfold C8
    rw[G6 (h_b (h_2 (W3 (x:=L) (y:=.int k) rfl rfl h_c e0) h_c (by rw[Y7,z'])))]
    rw[start]
    rw[O1 (v:=.int d5) (ρ':=[some L,some (.int k),some (.list (cs.map clT)),o3,o4,some (.int d5),none]) (W3 (x:=L) rfl (h_2 (x:=.int k) rfl h_c (G8 k 5)) h_c e5) rfl]
    refine AOG (h_b (h_2 (W3 (x:=L) rfl (h_2 (x:=.int k) rfl h_c (G8 k 6)) h_c e6) h_c (by rw[Y7,y];rfl))) ?_
    rw[O1 (v:=RT w) (ρ':=[some L,some (.int k),some (.list (cs.map clT)),o3,o4,some (.int d5),some (RT w)]) (AE3 (W3 (x:=L) rfl (h_2 (x:=.int k) rfl h_c (G8 k 7)) h_c e7) (h_2 h_c (W3 (x:=L) rfl (h_2 (x:=.int k) rfl h_c (G8 k 8)) h_c e8) (G8 1 d8)) mw) rfl]
    refine E6 (AcQ h_c (AE3 (x:=L) rfl (h_2 (x:=.int k) rfl h_c (G8 k 9)) hp) (z:=RT w) rfl (w:=.int d5) rfl (AB6 (x:=.list ((cs.take 1).map clT)) ?_ rfl))
    rw[←hcut]
    rfl
   show clR (Tr.run 7 C8 [L,.int k])=_
   rw[E4 (ρ:=[some L,some (.int k),none,none,none,none,none]) rfl e]
   rfl
  ·have y':(d6 == 0)=false:=by simpa using y
   refine ⟨.fill p r d5 cs,?_,pp,a5,by omega,c1⟩
   have e:C8 [some L,some (.int k),none,none,none,none,none]=.rt (DdT (.fill p r d5 cs)):=by
    unfold C8
    rw[G6 (h_b (h_2 (W3 (x:=L) (y:=.int k) rfl rfl h_c e0) h_c (by rw[Y7,z'])))]
    rw[start]
    rw[O1 (v:=.int d5) (ρ':=[some L,some (.int k),some (.list (cs.map clT)),o3,o4,some (.int d5),none]) (W3 (x:=L) rfl (h_2 (x:=.int k) rfl h_c (G8 k 5)) h_c e5) rfl]
    rw[G6 (h_b (h_2 (W3 (x:=L) rfl (h_2 (x:=.int k) rfl h_c (G8 k 6)) h_c e6) h_c (by rw[Y7,y'])))]
    rw[O1 (v:=N4 r) (ρ':=[some L,some (.int k),some (.list (cs.map clT)),o3,some (N4 r),some (.int d5),none]) (h_2 h_c (W3 (x:=L) rfl (h_2 (x:=.int k) rfl h_c (G8 k 7)) h_c e9) hr) rfl]
    exact E6 (AcQ h_c (AE3 (x:=L) rfl (h_2 (x:=.int k) rfl h_c (G8 k 9)) hp) (z:=N4 r) rfl (w:=.int d5) rfl (AB6 (x:=.list (cs.map clT)) rfl rfl))
   show clR (Tr.run 7 C8 [L,.int k])=_
   rw[E4 (ρ:=[some L,some (.int k),none,none,none,none,none]) rfl e]
   rfl
theorem AL8 {ns:List Int} (hl:ns.length≤63) {n:Nat} (hn:n≤10):∃ds:List Dd,T4 [.list (ns.map PyData.int),.int 0,.int (n:Int)]=.ok (dsT ds)∧(∀d∈ds,AHW d)∧ds.length=n:=by
 have hm:=fun (k:Int) (h:0≤k)=>ANV (ns:=ns) hl h
 generalize PyData.list (ns.map PyData.int)=L at hm
 obtain ⟨ds,h2,h1,h3⟩:=AE0 (P:=AHW) (i:=DdT) (te:=eF (A3 2 [] S3) (A0 (A1 1) (A0 (e2 E9 (A1 2) (e2 C7 (eC (.int 200)) (A1 0))) A2))) (ρ:=[none,some L,some (.int 0)]) ((List.range n).map fun (i:Nat)=>(i:Int)) fun k hk=>by
  have:=AE1 hk
  obtain ⟨d,e1,e2⟩:=hm (0+200*k) (by omega)
  exact ⟨d,AE3 (x:=L) rfl (h_2 (x:=.int 0) rfl (h_2 h_c (y:=.int k) rfl (AD4 (by decide) (by omega))) (G8 _ _)) e1,e2⟩
 refine ⟨ds,?_,h3,by rw[h2];simp⟩
 have e:M7 [some L,some (.int 0),some (.int (n:Int))]=.rt (dsT ds):=by
  unfold M7
  exact E6 (J1 (AFZ (n:=(n:Int)) rfl (by omega) (by omega)) (by simp;omega) h1)
 show clR (Tr.run 3 M7 [L,.int 0,.int (n:Int)])=_
 rw[E4 (ρ:=[some L,some (.int 0),some (.int (n:Int))]) rfl e]
 rfl
abbrev rI (w:Nat):List Int:=(List.range w).map fun (i:Nat)=>(i:Int)
theorem ALR (o:Option Nat):ABD (i7 o)=true:=by cases o<;>rfl
noncomputable def AH8 (ds:List Dd) (w:Nat) (ys:List Int):List T:=ys.flatMap fun y=>(List.range w).map fun (c:Nat)=>i7 (AA9 ds (0+(c:Int)) y)
theorem AFS (ds:List Dd) {w:Nat} (hw:w≤64):∀ys:List Int,m6 (Tr.gName 0) (fun _=>.ok true) (iOf A9 (A1 0)) 1 (fun _=>.ok true) (AKZ (A1 1)) [none,none] (ys.map fun y=>AI4 (ds.map shp) 0 y w)=.ok (AH8 ds w ys)
 | []=>rfl
 | y::ys=>by
  have ih:=AFS ds hw ys
  have h1:C4 (Tr.gName 1) (fun _=>.ok true) (AKZ (A1 1)) [some (AI4 (ds.map shp) 0 y w),none] ((List.range w).map fun (c:Nat)=>i7 (AA9 ds (0+(c:Int)) y))=.ok ((List.range w).map fun (c:Nat)=>i7 (AA9 ds (0+(c:Int)) y)) :=
   Q8 (List.range w) fun c _=>⟨[some (AI4 (ds.map shp) 0 y w),some (i7 (AA9 ds (0+(c:Int)) y))],rfl,by
    show (if ABD (i7 (AA9 ds (0+(c:Int)) y))=true then R.ok (i7 (AA9 ds (0+(c:Int)) y)) else R.bad)=_
    rw[if_pos (ALR _)]⟩
  show (if ((List.range w).map fun (c:Nat)=>i7 (AA9 ds (0+(c:Int)) y)).length≤1000 then match C4 (Tr.gName 1) (fun _=>.ok true) (AKZ (A1 1)) [some (AI4 (ds.map shp) 0 y w),none] ((List.range w).map fun (c:Nat)=>i7 (AA9 ds (0+(c:Int)) y)) with
   | .ok zs=>(m6 (Tr.gName 0) (fun _=>.ok true) (iOf A9 (A1 0)) 1 (fun _=>.ok true) (AKZ (A1 1)) [none,none] (ys.map fun y=>AI4 (ds.map shp) 0 y w)).bind fun xs=>.ok (zs++xs)
   | _=>.bad else .bad)=_
  rw[if_pos (by rw[List.length_map,List.length_range];omega),h1,ih]
  rfl
theorem X0 {ds:List Dd} (hd:∀d∈ds,AHW d) (hn:ds.length≤100) {w h:Nat} (W:Win 0 0 w h):K7 [dsT ds,.int (w:Int),.int (h:Int)]=.ok (B3 ((rI ds.length).filter fun k=>!((AH8 ds w (S8 0 h)).any (kEq (.int k))))):=by
 have b2:=W.l1
 have b4:=W.t1
 have e:g9 [some (dsT ds),some (.int (w:Int)),some (.int (h:Int)),none]=.rt (B3 ((rI ds.length).filter fun k=>!((AH8 ds w (S8 0 h)).any (kEq (.int k))))):=by
  unfold g9
  rw[ACK (ACR (x:=dsT ds) rfl (AE9 (by omega) hd))]
  rw[ACK (AE3 (x:=.int (w:Int)) (y:=.int (h:Int)) rfl rfl (AIR W.w0 (by omega) W.h0 (by omega)))]
  have hk:AIH (iOf A9 (eF (A3 5 [] V3) (A0 (A1 0) (A0 (A1 1) (A0 (A1 2) (A0 (eC (.int 0)) (A0 (eC (.int 0)) A2))))))) [none,none] (Tr.gName 0) (fun _=>.ok true) (iOf A9 (A1 0)) 1 (fun _=>.ok true) (A1 1) [some (dsT ds),some (.int (w:Int)),some (.int (h:Int)),none]=.ok (z9 (AH8 ds w (S8 0 h))):=by
   unfold AIH
   rw[O8 (ts:=(S8 0 h).map fun y=>AI4 (ds.map shp) 0 y w) (AcA (x:=dsT ds) (y:=.int (w:Int)) (z:=.int (h:Int)) (w:=.int 0) (v:=.int 0) rfl rfl rfl rfl rfl (ABG hd hn W))]
   show (if ((S8 0 h).map fun y=>AI4 (ds.map shp) 0 y w).length≤1000 then (m6 _ _ _ _ _ _ [none,none] _).bind _ else R.bad)=_
   rw[if_pos (by rw[List.length_map];unfold S8;rw[List.length_map,List.length_range];omega),AFS ds (by omega)]
   rfl
  rw[O1 (v:=z9 (AH8 ds w (S8 0 h))) (ρ':=[some (dsT ds),some (.int (w:Int)),some (.int (h:Int)),some (z9 (AH8 ds w (S8 0 h)))]) hk rfl]
  have hl:AA4 [dsT ds]=some (.int (ds.length:Int)):=by
   show some (PyData.int ((ds.map DdT).length:Int))=_
   rw[List.length_map]
  refine E6 (J1 (AFZ (n:=(ds.length:Int)) (AB6 (x:=dsT ds) rfl hl) (by omega) (by omega)) (by simp;omega) ?_)
  show C4 _ _ _ [none,some (z9 (AH8 ds w (S8 0 h)))] _=_
  exact W8 (rI ds.length) fun k _=>h_b (h_2 (x:=.int k) (y:=z9 (AH8 ds w (S8 0 h))) rfl rfl rfl)
 show clR (Tr.run 4 g9 [dsT ds,.int (w:Int),.int (h:Int)])=_
 rw[E4 (ρ:=[some (dsT ds),some (.int (w:Int)),some (.int (h:Int)),none]) rfl e]
 rfl
def kept (p:Nat→Bool):Nat→List Dd→List Dd
 | _,[]=>[]
 | k,d::r=>if p k=true then d::kept p (k+1) r else kept p (k+1) r
def rk (p:Nat→Bool):Nat→Nat→Nat
 | _,0=>0
 | k,n+1=>(if p k=true then 1 else 0)+rk p (k+1) n
theorem ABV (p:Nat→Bool) (x y:Int):∀(ds:List Dd) (k m:Nat),(∀i,T6 (ds.map shp) k x y=some (k+i)→p (k+i)=true) →
  (∀i,T6 (ds.map shp) k x y=some (k+i)→T6 ((kept p k ds).map shp) m x y=some (m+rk p k i))∧(T6 (ds.map shp) k x y=none→T6 ((kept p k ds).map shp) m x y=none)
 | [],k,m,_=>⟨fun i h=>(by cases h),fun _=>rfl⟩
 | d::r,k,m,h=>by
  have hw:T6 ((d::r).map shp) k x y=match T6 (r.map shp) (k+1) x y with
   | some i=>some i
   | none=>if inA (shp d) x y=true then some k else none:=rfl
  cases e:T6 (r.map shp) (k+1) x y with
  | some j =>
   rw[hw,e]at h ⊢
   obtain ⟨j1,_⟩:=ABS _ _ _ _ _ e
   obtain ⟨i,rfl⟩:∃i,j=k+1+i:=⟨j-(k+1),by omega⟩
   refine ⟨fun i' h'=>?_,fun z=>by cases z⟩
   have hi:i'=i+1:=by have:=Option.some.inj h';omega
   subst hi
   have ih:=fun m=>(ABV p x y r (k+1) m (fun i2 h2=>by
    rw[e]at h2
    have:=Option.some.inj h2
    have q:=h (i+1) (by rw[show k+(i+1)=k+1+i by omega])
    rw[show k+1+i2=k+(i+1) by omega]
    exact q)).1 i e
   unfold kept rk
   by_cases hp:p k=true
   ·rw[if_pos hp,if_pos hp]
    show (match T6 ((kept p (k+1) r).map shp) (m+1) x y with
     | some i=>some i
     | none=>if inA (shp d) x y=true then some m else none)=_
    rw[ih (m+1)]
    show some _=some _
    congr 1
    omega
   ·rw[if_neg hp,if_neg hp,ih m]
    congr 1
    omega
  | none =>
   rw[hw,e]at h ⊢
   have ih:=fun m=>(ABV p x y r (k+1) m (fun i2 h2=>by rw[e]at h2;cases h2)).2 e
   by_cases ha:inA (shp d) x y=true
   ·have hp:p k=true:=h 0 (by show (if inA (shp d) x y=true then some k else none)=_;rw[if_pos ha];rfl)
    refine ⟨fun i h'=>?_,fun z=>?_⟩
    ·have hi:i=0:=by
      have h2:(if inA (shp d) x y=true then some k else none)=some (k+i):=h'
      rw[if_pos ha]at h2
      have:=Option.some.inj h2
      omega
     subst hi
     unfold kept
     rw[if_pos hp]
     show (match T6 ((kept p (k+1) r).map shp) (m+1) x y with
      | some i=>some i
      | none=>if inA (shp d) x y=true then some m else none)=_
     rw[ih (m+1)]
     show (if inA (shp d) x y=true then some m else none)=_
     rw[if_pos ha]
     rfl
    ·have h2:(if inA (shp d) x y=true then some k else none)=none:=z
     rw[if_pos ha]at h2
     cases h2
   ·refine ⟨fun i h'=>?_,fun _=>?_⟩
    ·have h2:(if inA (shp d) x y=true then some k else none)=some (k+i):=h'
     rw[if_neg ha]at h2
     cases h2
    ·unfold kept
     by_cases hp:p k=true
     ·rw[if_pos hp]
      show (match T6 ((kept p (k+1) r).map shp) (m+1) x y with
       | some i=>some i
       | none=>if inA (shp d) x y=true then some m else none)=_
      rw[ih (m+1)]
      show (if inA (shp d) x y=true then some m else none)=_
      rw[if_neg ha]
     ·rw[if_neg hp]
      exact ih m
theorem AJ8 (p:Nat→Bool):∀(ds:List Dd) (k i:Nat),p (k+i)=true→i<ds.length→(kept p k ds)[rk p k i]?=ds[i]?
 | [],k,i,_,h=>by cases h
 | d::r,k,0,hp,h=>by
  unfold kept rk
  rw[if_pos (show p k=true from hp)]
  rfl
 | d::r,k,i+1,hp,h=>by
  have ih:=AJ8 p r (k+1) i (by rw[show k+1+i=k+(i+1) by omega];exact hp) (by rw[List.length_cons]at h;omega)
  unfold kept rk
  by_cases q:p k=true
  ·rw[if_pos q,if_pos q,show 1+rk p (k+1) i=rk p (k+1) i+1 by omega,List.getElem?_cons_succ,ih,List.getElem?_cons_succ]
  ·rw[if_neg q,if_neg q,Nat.zero_add,ih,List.getElem?_cons_succ]
theorem AE7 (p:Nat→Bool):∀(ds:List Dd) (k j:Nat),j<(kept p k ds).length→∃i,i<ds.length∧p (k+i)=true∧rk p k i=j
 | [],k,j,h=>by cases h
 | d::r,k,j,h=>by
  unfold kept at h
  by_cases q:p k=true
  ·rw[if_pos q]at h
   cases j with
   | zero=>exact ⟨0,by simp,q,rfl⟩
   | succ j =>
    obtain ⟨i,h1,h2,h3⟩:=AE7 p r (k+1) j (by rw[List.length_cons]at h;omega)
    refine ⟨i+1,by rw[List.length_cons];omega,by rw[show k+(i+1)=k+1+i by omega];exact h2,?_⟩
    unfold rk
    rw[if_pos q,h3]
    omega
  ·rw[if_neg q]at h
   obtain ⟨i,h1,h2,h3⟩:=AE7 p r (k+1) j h
   refine ⟨i+1,by rw[List.length_cons];omega,by rw[show k+(i+1)=k+1+i by omega];exact h2,?_⟩
   unfold rk
   rw[if_neg q,h3]
   omega
theorem AEJ (p:Nat→Bool):∀(ds:List Dd) (k:Nat),∀d∈kept p k ds,d∈ds
 | [],_,d,h=>h
 | e::r,k,d,h=>by
  unfold kept at h
  by_cases q:p k=true
  ·rw[if_pos q]at h
   rcases List.mem_cons.mp h with z | z
   ·exact z▸List.mem_cons_self
   ·exact .tail _ (AEJ p r (k+1) d z)
  ·rw[if_neg q]at h
   exact .tail _ (AEJ p r (k+1) d h)
theorem AJ6 (p:Nat→Bool):∀(ds:List Dd) (k:Nat),(kept p k ds).length≤ds.length
 | [],_=>Nat.le_refl _
 | e::r,k=>by
  have:=AJ6 p r (k+1)
  unfold kept
  split
  ·rw[List.length_cons,List.length_cons];omega
  ·rw[List.length_cons];omega
theorem AK6 (x y:Int):∀(as bs:List (List Sp)) (k:Nat),T6 (as++bs) k x y=match T6 bs (k+as.length) x y with
  | some i=>some i
  | none=>T6 as k x y
 | [],bs,k=>by
  show T6 bs k x y=match T6 bs (k+0) x y with
   | some i=>some i
   | none=>none
  cases T6 bs k x y<;>rfl
 | a::as,bs,k=>by
  show (match T6 (as++bs) (k+1) x y with
   | some i=>some i
   | none=>if inA a x y=true then some k else none)=_
  rw[AK6 x y as bs (k+1),List.length_cons,show k+(as.length+1)=k+1+as.length by omega]
  cases T6 bs (k+1+as.length) x y<;>rfl
theorem AGT (x y:Int):∀(as:List (List Sp)) (k k':Nat),T6 as k x y=none→T6 as k' x y=none
 | [],_,_,_=>rfl
 | a::as,k,k',h=>by
  have h':(match T6 as (k+1) x y with
   | some i=>some i
   | none=>if inA a x y=true then some k else none)=none:=h
  cases e:T6 as (k+1) x y with
  | some i=>rw[e]at h';cases h'
  | none =>
   rw[e]at h'
   have ha:¬inA a x y=true:=fun z=>by
    have h2:(if inA a x y=true then some k else none)=none:=h'
    rw[if_pos z]at h2;cases h2
   show (match T6 as (k'+1) x y with
    | some i=>some i
    | none=>if inA a x y=true then some k' else none)=none
   rw[AGT x y as (k+1) (k'+1) e]
   exact if_neg ha
theorem AMJ (ds:List Dd) (x y:Int) (i:Nat) (h:AA9 (ds++ds) x y=some i):ds.length≤i:=by
 unfold AA9 who at h
 rw[List.map_append,AK6,List.length_map,Nat.zero_add]at h
 cases e:T6 (ds.map shp) ds.length x y with
 | some j=>rw[e]at h;have:=Option.some.inj h;have:=ABS _ _ _ _ _ e;omega
 | none=>rw[e]at h;rw[AGT x y _ _ 0 e]at h;cases h
noncomputable abbrev fl (D:List Dd) (W H:Nat):List T:=AH8 D W (S8 0 H)
noncomputable def sn (D:List Dd) (W H:Nat) (k:Int):Bool:=(fl D W H).any (kEq (.int k))
noncomputable def hid (D:List Dd) (W H:Nat):List Int:=(rI D.length).filter fun k=>!(sn D W H k)
theorem sn_iff {D:List Dd} {W H:Nat} {k:Int}:sn D W H k=true↔∃x y:Int,(0≤x∧x<W)∧(0≤y∧y<H)∧∃i:Nat,AA9 D x y=some i∧(i:Int)=k:=by
 unfold sn
 rw[List.any_eq_true]
 constructor
 ·rintro ⟨t,ht,z⟩
  obtain ⟨y,hy,ht⟩:=List.mem_flatMap.mp ht
  obtain ⟨c,hc,rfl⟩:=List.mem_map.mp ht
  have hc:=List.mem_range.mp hc
  have hy:=V8 hy
  refine ⟨0+(c:Int),y,by omega,by omega,?_⟩
  cases e:AA9 D (0+(c:Int)) y with
  | none=>rw[e]at z;cases z
  | some i=>rw[e]at z;exact ⟨i,rfl,(eq_of_beq (show (k == (i:Int))=true from z)).symm⟩
 ·rintro ⟨x,y,hx,hy,i,e,rfl⟩
  obtain ⟨c,rfl⟩:=Int.eq_ofNat_of_zero_le hx.1
  refine ⟨i7 (some i),List.mem_flatMap.mpr ⟨y,AJH hy.1 (by omega),List.mem_map.mpr ⟨c,List.mem_range.mpr (by omega),by rw[Int.zero_add,e]⟩⟩,?_⟩
  exact beq_self_eq_true (i:Int)
theorem rI_mem {n:Nat} {k:Int}:k∈rI n↔0≤k∧k<n:=by
 constructor
 ·intro h
  obtain ⟨c,hc,rfl⟩:=List.mem_map.mp h
  have:=List.mem_range.mp hc
  omega
 ·intro h
  exact List.mem_map.mpr ⟨k.toNat,List.mem_range.mpr (by omega),by omega⟩
theorem hid_mem {D:List Dd} {W H:Nat} {k:Int}:k∈hid D W H↔(0≤k∧k<D.length)∧sn D W H k=false:=by
 unfold hid
 rw[List.mem_filter,rI_mem,Bool.not_eq_true']
theorem AMZ (D:List Dd) (W H:Nat):(hid D W H).length≤D.length:=by
 have:=List.length_filter_le (fun k=>!(sn D W H k)) (rI D.length)
 rw[List.length_map,List.length_range]at this
 exact this
theorem AJX (p:Int→Bool):∀l:List Int,l.filter p∈ALD l
 | []=>List.mem_singleton.mpr rfl
 | a::r=>by
  have ih:=AJX p r
  unfold ALD
  rw[List.filter_cons]
  split
  ·exact List.mem_append_right _ (List.mem_map.mpr ⟨_,ih,rfl⟩)
  ·exact List.mem_append_left _ ih
theorem AVP:∀n∈List.range 6,∀l∈ALD (rI n),l∈L5:=by decide +kernel
theorem AfT {D:List Dd} (h:D.length≤5) (W H:Nat):hid D W H∈L5:=AVP D.length (List.mem_range.mpr (by omega)) _ (AJX _ _)
theorem Ab6 {l:List Int} (h:l∈L5):AdC [B3 l]=some (B3 l):=by
 show ((P8 (l.map PyData.int)).bind fun ns=>if ns∈L5 then some (PyData.list (ns.map .int)) else none)=_
 rw[AEL,Option.bind_some,if_pos h]
theorem Aa1 (o:Option Nat):Sh 0 (i7 o):=by
 cases o with
 | none=>exact ⟨by show PyData.canLay0 PyData.none=true;unfold PyData.canLay0;rfl,by show PyData.depth PyData.none≤0;unfold PyData.depth;omega⟩
 | some i=>exact AAM _ _
theorem AU0 (D:List Dd) (W:Nat) (ys:List Int):Sh 1 (.list (AH8 D W ys)):=ALU fun t ht=>by
 obtain ⟨y,_,ht⟩:=List.mem_flatMap.mp ht
 obtain ⟨c,_,rfl⟩:=List.mem_map.mp ht
 exact Aa1 _
theorem AEO (cs:List Int):Sh 1 (B3 cs):=ALU fun t ht=>by
 obtain ⟨i,_,rfl⟩:=List.mem_map.mp ht
 exact AAM _ _
theorem AJC {k:Int} {xs:List T} (h:Sh 1 (.list xs)):ASN (.int k) (.list xs)=some (xs.any fun y=>PyData.eqv y (.int k)):=by
 show (if (SeqAt.shaped (.int k)&&SeqAt.shaped (.list xs))=true then some (xs.any fun y=>PyData.eqv y (.int k)) else none)=_
 rw[if_pos (by rw[h.shaped (by decide),(AAM k 0).shaped (by decide)];rfl)]
theorem AWA (D:List Dd) (W H:Nat) (k:Int):APM (.int k) (.list (fl D W H))=some (.bool (sn D W H k)):=by
 unfold APM
 rw[AJC (AU0 D W _)]
 show some (PyData.bool _)=_
 congr 2
 unfold sn
 rw[Bool.eq_iff_iff,List.any_eq_true,List.any_eq_true]
 have key:∀t∈fl D W H,PyData.eqv t (.int k)=kEq (.int k) t:=fun t ht=>by
  obtain ⟨y,_,ht⟩:=List.mem_flatMap.mp ht
  obtain ⟨c,_,rfl⟩:=List.mem_map.mp ht
  cases AA9 D (0+(c:Int)) y with
  | none=>rfl
  | some i=>show ((i:Int) == k)=(k == (i:Int));exact Bool.beq_comm
 constructor
 ·rintro ⟨t,ht,z⟩;exact ⟨t,ht,by rw[←key t ht];exact z⟩
 ·rintro ⟨t,ht,z⟩;exact ⟨t,ht,by rw[key t ht];exact z⟩
theorem AOT {D:List Dd} {W H:Nat} {k:Int} (h:0≤k∧k<D.length):ASN (.int k) (B3 (hid D W H))=some (!(sn D W H k)):=by
 rw[AJC (AEO _)]
 congr 1
 rw[Bool.eq_iff_iff,List.any_eq_true,Bool.not_eq_true']
 constructor
 ·rintro ⟨t,ht,z⟩
  obtain ⟨i,hi,rfl⟩:=List.mem_map.mp ht
  have e:i=k:=eq_of_beq (show (i == k)=true from z)
  subst e
  exact (hid_mem.mp hi).2
 ·intro z
  exact ⟨.int k,List.mem_map.mpr ⟨k,hid_mem.mpr ⟨h,z⟩,rfl⟩,beq_self_eq_true k⟩
theorem Aa8 {D:List Dd} {W H:Nat} {k:Int} (h:0≤k∧k<D.length):APM (.int k) (B3 (hid D W H))=some (.bool (!(sn D W H k))):=by
 unfold APM;rw[AOT h];rfl
theorem ASM {D:List Dd} {W H:Nat} {k:Int} (h:0≤k∧k<D.length):R9 (.int k) (B3 (hid D W H))=some (.bool (sn D W H k)):=by
 unfold R9;rw[AOT h];show some (PyData.bool (!!(sn D W H k)))=_;rw[Bool.not_not]
noncomputable abbrev kp (D:List Dd) (W H:Nat):List Dd:=kept (fun i=>sn D W H (i:Int)) 0 D
theorem AIZ {D:List Dd} {W H:Nat} {x y:Int} (hx:0≤x∧x<W) (hy:0≤y∧y<H):(∀i,AA9 D x y=some i→AA9 (kp D W H) x y=some (rk (fun i=>sn D W H (i:Int)) 0 i))∧(AA9 D x y=none→AA9 (kp D W H) x y=none):=by
 have:=ABV (fun i=>sn D W H (i:Int)) x y D 0 0 fun i h=>by
  rw[Nat.zero_add]at h ⊢
  exact sn_iff.mpr ⟨x,y,hx,hy,i,h,rfl⟩
 refine ⟨fun i h=>?_,this.2⟩
 have q:=this.1 i (by rw[Nat.zero_add];exact h)
 rw[Nat.zero_add]at q
 exact q
theorem AM1 {D:List Dd} {W H:Nat} {x y:Int} (hx:0≤x∧x<W) (hy:0≤y∧y<H):cell (kp D W H) x y=cell D x y:=by
 obtain ⟨h1,h2⟩:=AIZ (D:=D) hx hy
 unfold cell
 cases e:AA9 D x y with
 | none=>rw[h2 e];rfl
 | some i =>
  rw[h1 i e]
  have hi:i<D.length:=by
   have:=ABS _ _ _ _ _ e
   rw[List.length_map]at this
   omega
  have hs:sn D W H ((0+i:Nat):Int)=true:=sn_iff.mpr ⟨x,y,hx,hy,i,e,by rw[Nat.zero_add]⟩
  show (match (kp D W H)[rk (fun i=>sn D W H (i:Int)) 0 i]? with
   | some d=>AbR d
   | none=>0)=_
  rw[AJ8 _ D 0 i hs hi]
  rfl
theorem APA (D:List Dd) (W H:Nat):page (kp D W H) 0 0 W H=page D 0 0 W H:=by
 unfold page
 refine List.map_congr_left fun y hy=>List.map_congr_left fun x hx=>?_
 have hy:=V8 hy
 have hx:=V8 hx
 exact AM1 (by omega) (by omega)
theorem AQT (D:List Dd) (W H:Nat):hid (kp D W H) W H=[]:=by
 refine List.eq_nil_iff_forall_not_mem.mpr fun k hk=>?_
 obtain ⟨h1,h2⟩:=hid_mem.mp hk
 obtain ⟨j,rfl⟩:=Int.eq_ofNat_of_zero_le h1.1
 obtain ⟨i,a1,a2,a3⟩:=AE7 (fun i=>sn D W H (i:Int)) D 0 j (by have q:((j:Nat):Int)<((kp D W H).length:Int):=h1.2;exact Int.ofNat_lt.mp q)
 rw[Nat.zero_add]at a2
 obtain ⟨x,y,hx,hy,i',e,ei⟩:=sn_iff.mp a2
 have:i'=i:=by omega
 subst this
 have q:=(AIZ (D:=D) hx hy).1 i' e
 rw[a3]at q
 rw[sn_iff.mpr ⟨x,y,hx,hy,j,q,rfl⟩]at h2
 cases h2
theorem AWB {D:List Dd} {W H W' H':Nat} (hw:W≤W') (hh:H≤H') {k:Int} (h:sn D W H k=true):sn D W' H' k=true:=by
 obtain ⟨x,y,hx,hy,r⟩:=sn_iff.mp h
 exact sn_iff.mpr ⟨x,y,by omega,by omega,r⟩
theorem APF (D:List Dd) (W H:Nat):(hid (D++D) W H).take D.length=rI D.length:=by
 have e:hid (D++D) W H=rI D.length++((List.range D.length).map fun (i:Nat)=>((D.length+i:Nat):Int)).filter fun k=>!(sn (D++D) W H k):=by
  unfold hid rI
  rw[List.length_append,List.range_add,List.map_append,List.filter_append,List.map_map]
  congr 1
  refine List.filter_eq_self.mpr fun k hk=>?_
  have hk:=rI_mem.mp hk
  rw[Bool.not_eq_true']
  cases q:sn (D++D) W H k with
  | false=>rfl
  | true =>
   obtain ⟨x,y,_,_,i,e,ei⟩:=sn_iff.mp q
   have:=AMJ D x y i e
   omega
 rw[e,List.take_append_of_le_length (by simp),List.take_of_length_le (by simp)]
theorem AY0 {xs:List T} {n:Nat} (hn:n≤xs.length):ADK xs none (some (n:Int))=xs.take n:=by
 unfold ADK
 rw[HT.sIx_none,HT.sIx_nat,List.drop_zero,Nat.sub_zero,Nat.min_eq_left hn]
theorem ARD {xs:List T} {n:Nat} (hn:n≤xs.length):ADK xs (some (n:Int)) none=xs.drop n:=by
 unfold ADK
 rw[HT.sIx_none,HT.sIx_nat,Nat.min_eq_left hn]
 exact List.take_of_length_le (by rw[List.length_drop];omega)
theorem Af7 {a b:FE} {ρ:Ev} {xs:List T} {n:Nat} (h1:a ρ=.ok (.list xs)) (h2:b ρ=.ok (.int (n:Int))) (hn:n≤xs.length):ALK a none (some b) ρ=.ok (.list (xs.take n)):=by
 have ov:AWZ (some b) ρ=.ok (some (n:Int)):=by
  show (b ρ).bind _=_
  rw[h2]
  rfl
 unfold ALK
 rw[h1,ov]
 show R.ok (PyData.list (ADK xs none (some (n:Int))))=_
 rw[AY0 hn]
theorem AaB {a b:FE} {ρ:Ev} {xs:List T} {n:Nat} (h1:a ρ=.ok (.list xs)) (h2:b ρ=.ok (.int (n:Int))) (hn:n≤xs.length):ALK a (some b) none ρ=.ok (.list (xs.drop n)):=by
 have ov:AWZ (some b) ρ=.ok (some (n:Int)):=by
  show (b ρ).bind _=_
  rw[h2]
  rfl
 unfold ALK
 rw[h1,ov]
 show R.ok (PyData.list (ADK xs (some (n:Int)) none))=_
 rw[ARD hn]
theorem AeK {m:List T→R T} {a b c:FE} {ρ:Ev} {x y z d e:T} {r:R T} (h1:a ρ=.ok x) (h2:b ρ=.ok y) (h3:c ρ=.ok z) (h:m [x,y,z,d,e]=r):eF (A3 5 [d,e] m) (A0 a (A0 b (A0 c A2))) ρ=r:=by
 unfold eF A0 A2;rw[h1,h2,h3];exact h
theorem Ae5 (r:List Int):Sh 1 (rT r):=L3 fun t ht=>by
 obtain ⟨i,_,rfl⟩:=List.mem_map.mp ht
 exact AAM _ _
theorem Ac6 (p:List (List Int)):Sh 2 (pT p):=L3 fun t ht=>by
 obtain ⟨r,_,rfl⟩:=List.mem_map.mp ht
 exact Ae5 r
theorem AUV {d:Nat} {t:T} (h:Sh d t) (hd:d≤64):Tr.eqT t t=some (.bool true):=by
 show (eqB t t).map PyData.bool=_
 rw[AJL h hd]
 rfl
theorem Ab3 {n:Nat} (h:n≤1000):lr1 [.int (n:Int)]=some (B3 (rI n)):=by
 unfold lr1
 dsimp only
 rw[if_pos (by omega),Int.toNat_natCast,AJQ]
def sqP:List P2:=[(0,0),(9,0),(9,9),(0,9)]
def sqD (i:Int):Dd:=.fill [(sqP,true)] true i []
theorem at0:At 0 12 120:=⟨0,by grind,by decide⟩
theorem at9:At 9 12 120:=⟨108,by grind,by decide⟩
theorem AcD {i:Int} (h0:0≤i) (h1:i≤15):AHW (sqD i):=by
 refine ⟨⟨by decide,fun q hq=>?_,fun q hq=>?_,fun q hq p hp=>?_⟩,h0,h1,⟨by decide,fun c hc=>by cases hc⟩⟩
 ·rw[List.mem_singleton.mp hq];exact List.cons_ne_nil _ _
 ·rw[List.mem_singleton.mp hq];decide
 ·rw[List.mem_singleton.mp hq]at hp
  simp only[sqP,List.mem_cons,List.not_mem_nil,or_false]at hp
  rcases hp with rfl | rfl | rfl | rfl
  ·exact ⟨at0,at0⟩
  ·exact ⟨at9,at0⟩
  ·exact ⟨at9,at9⟩
  ·exact ⟨at0,at9⟩
theorem AZH (i:Int):DdT (sqD i)=.tuple [.str (Str.ofString "fill"),.tuple [.tuple [.tuple [.tuple [.tuple [.int 0,.int 1],.tuple [.int 0,.int 1]],.tuple [.tuple [.int 9,.int 1],.tuple [.int 0,.int 1]],.tuple [.tuple [.int 9,.int 1],.tuple [.int 9,.int 1]],.tuple [.tuple [.int 0,.int 1],.tuple [.int 9,.int 1]]],.bool true]],.str (Str.ofString "odd"),.int i,.tuple []]:=rfl
theorem AdH {a b:FE} {ρ:Ev} {xs ys:List Dd} (h1:a ρ=.ok (dsT xs)) (h2:b ρ=.ok (dsT ys)) (hl:xs.length+ys.length≤1000):e2 E9 a b ρ=.ok (dsT (xs++ys)):=by
 have:dsT (xs++ys)=.list (xs.map DdT++ys.map DdT):=by
  show PyData.list ((xs++ys).map DdT)=_
  rw[List.map_append]
 rw[this]
 exact h_2 h1 h2 (AbL (by rw[List.length_map,List.length_map];exact hl))
theorem toD {a b:FE} {ρ:Ev} {xs:List Dd} {n:Nat} (h1:a ρ=.ok (dsT xs)) (h2:b ρ=.ok (.int (n:Int))) (hn:n≤xs.length):ALK a none (some b) ρ=.ok (dsT (xs.take n)):=by
 rw[Af7 h1 h2 (by rw[List.length_map];exact hn),←List.map_take]
theorem AcG {a b:FE} {ρ:Ev} {xs:List Dd} {n:Nat} (h1:a ρ=.ok (dsT xs)) (h2:b ρ=.ok (.int (n:Int))) (hn:n≤xs.length):ALK a (some b) none ρ=.ok (dsT (xs.drop n)):=by
 rw[AaB h1 h2 (by rw[List.length_map];exact hn),←List.map_drop]
theorem AbX (D:List Dd):AA4 [dsT D]=some (.int (D.length:Int)):=by
 show some (PyData.int ((D.map DdT).length:Int))=_
 rw[List.length_map]
theorem AP2:Tr.neT (.list []) (.list [])=some (.bool false):=AHQ (AEO []) (by decide)
theorem ACN {test:FT} {r:Ev} (cs:List Int) (h:∀x∈cs,test (some (.int x)::r)=.ok false):C4 (Tr.gName 0) test (A1 0) (none::r) (cs.map PyData.int)=.ok []:=by
 rw[W8 (p:=fun _=>false) cs h]
 simp
noncomputable abbrev laB:FS:=C0 (Tr.gName 6) (e2 E9 (A1 6) (E2 (iN AKS (A0 (A1 3) A2)) [none,some 1,some 7] (Tr.gName 0) (fun _=>.ok true) (eF (A3 3 [] S0) (A0 (A1 1) (A0 (A1 0) (A0 (A1 2) A2))))))
theorem ANY (D:List Dd) (W:Nat) (y:Int) (ys:List Int):AH8 D W (y::ys)=((List.range W).map fun (c:Nat)=>i7 (AA9 D (0+(c:Int)) y))++AH8 D W ys:=by unfold AH8;rw[List.flatMap_cons]
theorem AOI {D:List Dd} (hd:∀d∈D,AHW d) (hn:D.length≤100) {W:Nat} (hW:W≤9) {o0 o2 o4 o5:Option T}:∀(ys:List Int) (acc:List T) (o7:Option T),(∀y∈ys,0≤y∧y≤9)→acc.length+ys.length*10≤900→∃p7:Option T,
  AD5 (Tr.gName 7) laB (ys.map PyData.int) [o0,some (dsT D),o2,some (.int (W:Int)),o4,o5,some (.list acc),o7,none]=.nx [o0,some (dsT D),o2,some (.int (W:Int)),o4,o5,some (.list (acc++AH8 D W ys)),p7,none]
 | [],acc,o7,_,_=>⟨o7,by
  show SR.nx _=SR.nx _
  unfold AH8
  rw[List.flatMap_nil,List.append_nil]⟩
 | y::ys,acc,o7,hy,hl=>by
  rw[List.length_cons]at hl
  obtain ⟨p7,ih⟩:=AOI hd hn hW (o0:=o0) (o2:=o2) (o4:=o4) (o5:=o5) ys (acc++(List.range W).map fun (c:Nat)=>i7 (AA9 D (0+(c:Int)) y)) (some (.int y)) (fun z hz=>hy z (.tail _ hz)) (by rw[List.length_append,List.length_map,List.length_range];omega)
  refine ⟨p7,?_⟩
  rw[ANY,←List.append_assoc]
  have y0:=hy y List.mem_cons_self
  refine ACA (ρ1:=[o0,some (dsT D),o2,some (.int (W:Int)),o4,o5,some (.list acc),some (.int y),none]) rfl ?_ ih
  refine S1 (h_2 (x:=.list acc) rfl (J1 (AFZ (n:=(W:Int)) rfl (by omega) (by omega)) (by simp;omega) ?_) (AbL (by rw[List.length_map,List.length_range];omega)))
  show C4 _ _ _ [none,some (dsT D),some (.int y)] _=_
  rw[Int.toNat_natCast,List.map_map]
  exact Q8 (i:=fun c:Nat=>PyData.int (c:Int)) (List.range W) fun c hc=>⟨[some (.int (c:Int)),some (dsT D),some (.int y)],rfl,W3 (x:=dsT D) (y:=.int (c:Int)) (z:=.int y) rfl rfl rfl (by
   have:=List.mem_range.mp hc
   rw[Int.zero_add]
   exact AYX hd hn ⟨by omega,by omega⟩ ⟨by omega,by omega⟩)⟩
theorem AG0 (D:List Dd) (W H:Nat):∀(ds:List Dd) (k:Nat),k+ds.length≤D.length→C4 (Tr.gTup [Tr.gName 0,Tr.gName 1]) (bV (e2 R9 (A1 0) (A1 2))) (A1 1) [none,none,some (B3 (hid D W H))] (w8 k (ds.map DdT))=.ok ((kept (fun i=>sn D W H (i:Int)) k ds).map DdT)
 | [],_,_=>rfl
 | d::ds,k,h=>by
  rw[List.length_cons]at h
  have ih:=AG0 D W H ds (k+1) (by omega)
  have ht:bV (e2 R9 (A1 0) (A1 2)) [some (.int (k:Int)),some (DdT d),some (B3 (hid D W H))]=.ok (sn D W H (k:Int)):=h_b (h_2 (x:=.int (k:Int)) (y:=B3 (hid D W H)) rfl rfl (ASM (by omega)))
  have hg:Tr.gTup [Tr.gName 0,Tr.gName 1] (.tuple [.int (k:Int),DdT d]) [none,none,some (B3 (hid D W H))]=some [some (.int (k:Int)),some (DdT d),some (B3 (hid D W H))]:=rfl
  rw[List.map_cons,w8,C4]
  unfold kept
  cases q:sn D W H (k:Int) with
  | true =>
   rw[q]at ht
   simp only[hg,ht,ih]
   rfl
  | false =>
   rw[q]at ht
   simp only[hg,ht,ih]
   rfl
theorem AfD {a:FE} {ρ:Ev} {x:T} (h:a ρ=.ok x):A0 a A2 ρ=.ok [x]:=by unfold A0;rw[h];rfl
theorem AT5:∀(xs:List T) (n:Nat),(w8 n xs).length=xs.length
 | [],_=>rfl
 | x::xs,n=>by rw[w8,List.length_cons,List.length_cons,AT5 xs]
theorem AS1:∀ns:List Int,ns.length≤63→AMU [.list (ns.map PyData.int)]=.ok (.bool true):=by
 intro ns hl
 obtain ⟨d0,e0,a0,b0⟩:=D0 ns 900 3 (by decide) (by decide) hl
 obtain ⟨d1,e1,a1,b1⟩:=D0 ns 901 6 (by decide) (by decide) hl
 obtain ⟨d2,e2',a2,b2⟩:=D0 ns 902 5 (by decide) (by decide) hl
 obtain ⟨d3,e3,a3,b3⟩:=D0 ns 903 2 (by decide) (by decide) hl
 obtain ⟨d4,e4,a4,b4⟩:=D0 ns 904 16 (by decide) (by decide) hl
 obtain ⟨n0,rfl⟩:=Int.eq_ofNat_of_zero_le a0
 obtain ⟨n1,rfl⟩:=Int.eq_ofNat_of_zero_le a1
 obtain ⟨n2,rfl⟩:=Int.eq_ofNat_of_zero_le a2
 obtain ⟨ds,hds,hdo,hdl⟩:=AL8 hl (n:=2+n0) (by omega)
 generalize PyData.list (ns.map PyData.int)=L at *
 obtain ⟨W,hW⟩:∃W:Nat,W=2+n1:=⟨_,rfl⟩
 obtain ⟨H,hH⟩:∃H:Nat,H=2+n2:=⟨_,rfl⟩
 have cW:(2:Int)+(n1:Int)=(W:Int):=by omega
 have cH:(2:Int)+(n2:Int)=(H:Int):=by omega
 have e:AKU [some L,none,none,none,none,none,none,none,none]=.rt (.bool true):=by
  unfold AKU
  rw[O1 (v:=dsT ds) (ρ':=[some L,some (dsT ds),none,none,none,none,none,none,none]) (W3 (x:=L) (y:=.int 0) (z:=.int ((2+n0:Nat):Int)) rfl rfl (h_2 h_c (W3 (x:=L) rfl h_c h_c e0) (by rw[G8];congr 2)) hds) rfl]
  obtain ⟨D,o2,hd,hn,hs⟩:∃(D:List Dd) (o2:Option T),(∀d∈D,AHW d)∧D.length≤5∧∀rest:FS,B2 (sIf (bV (e2 eqT (eF (A3 3 [] A4) (A0 (A1 0) (A0 (eC (.int 903)) (A0 (eC (.int 2)) A2)))) (eC (.int 0)))) (B2 (C0 (Tr.gName 2) (eC (.tuple [(.tuple [(.tuple [(.int 0),(.int 1)]),(.tuple [(.int 0),(.int 1)])]),(.tuple [(.tuple [(.int 9),(.int 1)]),(.tuple [(.int 0),(.int 1)])]),(.tuple [(.tuple [(.int 9),(.int 1)]),(.tuple [(.int 9),(.int 1)])]),(.tuple [(.tuple [(.int 0),(.int 1)]),(.tuple [(.int 9),(.int 1)])])])))
  (C0 (Tr.gName 1) (e2 E9 (e2 E9 (ALK (A1 1) none (some (eC (.int 2)))) (S7 (A0 (D4 (A0 (eC (.str (Str.ofString "fill"))) (A0 (D4 (A0 (D4 (A0 (A1 2) (A0 (eC (.bool true)) A2))) A2)) (A0 (eC (.str (Str.ofString "odd"))) (A0 (eF (A3 3 [] A4) (A0 (A1 0) (A0 (eC (.int 904)) (A0 (eC (.int 16)) A2)))) (A0 (D4 A2) A2)))))) A2))) (ALK (A1 1) (some (eC (.int 2))) none)))) B9) rest [some L,some (dsT ds),none,none,none,none,none,none,none]=rest [some L,some (dsT D),o2,none,none,none,none,none,none]:=by
   by_cases q:d3=0
   ·subst q
    refine ⟨ds.take 2++[sqD d4]++ds.drop 2,some (.tuple [(.tuple [(.tuple [(.int 0),(.int 1)]),(.tuple [(.int 0),(.int 1)])]),(.tuple [(.tuple [(.int 9),(.int 1)]),(.tuple [(.int 0),(.int 1)])]),(.tuple [(.tuple [(.int 9),(.int 1)]),(.tuple [(.int 9),(.int 1)])]),(.tuple [(.tuple [(.int 0),(.int 1)]),(.tuple [(.int 9),(.int 1)])])]),fun x hx=>?_,?_,fun rest=>AZL (h_b (h_2 (W3 (x:=L) rfl h_c h_c e3) h_c rfl)) ?_⟩
    ·rcases List.mem_append.mp hx with z | z
     ·rcases List.mem_append.mp z with z | z
      ·exact hdo x (List.mem_of_mem_take z)
      ·rw[List.mem_singleton.mp z];exact AcD a4 (by omega)
     ·exact hdo x (List.mem_of_mem_drop z)
    ·rw[List.length_append,List.length_append,List.length_take,List.length_drop,List.length_singleton];omega
    ·rw[O1 (ρ':=[some L,some (dsT ds),some (.tuple [(.tuple [(.tuple [(.int 0),(.int 1)]),(.tuple [(.int 0),(.int 1)])]),(.tuple [(.tuple [(.int 9),(.int 1)]),(.tuple [(.int 0),(.int 1)])]),(.tuple [(.tuple [(.int 9),(.int 1)]),(.tuple [(.int 9),(.int 1)])]),(.tuple [(.tuple [(.int 0),(.int 1)]),(.tuple [(.int 9),(.int 1)])])]),none,none,none,none,none,none]) h_c rfl]
     refine S1 (AdH (xs:=ds.take 2++[sqD d4]) (AdH (xs:=ds.take 2) (ys:=[sqD d4]) (toD (xs:=ds) (n:=2) rfl h_c (by omega)) ?_ ?_) (AcG (xs:=ds) (n:=2) rfl h_c (by omega)) ?_)
     ·show _=R.ok (PyData.list [DdT (sqD d4)])
      rw[AZH]
      exact Ae3 (AcQ h_c (AbP (ALP rfl h_c)) h_c (W3 (x:=L) rfl h_c h_c e4) rfl)
     ·rw[List.length_take,List.length_singleton];omega
     ·rw[List.length_append,List.length_take,List.length_singleton,List.length_drop];omega
   ·refine ⟨ds,none,hdo,by omega,fun rest=>G6 (h_b (h_2 (W3 (x:=L) rfl h_c h_c e3) h_c ?_))⟩
    have:d3=1:=by omega
    subst this
    rfl
  rw[hs]
  have w0:Win 0 0 W H:=⟨by omega,by omega,by omega,by omega,by omega,by omega⟩
  have w1:Win 0 0 (W+2) (H+1):=⟨by omega,by omega,by omega,by omega,by omega,by omega⟩
  have kd:∀d∈kp D W H,AHW d:=fun d h=>hd d (AEJ _ D 0 d h)
  have kn:(kp D W H).length≤D.length:=AJ6 _ D 0
  have p1:=X0 hd (by omega) w0
  have p2:=X0 hd (by omega) w1
  have p3:=X0 (ds:=[]) (fun x hx=>by cases hx) (by decide) w0
  have p4:=X0 kd (by omega) w0
  have p5:=X0 (ds:=D++D) (fun x hx=>(List.mem_append.mp hx).elim (hd x) (hd x)) (by rw[List.length_append];omega) w0
  have p6:=ADO hd (by omega) w0
  have p7:=ADO kd (by omega) w0
  rw[APA]at p7
  have p1:K7 [dsT D,.int (W:Int),.int (H:Int)]=.ok (B3 (hid D W H)):=p1
  have p2:K7 [dsT D,.int ((W+2:Nat):Int),.int ((H+1:Nat):Int)]=.ok (B3 (hid D (W+2) (H+1))):=p2
  have p3:K7 [.list [],.int (W:Int),.int (H:Int)]=.ok (.list []):=p3
  have p4:K7 [dsT (kp D W H),.int (W:Int),.int (H:Int)]=.ok (B3 (hid (kp D W H) W H)):=p4
  have p5:K7 [dsT (D++D),.int (W:Int),.int (H:Int)]=.ok (B3 (hid (D++D) W H)):=p5
  rw[AQT]at p4
  rw[AQ9 (x:=.int (W:Int)) (y:=.int (H:Int)) (ρ':=[some L,some (dsT D),o2,some (.int (W:Int)),some (.int (H:Int)),none,none,none,none]) (h_2 h_c (W3 (x:=L) rfl h_c h_c e1) (by rw[G8,←cW])) (h_2 h_c (W3 (x:=L) rfl h_c h_c e2') (by rw[G8,←cH])) rfl]
  rw[O1 (v:=B3 (hid D W H)) (ρ':=[some L,some (dsT D),o2,some (.int (W:Int)),some (.int (H:Int)),some (B3 (hid D W H)),none,none,none]) (W3 (x:=dsT D) (y:=.int (W:Int)) (z:=.int (H:Int)) rfl rfl rfl p1) rfl]
  have hl1:=AMZ D W H
  rw[G6 (APO (h_b (h_2 (x:=B3 (hid D W H)) rfl (AB6 (x:=B3 (hid D W H)) rfl (Ab6 (AfT hn W H))) (AHQ (AEO _) (by decide)))) (h_b (h_2 (J1 (O8 (ts:=(hid D W H).map PyData.int) rfl) (by rw[List.length_map];omega) (xs:=[]) ?hc1) ATO AP2)))]
  case hc1 =>
   show C4 _ _ _ [none,some (dsT D)] _=_
   refine ACN _ fun x hx=>?_
   have hx:=hid_mem.mp hx
   unfold bNR
   rw[show A1 0 [some (.int x),some (dsT D)]=.ok (.int x) from rfl,show A0 (eN AA4 (A0 (A1 1) A2)) A2 [some (.int x),some (dsT D)]=.ok [.int (D.length:Int)] from AfD (AB6 (x:=dsT D) rfl (AbX D))]
   show R.ok (!(decide (0≤x)&&decide (x<(D.length:Int))))=_
   rw[decide_eq_true hx.1.1,decide_eq_true hx.1.2]
   rfl
  rw[O1 (v:=.list []) (ρ':=[some L,some (dsT D),o2,some (.int (W:Int)),some (.int (H:Int)),some (B3 (hid D W H)),some (.list []),none,none]) ATO rfl]
  obtain ⟨q7,lo⟩:=AOI hd (by omega) (W:=W) (by omega) (o0:=some L) (o2:=o2) (o4:=some (.int (H:Int))) (o5:=some (B3 (hid D W H))) (rI H) [] none (fun y hy=>by have:=rI_mem.mp hy;omega) (by show 0+_≤_;rw[List.length_map,List.length_range];omega)
  have hfl:AH8 D W (rI H)=fl D W H:=by
   have:rI H=S8 0 H:=by
    unfold S8
    refine List.map_congr_left fun c _=>?_
    rw[Int.zero_add]
   unfold fl
   rw[this]
  rw[List.nil_append,hfl]at lo
  refine (AGK (AFZ (n:=(H:Int)) rfl (by omega) (by omega)) (by rw[Int.toNat_natCast];exact lo)).trans ?_
  rw[G6 (h_b (h_2 (J1 (AFZ (n:=(D.length:Int)) (AB6 (x:=dsT D) rfl (AbX D)) (by omega) (by omega)) (by simp;omega) (xs:=[]) ?hc2) ATO AP2))]
  case hc2 =>
   show C4 _ _ _ [none,some (.list (fl D W H)),some (B3 (hid D W H))] _=_
   refine ACN _ fun x hx=>?_
   have hx:=rI_mem.mp hx
   refine h_b (h_2 (h_2 (x:=.int x) (y:=.list (fl D W H)) rfl rfl (AWA D W H x)) (h_2 (x:=.int x) (y:=B3 (hid D W H)) rfl rfl (Aa8 (by omega))) ?_)
   cases sn D W H x<;>rfl
  rw[O1 (v:=dsT (kp D W H)) (ρ':=[some L,some (dsT D),o2,some (.int (W:Int)),some (.int (H:Int)),some (B3 (hid D W H)),some (.list (fl D W H)),q7,some (dsT (kp D W H))]) (J1 (AZV (f:=AWC) (x:=dsT D) (ts:=w8 0 (D.map DdT)) rfl rfl) ?hln (AG0 D W H D 0 (by omega))) rfl]
  case hln=>rw[AT5,List.length_map];omega
  rw[G6 (APO (h_b (h_2 (AeK (x:=dsT (kp D W H)) (y:=.int (W:Int)) (z:=.int (H:Int)) rfl rfl rfl p7) (AeK (x:=dsT D) (y:=.int (W:Int)) (z:=.int (H:Int)) rfl rfl rfl p6) (AHQ (Ac6 _) (by decide)))) (h_b (h_2 (W3 (x:=dsT (kp D W H)) (y:=.int (W:Int)) (z:=.int (H:Int)) rfl rfl rfl p4) ATO AP2)))]
  have hl2:=AMZ D (W+2) (H+1)
  rw[G6 (h_b (h_2 (J1 (O8 (ts:=(hid D (W+2) (H+1)).map PyData.int) (W3 (x:=dsT D) (y:=.int ((W+2:Nat):Int)) (z:=.int ((H+1:Nat):Int)) rfl (h_2 (x:=.int (W:Int)) rfl h_c rfl) (h_2 (x:=.int (H:Int)) rfl h_c rfl) p2)) (by rw[List.length_map];omega) (xs:=[]) ?hc3) ATO AP2))]
  case hc3 =>
   show C4 _ _ _ [none,some (B3 (hid D W H))] _=_
   refine ACN _ fun x hx=>?_
   have hx:=hid_mem.mp hx
   have hs:sn D W H x=false:=by
    cases q:sn D W H x with
    | false=>rfl
    | true=>rw[AWB (by omega) (by omega) q]at hx;cases hx.2
   refine h_b (h_2 (x:=.int x) (y:=B3 (hid D W H)) rfl rfl ?_)
   rw[ASM (by omega),hs]
  rw[G6 (h_b (h_2 (W3 (x:=.list []) (y:=.int (W:Int)) (z:=.int (H:Int)) ATO rfl rfl p3) ATO AP2))]
  have ht:=APF D W H
  have hl3:D.length≤(hid (D++D) W H).length:=by
   have:=congrArg List.length ht
   rw[List.length_take,List.length_map,List.length_range]at this
   omega
  refine E6 (h_2 (Af7 (xs:=(hid (D++D) W H).map PyData.int) (n:=D.length) (W3 (x:=dsT (D++D)) (y:=.int (W:Int)) (z:=.int (H:Int)) (AdH (xs:=D) (ys:=D) rfl rfl (by omega)) rfl rfl p5) (AB6 (x:=dsT D) rfl (AbX D)) (by rw[List.length_map];exact hl3)) (AB6 (x:=.int (D.length:Int)) (AB6 (x:=dsT D) rfl (AbX D)) (Ab3 (by omega))) ?_)
  rw[←List.map_take,ht]
  exact AUV (AEO _) (by decide)
 show clR (Tr.run 9 AKU [L])=_
 rw[E4 (ρ:=[some L,none,none,none,none,none,none,none,none]) rfl e]
 rfl
end Kw
end
section
namespace Kw
open PySem hiding start
open PyProof.Rows hiding St
open L2 PySem.Spec Tr
def top (i:Nat):Stmt:=PySem.Challenge.pw_pageloom_k24_whole_hidden.main.body.getD i (.Pass ⟨0,0,0,0⟩)
abbrev AAF:Stmt:=top 6
abbrev ADR:List Str:=["thing"]
abbrev V4:Stmt:=top 8
abbrev x4:List Str:=["one","other"]
abbrev AAC:Stmt:=top 9
abbrev ADE:List Str:=["top","below"]
abbrev t8:Stmt:=top 10
abbrev ABJ:List Str:=["thing","top","below"]
abbrev Z4:Stmt:=top 51
abbrev AAN:List Str:=["_law_script","_law_k","_law_many","_law_cell","_law_turn","_law_rest"]
abbrev V9:Stmt:=top 52
abbrev AA1:List Str:=["_law_one","_law_other"]
abbrev r6:Stmt:=top 53
abbrev ACI:List Str:=["_law_above","_law_below","_law_size"]
abbrev ABN:Stmt:=top 23
abbrev AFP:List Str:=["thing"]
abbrev t7:Stmt:=top 26
abbrev ACO:List Str:=["lines","height","top","below","found","x","y","to_x","to_y","unit","level","rise","step","across"]
abbrev AHU:Stmt:=top 27
abbrev ANQ:List Str:=["found","x","top","below"]
abbrev AIB:Stmt:=top 28
abbrev AMC:List Str:=["rule","many"]
abbrev AAG:Stmt:=top 30
abbrev ADJ:List Str:=["line","y","below","from_x","from_y","to_x","to_y","reach","unit"]
abbrev AC3:Stmt:=top 31
abbrev AH7:List Str:=["line","x","y","below","from_x","from_y","to_x","to_y","reach","unit","wide","high","aside","above","most","length","along"]
abbrev ADZ:Stmt:=top 46
abbrev AJW:List Str:=["deeds","at"]
abbrev u7:Stmt:=top 7
abbrev ACE:List Str:=["thing","least","most"]
abbrev AAD:Stmt:=top 11
abbrev AD6:List Str:=["terms","unit","top","below"]
abbrev V0:Stmt:=top 32
abbrev y7:List Str:=["lines","x","y","below","line"]
abbrev ABT:Stmt:=top 15
abbrev AFI:List Str:=["thing"]
abbrev AEF:Stmt:=top 16
abbrev AJV:List Str:=["thing"]
abbrev AA6:Stmt:=top 18
abbrev AD7:List Str:=["thing","x","y"]
abbrev AA5:Stmt:=top 24
abbrev ADS:List Str:=["thing"]
abbrev W0:Stmt:=top 25
abbrev x8:List Str:=["path","lines","points","is_closed","start","end","wholes","unit"]
abbrev V7:Stmt:=top 29
abbrev x6:List Str:=["path","width","half","lines","points","is_closed","ends","start","end","wholes","unit"]
abbrev Y0:Stmt:=top 40
abbrev AAV:List Str:=["x","y"]
abbrev W6:Stmt:=top 42
abbrev AAS:List Str:=["shape","y","columns","how","lines","up","near","found"]
abbrev Y5:Stmt:=top 54
abbrev AAP:List Str:=["_law_script","_law_at","_law_below","_law_x","_law_y"]
abbrev ACJ:Stmt:=top 19
abbrev AFA:List Str:=["thing","points","is_closed"]
abbrev X7:Stmt:=top 39
abbrev AAT:List Str:=["wide","high"]
abbrev t4:Stmt:=top 41
abbrev ACD:List Str:=["deed","kind","path","how","ink","clips","first"]
abbrev P6:Stmt:=top 43
abbrev W2:List Str:=["shapes","y","columns","shape"]
abbrev n6:Stmt:=top 55
abbrev ACQ:List Str:=["_law_script","_law_at","_law_many","_law_points"]
abbrev ABM:Stmt:=top 20
abbrev AF5:List Str:=["thing"]
abbrev X4:Stmt:=top 44
abbrev AAO:List Str:=["shapes","y","left","wide","row","bare","at","x"]
abbrev n9:Stmt:=top 56
abbrev ACP:List Str:=["_law_script","_law_at"]
abbrev AC4:Stmt:=top 36
abbrev AGR:List Str:=["thing","path","rule"]
abbrev AE4:Stmt:=top 45
abbrev AJM:List Str:=["deeds","wide","high","left","top","shapes"]
abbrev w4:Stmt:=top 57
abbrev ABZ:List Str:=["_law_script","_law_at","_law_clips","_law_k","_law_rule","_law_ink","_law_width"]
abbrev ABK:Stmt:=top 37
abbrev AH1:List Str:=["thing","kind","path","how","ink","clips","is_how"]
abbrev Y2:Stmt:=top 58
abbrev AAU:List Str:=["_law_script","_law_at","_law_many"]
abbrev X9:Stmt:=top 38
abbrev AAR:List Str:=["thing"]
abbrev O7:Stmt:=top 47
abbrev AH6:List Str:=["deeds","wide","high","left","top","rows"]
abbrev v3:Stmt:=top 48
abbrev ACM:List Str:=["deeds","x","y"]
abbrev AEG:Stmt:=top 49
abbrev AIN:List Str:=["deeds","wide","high","seen"]
abbrev AKB:Stmt:=top 59
abbrev AYW:List Str:=["_law_script","_law_deeds_here","_law_corners","_law_wide","_law_high","_law_told","_law_last","_law_y","_law_left"]
set_option maxHeartbeats 4000000
theorem drv {X:Cx} {Ek:EK} {s:List Stmt} {a:Stmt} {r:List Stmt} {t:FS} (e:s=a::r) (nb:nbB X.N=true:=by kernel_rfl) (h:NB X.N→JSs X Ek (a::r) t:=by
  intro _
  obtain ⟨_,_,_,_,_,_,_,_,_,_,_,_,_⟩:=‹Blt _›
  repeat' first
  | ((with_reducible show _=_);first | assumption | kernel_rfl)
  | (with_reducible (show L2.PE _ _ _;first | refine' zv (by kernel_rfl) | refine' AT6  | refine' AaE ?_ ?_ | refine' AaT ?_ ?_ | refine' AdJ ?_ ?_ | refine' AfY ?_ ?_ (glT (by kernel_rfl)) ?_ (by kernel_rfl) (by kernel_rfl) | refine' zix ?_ ?_ (fun _ _=>by kernel_rfl) | refine' AT4 ?_ | refine' AYU ?_ ?_ | refine' AX2 ?_ ?_ | refine' AcN ?_ ?_ | refine' AZR ?_ ?_ | refine' AZ4 ?_ (glT (by kernel_rfl)) ?_ (by kernel_rfl) | refine' AR3 ?_ (glT (by kernel_rfl)) | refine' ANE  | refine' AON  | refine' ASO ?_ | refine' Ab4 ?_ ?_ ?_ (by kernel_rfl) | refine' AY1 ?_ ?_ ?_ (by kernel_rfl) | refine' Ac0 ?_ ?_ (by kernel_rfl) | refine' AcM ?_ ?_ (by kernel_rfl) | refine' Ac9 ?_ ?_ (by kernel_rfl) | refine' Ac5 ?_ ?_ (by kernel_rfl) | refine' AaL ?_ ?_ ?_ (by kernel_rfl) | refine' AaF ?_ ?_ ?_ | refine' AYT ?_ ?_ ?_ | refine' ATE ?_ | refine' APW ?_ ?_ ?_ | refine' AdO ?_ | refine' AY7 ?_ | refine' AZ2 ?_ ?_ | refine' AXL ?_ | refine' zlc ?_ | refine' Ad2 ?_ ?_ (glT (by kernel_rfl)) ?_ (by kernel_rfl) (by kernel_rfl) | refine' AaG ?_ (glT (by kernel_rfl)) ?_ (by kernel_rfl) | refine' AbB (by kernel_rfl) ?_ (glT (by kernel_rfl)) ?_ (by kernel_rfl) (by kernel_rfl) | refine' AXT (by kernel_rfl) ?_ (glT (by kernel_rfl)) ?_ (by kernel_rfl) (by kernel_rfl) | refine' AZW (by kernel_rfl) ?_ (glT (by kernel_rfl)) ?_ (by kernel_rfl) | refine' AWF ?_ (glT (by kernel_rfl)) ?_ (by kernel_rfl) | refine' AYM (by kernel_rfl) ?_ (glT (by kernel_rfl)) ?_ (by kernel_rfl) | refine' Ac1 (by kernel_rfl) (glT (by kernel_rfl)) ?_ (glT (by kernel_rfl)) ?_ ?_ (by kernel_rfl) (by kernel_rfl) (by kernel_rfl) | refine' AbG (by kernel_rfl) (glT (by kernel_rfl)) ?_ (glT (by kernel_rfl)) ?_ ?_ (by kernel_rfl) (by kernel_rfl) | refine' AG8 ?_ (glT (by kernel_rfl)) (glT (by kernel_rfl)) ?_ (by kernel_rfl) | refine' AKP ?_ (glT (by kernel_rfl)) (glT (by kernel_rfl)) ?_ (by kernel_rfl) | refine' AHT ?_ (glT (by kernel_rfl)) (glT (by kernel_rfl)) ?_ (by kernel_rfl) | refine' AHG ?_ (glT (by kernel_rfl)) (glT (by kernel_rfl)) ?_ (by kernel_rfl) | refine' Ac3 (by kernel_rfl) (by kernel_rfl) (by kernel_rfl) ?_ ?_ ?_ ?_ ?_ ?_ ?_ ?_ ?_ (fun _=>by kernel_rfl) (fun _ _ _ _ _ _=>by kernel_rfl) (by kernel_rfl) ?_ | refine' AY3 ?_ ?_ (by kernel_rfl) | refine' Ad1 (by kernel_rfl) (glT (by kernel_rfl)) ?_ (glT (by kernel_rfl)) ?_ ?_ (by kernel_rfl) (by kernel_rfl) | refine' ATW ?_ ?_ ?_ (by kernel_rfl)))
  | (with_reducible (show L2.PA _ _ _;first | refine' aj1 ?_ (by kernel_rfl) | refine' aj2 ?_ ?_ (by kernel_rfl) (by kernel_rfl) | refine' aj3 ?_ ?_ ?_ (by kernel_rfl) (by kernel_rfl) (by kernel_rfl) | refine' ABO ?_ ?_ (by kernel_rfl) | refine' ALY ))
  | (with_reducible (show L2.PT _ _ _;first | refine' AZ9 ?_ ?_ ?_ (by kernel_rfl) | refine' AZI ?_ ?_ ?_ (by kernel_rfl) | refine' AdN ?_ ?_ (by kernel_rfl) | refine' AdK ?_ ?_ (by kernel_rfl) | refine' Ae1 ?_ ?_ (by kernel_rfl) | refine' AcT ?_ ?_ (by kernel_rfl) | refine' AZC ?_ ?_ (by kernel_rfl) | refine' AMD ?_ ?_ (by kernel_rfl) | refine' AP5 ?_ ?_ ?_ (by kernel_rfl) | refine' AaV ?_ | refine' Ag0 ?_ | refine' AVD (glT (by kernel_rfl)) ?_ ?_ ?_ (by kernel_rfl) (by kernel_rfl) | refine' AU4 ?_ ?_ ?_ (by kernel_rfl) | refine' ARY ?_ (fun _=>by kernel_rfl)))
  | (with_reducible (show L2.PSs _ _ _;first | refine' AUY ?_ (by kernel_rfl) (lfT (by kernel_rfl)) ?_ (by kernel_rfl) ?_ ?_ ?_ | refine' AYA ?_ (by kernel_rfl) (lfT (by kernel_rfl)) (by kernel_rfl) ?_ ?_ | refine' AQ4 ?_ ?_ | refine' AUP  | refine' AUH ?_ | refine' ARX ?_ ?_ | refine' AUO ?_))
  | (with_reducible (show L2.PS _ _ _;first | refine' AYD ?_ | refine' Ae4 ?_ ?_ ?_ | (refine' AW4 ?_ ?_ ?_ ?_ ?hs;case hs=>with_unfolding_all rfl) | refine' AfV ?_ (by kernel_rfl) (lfT (by kernel_rfl)) ?_ (by kernel_rfl) | refine' AZS ?_ ?_ (by kernel_rfl) (by kernel_rfl) (by kernel_rfl) | refine' AXN (by kernel_rfl) ?_ (by kernel_rfl) (by kernel_rfl) ?_ (by kernel_rfl) (by kernel_rfl) ?_ (by kernel_rfl) (by kernel_rfl) | refine' AU3 ?_ (by kernel_rfl) | refine' AZ0 ?_ (by kernel_rfl) ?_ ?_ ?_ (fun _=>by kernel_rfl) | refine' ARW ?_ ?_ ?_ | refine' APJ ?_ (glT (by kernel_rfl)) ?_ (by kernel_rfl) (by kernel_rfl) | refine' AX9  | refine' AaS  | refine' AXA (Ek:=Ek0) ?_ | refine' AaK (Ek:=Ek0) (by kernel_rfl) (AcK (by kernel_rfl)) (by kernel_rfl) (by kernel_rfl) ?_ (by kernel_rfl) (by kernel_rfl) (by kernel_rfl) (by kernel_rfl) (by kernel_rfl) (by kernel_rfl) | refine' AWJ (Ek:=Ek0) ?_ (by kernel_rfl) ?_ ?_ ?_ (fun _=>by kernel_rfl) | refine' AZT (Ek:=Ek0) (by kernel_rfl) (AcK (by kernel_rfl)) (by kernel_rfl) (by kernel_rfl) ?_ ?_ (fun _=>by kernel_rfl) (by kernel_rfl) (by kernel_rfl) (by kernel_rfl) | refine' AXD (Ek:=Ek0) ?_ (by kernel_rfl) (by kernel_rfl) ?_ (by kernel_rfl)))
  | ((with_reducible show NB _);assumption)
  | ((with_reducible show AMM _ _ _ _);exact AaN (by assumption) (by assumption) (by decide))
  | ((with_reducible show Y1 _ _ (AQA _ Ek0));exact AYF)
  | ((with_reducible show Y1 _ _ _);exact AXZ)
  | (with_reducible first | refine' zg ?_ (by kernel_rfl) (lfT (by kernel_rfl)) | refine' AbK (by kernel_rfl) ?_ (by kernel_rfl) (by kernel_rfl) | refine' ARU ?_ ?_ (by kernel_rfl) | refine' AW7  | refine' AO2 (glT (by kernel_rfl)) ?_ ?_ (by kernel_rfl) | refine' APG (glT (by kernel_rfl)) ?_ ?_ (by kernel_rfl) (by kernel_rfl) | refine' ATZ (glT (by kernel_rfl)) ?_ ?_ (by kernel_rfl) (by kernel_rfl) | refine' AZ6 ?_ | refine' AWK ?_ | refine' ATQ ?_ ?_ (glT (by kernel_rfl)) ?_ ?_ (by kernel_rfl) (by kernel_rfl) | refine' AaI ?_ | refine' ARL (glT (by kernel_rfl)) ?_ (glT (by kernel_rfl)) ?_ ?_ (by kernel_rfl) (by kernel_rfl) | refine' ALH (glT (by kernel_rfl)) ?_ ?_ (by kernel_rfl) | refine' AN2 ?_ | refine' ASD ?_ | refine' AUI ?_ | refine' AV7  | refine' AbD ?_ ?_ | refine' AcB ?_ ?_ | refine' AaJ ?_ | refine' AUM ?_ | refine' AKQ (by kernel_rfl) | refine' AZA  | refine' AWU ?_ ?_ | refine' AHY ?_ | refine' AX6 ?_ | refine' AU7  | refine' AgD (by kernel_rfl) (by kernel_rfl) (by kernel_rfl) ?_ ?_ ?_ ?_ ?_ (fun _=>by kernel_rfl) | refine' AeT ?_ | intro _)
  | ((with_reducible refine' ACL 60 _ _ ?_);kernel_rfl)
  | assumption
  | exact NB.nd (by assumption)
  | exact AUU (by assumption) (by assumption) (by decide)
  | exact AWN (by assumption) (by assumption) (by decide) (by kernel_rfl) (by kernel_rfl)
  | exact zhu (by assumption)
  | exact AXY (by assumption)
  | exact PassesOwn.leaving
  | exact AYG _
  | decide
  | decide +kernel):JSs X Ek s t:=e▸h (AWW nb)
abbrev JD (P:Program) (w:World) (K:PySem.W.Frag) (mg:Str→Option Value) (base:Heap) (N:List Str) (x:Str) (st:Stmt) (f:Addr) (cdv:Value) (A:Around) (outer:List Env) (s:Shared) (H:Hp) (E:XK) (k:Nat) (t:FS):Prop:=Room k (cx P w K mg base N x st f cdv A outer s H E).A→JSs (cx P w K mg base N x st f cdv A outer s H E) (APN K E) (L7 st) t
section
variable {P:Program} {w:World} {K:PySem.W.Frag} {mg:Str→Option Value} {base:Heap} {f:Addr} {cdv:Value} {A:Around} {outer:List Env} {s:Shared} {H:Hp} {E:XK}
variable (B:Blt mg) (zz_enumerate:mg "enumerate" = none) (zz_min:mg "min" = none) (zz_reversed:mg "reversed" = none) (zz_set:mg "set" = none) (zz_sorted:mg "sorted" = none) (g_ERASE:GlobC K mg "ERASE" J0) (g_FARTHEST:GlobC K mg "FARTHEST" R8) (g_MOST_CELLS:GlobC K mg "MOST_CELLS" W7) (g_MOST_INK:GlobC K mg "MOST_INK" AAE) (g_RULES:GlobC K mg "RULES" AHL) (g_TOO_GREAT:GlobC K mg "TOO_GREAT" O3) (D__law_common:Df P w K mg base "_law_common" 1 2 D8) (D__law_deed:Df P w K mg base "_law_deed" 6 2 S3) (D__law_deeds:Df P w K mg base "_law_deeds" 7 3 T4) (D__law_drawn:Df P w K mg base "_law_drawn" 1 3 A4) (D__law_made:Df P w K mg base "_law_made" 2 2 E3) (D__law_part:Df P w K mg base "_law_part" 4 2 S6) (D__law_path:Df P w K mg base "_law_path" 5 2 L8) (D__law_point:Df P w K mg base "_law_point" 3 2 O6) (D_columns_in:Df P w K mg base "columns_in" 3 3 J5) (D_columns_in_all:Df P w K mg base "columns_in_all" 4 3 D6) (D_common_part:Df P w K mg base "common_part" 1 2 B4) (D_crossings:Df P w K mg base "crossings" 1 2 U9) (D_hidden:Df P w K mg base "hidden" 9 3 K7) (D_in_units:Df P w K mg base "in_units" 2 1 G4) (D_ink_by:Df P w K mg base "ink_by" 1 2 x5) (D_inkers:Df P w K mg base "inkers" 6 5 V3) (D_is_clip:Df P w K mg base "is_clip" 6 1 U7) (D_is_deed:Df P w K mg base "is_deed" 7 1 O5) (D_is_in:Df P w K mg base "is_in" 1 2 AAL) (D_is_ink:Df P w K mg base "is_ink" 3 1 T5) (D_is_level:Df P w K mg base "is_level" 1 3 M8) (D_is_near:Df P w K mg base "is_near" 1 4 N2) (D_is_near_one:Df P w K mg base "is_near_one" 2 4 Q0) (D_is_number:Df P w K mg base "is_number" 2 1 D1) (D_is_part:Df P w K mg base "is_part" 4 1 y9) (D_is_path:Df P w K mg base "is_path" 5 1 N0) (D_is_point:Df P w K mg base "is_point" 3 1 Z9) (D_is_rule:Df P w K mg base "is_rule" 1 1 L0) (D_is_short:Df P w K mg base "is_short" 1 2 J8) (D_is_side:Df P w K mg base "is_side" 3 1 U3) (D_is_whole:Df P w K mg base "is_whole" 1 1 G5) (D_is_width:Df P w K mg base "is_width" 3 1 Q9) (D_is_within:Df P w K mg base "is_within" 2 3 G9) (D_lines_drawn:Df P w K mg base "lines_drawn" 3 2 Q3) (D_lines_round:Df P w K mg base "lines_round" 3 1 K8) (D_need_deeds:Df P w K mg base "need_deeds" 8 1 M6) (D_need_place:Df P w K mg base "need_place" 3 2 P0) (D_need_sides:Df P w K mg base "need_sides" 4 2 P1) (D_row_inkers:Df P w K mg base "row_inkers" 5 4 T3) (D_shapes_of:Df P w K mg base "shapes_of" 4 1 V6) (D_turns:Df P w K mg base "turns" 1 2 AE6) (D_who_inked:Df P w K mg base "who_inked" 9 3 S0) (D2_painted:DfnD (CXE P w base) P w K mg base "painted" 9 5 S2 [(.int 0),(.int 0)]) (x_NoDeeds:ErrK K mg "NoDeeds") (x_NoSize:ErrK K mg "NoSize")
include B  in
theorem AL5:JD P w K mg base ADR "is_whole" AAF f cdv A outer s H E 0 AAH:=fun hr=>by unfold AAH;exact drv rfl
include B  in
theorem AEN:JD P w K mg base x4 "common_part" V4 f cdv A outer s H E 0 Q1:=fun hr=>by unfold Q1;exact drv rfl
include B g_TOO_GREAT in
theorem AL0:JD P w K mg base ADE "is_short" AAC f cdv A outer s H E 0 Z8:=fun hr=>by unfold Z8;exact drv rfl
include B D_common_part D_is_short D_is_whole in
theorem AI1:JD P w K mg base ABJ "is_number" t8 f cdv A outer s H E 1 L9:=fun hr=>by unfold L9;exact drv rfl
include B  in
theorem AGG:JD P w K mg base AAN "_law_drawn" Z4 f cdv A outer s H E 0 M4:=fun hr=>by unfold M4;exact drv rfl
include B  in
theorem AEI:JD P w K mg base AA1 "_law_common" V9 f cdv A outer s H E 0 Q6:=fun hr=>by unfold Q6;exact drv rfl
include B D__law_common in
theorem AHH:JD P w K mg base ACI "_law_made" r6 f cdv A outer s H E 1 N8:=fun hr=>by unfold N8;exact drv rfl
include B g_RULES in
theorem AOW:JD P w K mg base AFP "is_rule" ABN f cdv A outer s H E 0 ABI:=fun hr=>by unfold ABI;exact drv rfl
include B  in
theorem AHZ:JD P w K mg base ACO "crossings" t7 f cdv A outer s H E 0 N7:=fun hr=>by unfold N7;exact drv rfl
include B  in
theorem AW3:JD P w K mg base ANQ "turns" AHU f cdv A outer s H E 0 AAI:=fun hr=>by unfold AAI;exact drv rfl
include B  in
theorem AVH:JD P w K mg base AMC "is_in" AIB f cdv A outer s H E 0 V1:=fun hr=>by unfold V1;exact drv rfl
include B zz_min in
theorem AKX:JD P w K mg base ADJ "is_level" AAG f cdv A outer s H E 0 R3:=fun hr=>by unfold R3;exact drv rfl
include B  in
theorem AMO:JD P w K mg base AH7 "is_near" AC3 f cdv A outer s H E 0 U1:=fun hr=>by unfold U1;exact drv rfl
include B g_ERASE in
theorem AQZ:JD P w K mg base AJW "ink_by" ADZ f cdv A outer s H E 0 Z5:=fun hr=>by unfold Z5;exact drv rfl
include B D_is_whole in
theorem AI0:JD P w K mg base ACE "is_within" u7 f cdv A outer s H E 1 O0:=fun hr=>by unfold O0;exact drv rfl
include B D_common_part in
theorem AKR:JD P w K mg base AD6 "in_units" AAD f cdv A outer s H E 1 K3:=fun hr=>by unfold K3;exact drv rfl
include B D_is_near in
theorem AED:JD P w K mg base y7 "is_near_one" V0 f cdv A outer s H E 1 J7:=fun hr=>by unfold J7;exact drv rfl
include B g_MOST_CELLS D_is_within in
theorem AOV:JD P w K mg base AFI "is_side" ABT f cdv A outer s H E 2 U2:=fun hr=>by unfold U2;exact drv rfl
include B g_MOST_INK D_is_within in
theorem ARE:JD P w K mg base AJV "is_ink" AEF f cdv A outer s H E 2 g6:=fun hr=>by unfold g6;exact drv rfl
include B D_is_number in
theorem AKM:JD P w K mg base AD7 "is_point" AA6 f cdv A outer s H E 2 R7:=fun hr=>by unfold R7;exact drv rfl
include B D_is_number in
theorem AKA:JD P w K mg base ADS "is_width" AA5 f cdv A outer s H E 2 R4:=fun hr=>by unfold R4;exact drv rfl
include B D_in_units in
theorem AES:JD P w K mg base x8 "lines_round" W0 f cdv A outer s H E 2 K0:=fun hr=>by unfold K0;exact drv rfl
include B D_in_units in
theorem AEC:JD P w K mg base x6 "lines_drawn" V7 f cdv A outer s H E 2 K4:=fun hr=>by unfold K4;exact drv rfl
include B g_FARTHEST D_is_within x_NoSize in
theorem AFW:JD P w K mg base AAV "need_place" Y0 f cdv A outer s H E 2 M2:=fun hr=>by unfold M2;exact drv rfl
include B D_crossings D_is_in D_is_level D_is_near_one D_turns in
theorem AF6:JD P w K mg base AAS "columns_in" W6 f cdv A outer s H E 2 D7:=fun hr=>by unfold D7;exact drv rfl
include B D__law_drawn D__law_made in
theorem AFM:JD P w K mg base AAP "_law_point" Y5 f cdv A outer s H E 2 M3:=fun hr=>by unfold M3;exact drv rfl
include B D_is_point in
theorem ANU:JD P w K mg base AFA "is_part" ACJ f cdv A outer s H E 3 U6:=fun hr=>by unfold U6;exact drv rfl
include B D_is_side x_NoSize in
theorem AGH:JD P w K mg base AAT "need_sides" X7 f cdv A outer s H E 3 M0:=fun hr=>by unfold M0;exact drv rfl
include B g_ERASE D_lines_drawn D_lines_round in
theorem AI7:JD P w K mg base ACD "shapes_of" t4 f cdv A outer s H E 3 C9:=fun hr=>by unfold C9;exact drv rfl
include B D_columns_in in
theorem AAX:JD P w K mg base W2 "columns_in_all" P6 f cdv A outer s H E 3 D5:=fun hr=>by unfold D5;exact drv rfl
include B D__law_drawn D__law_point in
theorem AID:JD P w K mg base ACQ "_law_part" n6 f cdv A outer s H E 3 N5:=fun hr=>by unfold N5;exact drv rfl
include B D_is_part in
theorem ANB:JD P w K mg base AF5 "is_path" ABM f cdv A outer s H E 4 U0:=fun hr=>by unfold U0;exact drv rfl
include B zz_reversed D_columns_in_all in
theorem AFQ:JD P w K mg base AAO "row_inkers" X4 f cdv A outer s H E 4 M9:=fun hr=>by unfold M9;exact drv rfl
include B D__law_drawn D__law_part in
theorem AI5:JD P w K mg base ACP "_law_path" n9 f cdv A outer s H E 4 O2:=fun hr=>by unfold O2;exact drv rfl
include B D_is_path D_is_rule in
theorem AOQ:JD P w K mg base AGR "is_clip" AC4 f cdv A outer s H E 5 U4:=fun hr=>by unfold U4;exact drv rfl
include B D_row_inkers D_shapes_of in
theorem AR7:JD P w K mg base AJM "inkers" AE4 f cdv A outer s H E 5 Z6:=fun hr=>by unfold Z6;exact drv rfl
include B D__law_drawn D__law_made D__law_path in
theorem AHO:JD P w K mg base ABZ "_law_deed" w4 f cdv A outer s H E 5 C8:=fun hr=>by unfold C8;exact drv rfl
include B g_ERASE D_is_clip D_is_ink D_is_path D_is_rule D_is_width in
theorem AO9:JD P w K mg base AH1 "is_deed" ABK f cdv A outer s H E 6 T9:=fun hr=>by unfold T9;exact drv rfl
include B D__law_deed in
theorem AGD:JD P w K mg base AAU "_law_deeds" Y2 f cdv A outer s H E 6 M7:=fun hr=>by unfold M7;exact drv rfl
include B D_is_deed x_NoDeeds in
theorem AGJ:JD P w K mg base AAR "need_deeds" X9 f cdv A outer s H E 7 M1:=fun hr=>by unfold M1;exact drv rfl
include B D_ink_by D_inkers D_need_deeds D_need_place D_need_sides in
theorem API:JD P w K mg base AH6 "painted" O7 f cdv A outer s H E 8 U5:=fun hr=>by unfold U5;exact drv rfl
include B D_inkers D_need_deeds D_need_place in
theorem AIL:JD P w K mg base ACM "who_inked" v3 f cdv A outer s H E 8 N6:=fun hr=>by unfold N6;exact drv rfl
include B D_inkers D_need_deeds D_need_sides in
theorem ARR:JD P w K mg base AIN "hidden" AEG f cdv A outer s H E 8 g9:=fun hr=>by unfold g9;exact drv rfl
include B zz_enumerate zz_set zz_sorted D__law_deeds D__law_drawn D_hidden D_who_inked D2_painted in
theorem AdB:JD P w K mg base AYW "law" AKB f cdv A outer s H E 9 AKU:=fun hr=>by unfold AKU;exact drv rfl
end
end Kw
end
section
namespace Kw
open PySem hiding start
open PyProof.Rows hiding St
open L2 PySem.Spec Tr PySem.NumText
theorem AGN:∀(ts:List T) (c:Str) (fs:List (Str × T)),G5 ts=.ex c fs→fs=[]:=by
 intro ts c fs h
 unfold G5 at h
 split at h<;>first | cases h | (split at h<;>cases h)
theorem Z0:∀(ts:List T) (c:Str) (fs:List (Str × T)),B4 ts=.ex c fs→fs=[]:=by
 intro ts c fs h
 unfold B4 at h
 split at h<;>first | cases h | (split at h<;>cases h)
theorem AGY:∀(ts:List T) (c:Str) (fs:List (Str × T)),J8 ts=.ex c fs→fs=[]:=by
 intro ts c fs h
 unfold J8 at h
 split at h<;>first | cases h | (split at h<;>cases h)
theorem AET:∀(ts:List T) (c:Str) (fs:List (Str × T)),D1 ts=.ex c fs→fs=[]:=fun ts _ _ e=>ATM (AEV ts) e
theorem AC1:∀(ts:List T) (c:Str) (fs:List (Str × T)),D8 ts=.ex c fs→fs=[]:=Z0
theorem all_mk {l:PySem.W.OpenLaw} {w:World} {K:PySem.W.Frag} {h:Heap} {mg:Str→Option Value} {fa:Addr} (X:K.In h) (G:h.Ns mainGlobals mg) (hfa:mg "law" = some (.ref fa))
  {f40:Addr} {od40 an40:Option Addr} {sl40:Array (Option Value)} {oc40 dc40 pm40 cd40 ct40:Value} {kd40:Addr} {kt40_0:Tok} {kt40_1:Tok} {C_NoDeeds:Addr} {C_NoSize:Addr}
  (q0:FnX K "is_whole" AAF)
  (q1:FnX K "common_part" V4)
  (q2:FnX K "is_short" AAC)
  (q3:FnX K "is_number" t8)
  (q4:FnX K "_law_drawn" Z4)
  (q5:FnX K "_law_common" V9)
  (q6:FnX K "_law_made" r6)
  (q7:FnX K "is_rule" ABN)
  (q8:FnX K "crossings" t7)
  (q9:FnX K "turns" AHU)
  (q10:FnX K "is_in" AIB)
  (q11:FnX K "is_level" AAG)
  (q12:FnX K "is_near" AC3)
  (q13:FnX K "ink_by" ADZ)
  (q14:FnX K "is_within" u7)
  (q15:FnX K "in_units" AAD)
  (q16:FnX K "is_near_one" V0)
  (q17:FnX K "is_side" ABT)
  (q18:FnX K "is_ink" AEF)
  (q19:FnX K "is_point" AA6)
  (q20:FnX K "is_width" AA5)
  (q21:FnX K "lines_round" W0)
  (q22:FnX K "lines_drawn" V7)
  (q23:FnX K "need_place" Y0)
  (q24:FnX K "columns_in" W6)
  (q25:FnX K "_law_point" Y5)
  (q26:FnX K "is_part" ACJ)
  (q27:FnX K "need_sides" X7)
  (q28:FnX K "shapes_of" t4)
  (q29:FnX K "columns_in_all" P6)
  (q30:FnX K "_law_part" n6)
  (q31:FnX K "is_path" ABM)
  (q32:FnX K "row_inkers" X4)
  (q33:FnX K "_law_path" n9)
  (q34:FnX K "is_clip" AC4)
  (q35:FnX K "inkers" AE4)
  (q36:FnX K "_law_deed" w4)
  (q37:FnX K "is_deed" ABK)
  (q38:FnX K "_law_deeds" Y2)
  (q39:FnX K "need_deeds" X9)
  (q41:FnX K "who_inked" v3)
  (q42:FnX K "hidden" AEG)
  (q43:FnX K "law" AKB)
  (a40:PySem.W.nsIn K mainGlobals "painted" = some (some (.ref f40))) (l40:K.lookup f40=some ⟨oc40,od40,.func (PySem.W.fnOf "painted" "painted" (S5 O7) (L7 O7) (C6 O7) .none (.ref kd40) dc40 pm40 an40 cd40 ct40),sl40⟩) (c40:PySem.W.codeIn K cd40 "painted" = true) (k40:PySem.W.keepIn K (.ref f40)=true)
  (kl40_0:PySem.W.nsIn K kd40 "left" = some (some (.int 0 kt40_0)))
  (kl40_1:PySem.W.nsIn K kd40 "top" = some (some (.int 0 kt40_1)))
  (pk40:∀(S:Setting) (a b c:Value),PySem.W.peek K S (bindArgs (PySem.W.fnOf "painted" "painted" (S5 O7) (L7 O7) (C6 O7) .none (.ref kd40) dc40 pm40 an40 cd40 ct40) ⟨[a,b,c],[]⟩)=some ((["deeds","wide","high","left","top"]:List Str).zip [a,b,c,.int 0 kt40_0,.int 0 kt40_1]))
  (z_len:PySem.W.nsIn K mainGlobals "len" = some none)
  (z_abs:PySem.W.nsIn K mainGlobals "abs" = some none)
  (z_str:PySem.W.nsIn K mainGlobals "str" = some none)
  (z_int:PySem.W.nsIn K mainGlobals "int" = some none)
  (z_bool:PySem.W.nsIn K mainGlobals "bool" = some none)
  (z_tuple:PySem.W.nsIn K mainGlobals "tuple" = some none)
  (z_list:PySem.W.nsIn K mainGlobals "list" = some none)
  (z_range:PySem.W.nsIn K mainGlobals "range" = some none)
  (z_isinstance:PySem.W.nsIn K mainGlobals "isinstance" = some none)
  (z_all:PySem.W.nsIn K mainGlobals "all" = some none)
  (z_max:PySem.W.nsIn K mainGlobals "max" = some none)
  (z_sum:PySem.W.nsIn K mainGlobals "sum" = some none)
  (z_zip:PySem.W.nsIn K mainGlobals "zip" = some none)
  (z_enumerate:PySem.W.nsIn K mainGlobals "enumerate" = some none)
  (z_min:PySem.W.nsIn K mainGlobals "min" = some none)
  (z_reversed:PySem.W.nsIn K mainGlobals "reversed" = some none)
  (z_set:PySem.W.nsIn K mainGlobals "set" = some none)
  (z_sorted:PySem.W.nsIn K mainGlobals "sorted" = some none)
  {tk_TOO_GREAT:Tok} (q_TOO_GREAT:PySem.W.nsIn K mainGlobals "TOO_GREAT" = some (some (.int 10000000000000000000000000000000000000000 tk_TOO_GREAT)))
  {tk_MOST_CELLS:Tok} (q_MOST_CELLS:PySem.W.nsIn K mainGlobals "MOST_CELLS" = some (some (.int 64 tk_MOST_CELLS)))
  {tk_MOST_INK:Tok} (q_MOST_INK:PySem.W.nsIn K mainGlobals "MOST_INK" = some (some (.int 15 tk_MOST_INK)))
  {tk_FARTHEST:Tok} (q_FARTHEST:PySem.W.nsIn K mainGlobals "FARTHEST" = some (some (.int 999 tk_FARTHEST)))
  {ta_RULES0:Addr} {td_RULES0:Option Addr} {tn_RULES0:Nat} {ts_RULES0:Array (Option Value)} {tt_RULES0_0:Tok} {tt_RULES0_1:Tok} (q_RULES:PySem.W.nsIn K mainGlobals "RULES" = some (some (.ref ta_RULES0)))
  (tl_RULES0:K.lookup ta_RULES0=some ⟨.type "tuple",td_RULES0,.seq #[.str "whole" tt_RULES0_0,.str "odd" tt_RULES0_1] tn_RULES0,ts_RULES0⟩)
  {ta_ERASE0:Addr} {td_ERASE0:Option Addr} {tn_ERASE0:Nat} {ts_ERASE0:Array (Option Value)} {tt_ERASE0_0:Tok} (q_ERASE:PySem.W.nsIn K mainGlobals "ERASE" = some (some (.ref ta_ERASE0)))
  (tl_ERASE0:K.lookup ta_ERASE0=some ⟨.type "tuple",td_ERASE0,.seq #[.str "erase" tt_ERASE0_0] tn_ERASE0,ts_ERASE0⟩)
  (n_NoDeeds:PySem.W.nsIn K mainGlobals "NoDeeds" = some (some (.ref C_NoDeeds)))
  (n_NoSize:PySem.W.nsIn K mainGlobals "NoSize" = some (some (.ref C_NoSize)))
  (xi_NoDeeds:AbN K C_NoDeeds=true)
  (xi_NoSize:AbN K C_NoSize=true) :
  ∃fd:FuncData,(∀(s:Shared) (v:Value),BindsTo s fd ⟨[v],[]⟩ [("_law_script",v)])∧∀base:Heap,K.In base→base.Ns mainGlobals mg→FnOk l.prog w K mg base CX0 10 fa fd ["_law_script"] (fun vs H Q _=>spM K 1 AMU vs H Q fun _ _ _=>False):=by
 obtain ⟨f0,od0,an0,sl0,oc0,kV0,dc0,pm0,cd0,ct0,a0,l0,c0,k0⟩:=q0
 obtain ⟨f1,od1,an1,sl1,oc1,kV1,dc1,pm1,cd1,ct1,a1,l1,c1,k1⟩:=q1
 obtain ⟨f2,od2,an2,sl2,oc2,kV2,dc2,pm2,cd2,ct2,a2,l2,c2,k2⟩:=q2
 obtain ⟨f3,od3,an3,sl3,oc3,kV3,dc3,pm3,cd3,ct3,a3,l3,c3,k3⟩:=q3
 obtain ⟨f4,od4,an4,sl4,oc4,kV4,dc4,pm4,cd4,ct4,a4,l4,c4,k4⟩:=q4
 obtain ⟨f5,od5,an5,sl5,oc5,kV5,dc5,pm5,cd5,ct5,a5,l5,c5,k5⟩:=q5
 obtain ⟨f6,od6,an6,sl6,oc6,kV6,dc6,pm6,cd6,ct6,a6,l6,c6,k6⟩:=q6
 obtain ⟨f7,od7,an7,sl7,oc7,kV7,dc7,pm7,cd7,ct7,a7,l7,c7,k7⟩:=q7
 obtain ⟨f8,od8,an8,sl8,oc8,kV8,dc8,pm8,cd8,ct8,a8,l8,c8,k8⟩:=q8
 obtain ⟨f9,od9,an9,sl9,oc9,kV9,dc9,pm9,cd9,ct9,a9,l9,c9,k9⟩:=q9
 obtain ⟨f10,od10,an10,sl10,oc10,kV10,dc10,pm10,cd10,ct10,a10,l10,c10,k10⟩:=q10
 obtain ⟨f11,od11,an11,sl11,oc11,kV11,dc11,pm11,cd11,ct11,a11,l11,c11,k11⟩:=q11
 obtain ⟨f12,od12,an12,sl12,oc12,kV12,dc12,pm12,cd12,ct12,a12,l12,c12,k12⟩:=q12
 obtain ⟨f13,od13,an13,sl13,oc13,kV13,dc13,pm13,cd13,ct13,a13,l13,c13,k13⟩:=q13
 obtain ⟨f14,od14,an14,sl14,oc14,kV14,dc14,pm14,cd14,ct14,a14,l14,c14,k14⟩:=q14
 obtain ⟨f15,od15,an15,sl15,oc15,kV15,dc15,pm15,cd15,ct15,a15,l15,c15,k15⟩:=q15
 obtain ⟨f16,od16,an16,sl16,oc16,kV16,dc16,pm16,cd16,ct16,a16,l16,c16,k16⟩:=q16
 obtain ⟨f17,od17,an17,sl17,oc17,kV17,dc17,pm17,cd17,ct17,a17,l17,c17,k17⟩:=q17
 obtain ⟨f18,od18,an18,sl18,oc18,kV18,dc18,pm18,cd18,ct18,a18,l18,c18,k18⟩:=q18
 obtain ⟨f19,od19,an19,sl19,oc19,kV19,dc19,pm19,cd19,ct19,a19,l19,c19,k19⟩:=q19
 obtain ⟨f20,od20,an20,sl20,oc20,kV20,dc20,pm20,cd20,ct20,a20,l20,c20,k20⟩:=q20
 obtain ⟨f21,od21,an21,sl21,oc21,kV21,dc21,pm21,cd21,ct21,a21,l21,c21,k21⟩:=q21
 obtain ⟨f22,od22,an22,sl22,oc22,kV22,dc22,pm22,cd22,ct22,a22,l22,c22,k22⟩:=q22
 obtain ⟨f23,od23,an23,sl23,oc23,kV23,dc23,pm23,cd23,ct23,a23,l23,c23,k23⟩:=q23
 obtain ⟨f24,od24,an24,sl24,oc24,kV24,dc24,pm24,cd24,ct24,a24,l24,c24,k24⟩:=q24
 obtain ⟨f25,od25,an25,sl25,oc25,kV25,dc25,pm25,cd25,ct25,a25,l25,c25,k25⟩:=q25
 obtain ⟨f26,od26,an26,sl26,oc26,kV26,dc26,pm26,cd26,ct26,a26,l26,c26,k26⟩:=q26
 obtain ⟨f27,od27,an27,sl27,oc27,kV27,dc27,pm27,cd27,ct27,a27,l27,c27,k27⟩:=q27
 obtain ⟨f28,od28,an28,sl28,oc28,kV28,dc28,pm28,cd28,ct28,a28,l28,c28,k28⟩:=q28
 obtain ⟨f29,od29,an29,sl29,oc29,kV29,dc29,pm29,cd29,ct29,a29,l29,c29,k29⟩:=q29
 obtain ⟨f30,od30,an30,sl30,oc30,kV30,dc30,pm30,cd30,ct30,a30,l30,c30,k30⟩:=q30
 obtain ⟨f31,od31,an31,sl31,oc31,kV31,dc31,pm31,cd31,ct31,a31,l31,c31,k31⟩:=q31
 obtain ⟨f32,od32,an32,sl32,oc32,kV32,dc32,pm32,cd32,ct32,a32,l32,c32,k32⟩:=q32
 obtain ⟨f33,od33,an33,sl33,oc33,kV33,dc33,pm33,cd33,ct33,a33,l33,c33,k33⟩:=q33
 obtain ⟨f34,od34,an34,sl34,oc34,kV34,dc34,pm34,cd34,ct34,a34,l34,c34,k34⟩:=q34
 obtain ⟨f35,od35,an35,sl35,oc35,kV35,dc35,pm35,cd35,ct35,a35,l35,c35,k35⟩:=q35
 obtain ⟨f36,od36,an36,sl36,oc36,kV36,dc36,pm36,cd36,ct36,a36,l36,c36,k36⟩:=q36
 obtain ⟨f37,od37,an37,sl37,oc37,kV37,dc37,pm37,cd37,ct37,a37,l37,c37,k37⟩:=q37
 obtain ⟨f38,od38,an38,sl38,oc38,kV38,dc38,pm38,cd38,ct38,a38,l38,c38,k38⟩:=q38
 obtain ⟨f39,od39,an39,sl39,oc39,kV39,dc39,pm39,cd39,ct39,a39,l39,c39,k39⟩:=q39
 obtain ⟨f41,od41,an41,sl41,oc41,kV41,dc41,pm41,cd41,ct41,a41,l41,c41,k41⟩:=q41
 obtain ⟨f42,od42,an42,sl42,oc42,kV42,dc42,pm42,cd42,ct42,a42,l42,c42,k42⟩:=q42
 obtain ⟨f43,od43,an43,sl43,oc43,kV43,dc43,pm43,cd43,ct43,a43,l43,c43,k43⟩:=q43
 have e:=hfa.symm.trans (PySem.W.mg_of X G a43)
 cases e
 have B:Blt mg:=⟨PySem.W.mg_none_of X G z_len,PySem.W.mg_none_of X G z_abs,PySem.W.mg_none_of X G z_str,PySem.W.mg_none_of X G z_int,PySem.W.mg_none_of X G z_bool,PySem.W.mg_none_of X G z_tuple,PySem.W.mg_none_of X G z_list,PySem.W.mg_none_of X G z_range,PySem.W.mg_none_of X G z_isinstance,PySem.W.mg_none_of X G z_all,PySem.W.mg_none_of X G z_max,PySem.W.mg_none_of X G z_sum,PySem.W.mg_none_of X G z_zip⟩
 have zz_enumerate:=PySem.W.mg_none_of X G z_enumerate
 have zz_min:=PySem.W.mg_none_of X G z_min
 have zz_reversed:=PySem.W.mg_none_of X G z_reversed
 have zz_set:=PySem.W.mg_none_of X G z_set
 have zz_sorted:=PySem.W.mg_none_of X G z_sorted
 have g_TOO_GREAT:GlobC K mg "TOO_GREAT" O3:=⟨⟨_,.int 10000000000000000000000000000000000000000,PySem.W.mg_of X G q_TOO_GREAT,⟨_,rfl⟩,fun H=>(by unfold O3;rw[AD0];exact C3)⟩,by decide +kernel⟩
 have g_MOST_CELLS:GlobC K mg "MOST_CELLS" W7:=⟨⟨_,.int 64,PySem.W.mg_of X G q_MOST_CELLS,⟨_,rfl⟩,fun H=>C3⟩,by decide +kernel⟩
 have g_MOST_INK:GlobC K mg "MOST_INK" AAE:=⟨⟨_,.int 15,PySem.W.mg_of X G q_MOST_INK,⟨_,rfl⟩,fun H=>C3⟩,by decide +kernel⟩
 have g_FARTHEST:GlobC K mg "FARTHEST" R8:=⟨⟨_,.int 999,PySem.W.mg_of X G q_FARTHEST,⟨_,rfl⟩,fun H=>C3⟩,by decide +kernel⟩
 have g_RULES:GlobC K mg "RULES" AHL:=⟨⟨_,.ref ta_RULES0,PySem.W.mg_of X G q_RULES,rfl,fun H=>(AJY (vs:=[.str "whole",.str "odd"]) tl_RULES0 (show 2≤sizeLine by decide) (.cons ⟨_,rfl⟩ (.cons ⟨_,rfl⟩ .nil)) (B6 (t9 (by decide +kernel)) (B6 (t9 (by decide +kernel)) C5)))⟩,by decide +kernel⟩
 have g_ERASE:GlobC K mg "ERASE" J0:=⟨⟨_,.ref ta_ERASE0,PySem.W.mg_of X G q_ERASE,rfl,fun H=>(AJY (vs:=[.str "erase"]) tl_ERASE0 (show 1≤sizeLine by decide) (.cons ⟨_,rfl⟩ .nil) (B6 (t9 (by decide +kernel)) C5))⟩,by decide +kernel⟩
 have x_NoDeeds:ErrK K mg "NoDeeds":=AMH X G n_NoDeeds xi_NoDeeds (by decide +kernel)
 have x_NoSize:ErrK K mg "NoSize":=AMH X G n_NoSize xi_NoSize (by decide +kernel)
 have F0:=B7 (st:=AAF) l0 c0 k0
 have b0:=F0.binds (ps:=["thing"]) fun _ _ _ _ _ _=>AH9 fun _=>rfl
 have F1:=B7 (st:=V4) l1 c1 k1
 have b1:=F1.binds (ps:=["one","other"]) fun _ _ _ _ _ _=>AHC fun _ _=>rfl
 have F2:=B7 (st:=AAC) l2 c2 k2
 have b2:=F2.binds (ps:=["top","below"]) fun _ _ _ _ _ _=>AHC fun _ _=>rfl
 have F3:=B7 (st:=t8) l3 c3 k3
 have b3:=F3.binds (ps:=["thing"]) fun _ _ _ _ _ _=>AH9 fun _=>rfl
 have F4:=B7 (st:=Z4) l4 c4 k4
 have b4:=F4.binds (ps:=["_law_script","_law_k","_law_many"]) fun _ _ _ _ _ _=>AQG fun _ _ _=>rfl
 have F5:=B7 (st:=V9) l5 c5 k5
 have b5:=F5.binds (ps:=["_law_one","_law_other"]) fun _ _ _ _ _ _=>AHC fun _ _=>rfl
 have F6:=B7 (st:=r6) l6 c6 k6
 have b6:=F6.binds (ps:=["_law_above","_law_below"]) fun _ _ _ _ _ _=>AHC fun _ _=>rfl
 have F7:=B7 (st:=ABN) l7 c7 k7
 have b7:=F7.binds (ps:=["thing"]) fun _ _ _ _ _ _=>AH9 fun _=>rfl
 have F8:=B7 (st:=t7) l8 c8 k8
 have b8:=F8.binds (ps:=["lines","height"]) fun _ _ _ _ _ _=>AHC fun _ _=>rfl
 have F9:=B7 (st:=AHU) l9 c9 k9
 have b9:=F9.binds (ps:=["found","x"]) fun _ _ _ _ _ _=>AHC fun _ _=>rfl
 have F10:=B7 (st:=AIB) l10 c10 k10
 have b10:=F10.binds (ps:=["rule","many"]) fun _ _ _ _ _ _=>AHC fun _ _=>rfl
 have F11:=B7 (st:=AAG) l11 c11 k11
 have b11:=F11.binds (ps:=["line","y","below"]) fun _ _ _ _ _ _=>AQG fun _ _ _=>rfl
 have F12:=B7 (st:=AC3) l12 c12 k12
 have b12:=F12.binds (ps:=["line","x","y","below"]) fun _ _ _ _ _ _=>AdT fun _ _ _ _=>rfl
 have F13:=B7 (st:=ADZ) l13 c13 k13
 have b13:=F13.binds (ps:=["deeds","at"]) fun _ _ _ _ _ _=>AHC fun _ _=>rfl
 have F14:=B7 (st:=u7) l14 c14 k14
 have b14:=F14.binds (ps:=["thing","least","most"]) fun _ _ _ _ _ _=>AQG fun _ _ _=>rfl
 have F15:=B7 (st:=AAD) l15 c15 k15
 have b15:=F15.binds (ps:=["terms"]) fun _ _ _ _ _ _=>AH9 fun _=>rfl
 have F16:=B7 (st:=V0) l16 c16 k16
 have b16:=F16.binds (ps:=["lines","x","y","below"]) fun _ _ _ _ _ _=>AdT fun _ _ _ _=>rfl
 have F17:=B7 (st:=ABT) l17 c17 k17
 have b17:=F17.binds (ps:=["thing"]) fun _ _ _ _ _ _=>AH9 fun _=>rfl
 have F18:=B7 (st:=AEF) l18 c18 k18
 have b18:=F18.binds (ps:=["thing"]) fun _ _ _ _ _ _=>AH9 fun _=>rfl
 have F19:=B7 (st:=AA6) l19 c19 k19
 have b19:=F19.binds (ps:=["thing"]) fun _ _ _ _ _ _=>AH9 fun _=>rfl
 have F20:=B7 (st:=AA5) l20 c20 k20
 have b20:=F20.binds (ps:=["thing"]) fun _ _ _ _ _ _=>AH9 fun _=>rfl
 have F21:=B7 (st:=W0) l21 c21 k21
 have b21:=F21.binds (ps:=["path"]) fun _ _ _ _ _ _=>AH9 fun _=>rfl
 have F22:=B7 (st:=V7) l22 c22 k22
 have b22:=F22.binds (ps:=["path","width"]) fun _ _ _ _ _ _=>AHC fun _ _=>rfl
 have F23:=B7 (st:=Y0) l23 c23 k23
 have b23:=F23.binds (ps:=["x","y"]) fun _ _ _ _ _ _=>AHC fun _ _=>rfl
 have F24:=B7 (st:=W6) l24 c24 k24
 have b24:=F24.binds (ps:=["shape","y","columns"]) fun _ _ _ _ _ _=>AQG fun _ _ _=>rfl
 have F25:=B7 (st:=Y5) l25 c25 k25
 have b25:=F25.binds (ps:=["_law_script","_law_at"]) fun _ _ _ _ _ _=>AHC fun _ _=>rfl
 have F26:=B7 (st:=ACJ) l26 c26 k26
 have b26:=F26.binds (ps:=["thing"]) fun _ _ _ _ _ _=>AH9 fun _=>rfl
 have F27:=B7 (st:=X7) l27 c27 k27
 have b27:=F27.binds (ps:=["wide","high"]) fun _ _ _ _ _ _=>AHC fun _ _=>rfl
 have F28:=B7 (st:=t4) l28 c28 k28
 have b28:=F28.binds (ps:=["deed"]) fun _ _ _ _ _ _=>AH9 fun _=>rfl
 have F29:=B7 (st:=P6) l29 c29 k29
 have b29:=F29.binds (ps:=["shapes","y","columns"]) fun _ _ _ _ _ _=>AQG fun _ _ _=>rfl
 have F30:=B7 (st:=n6) l30 c30 k30
 have b30:=F30.binds (ps:=["_law_script","_law_at"]) fun _ _ _ _ _ _=>AHC fun _ _=>rfl
 have F31:=B7 (st:=ABM) l31 c31 k31
 have b31:=F31.binds (ps:=["thing"]) fun _ _ _ _ _ _=>AH9 fun _=>rfl
 have F32:=B7 (st:=X4) l32 c32 k32
 have b32:=F32.binds (ps:=["shapes","y","left","wide"]) fun _ _ _ _ _ _=>AdT fun _ _ _ _=>rfl
 have F33:=B7 (st:=n9) l33 c33 k33
 have b33:=F33.binds (ps:=["_law_script","_law_at"]) fun _ _ _ _ _ _=>AHC fun _ _=>rfl
 have F34:=B7 (st:=AC4) l34 c34 k34
 have b34:=F34.binds (ps:=["thing"]) fun _ _ _ _ _ _=>AH9 fun _=>rfl
 have F35:=B7 (st:=AE4) l35 c35 k35
 have b35:=F35.binds (ps:=["deeds","wide","high","left","top"]) fun _ _ _ _ _ _=>AgB fun _ _ _ _ _=>rfl
 have F36:=B7 (st:=w4) l36 c36 k36
 have b36:=F36.binds (ps:=["_law_script","_law_at"]) fun _ _ _ _ _ _=>AHC fun _ _=>rfl
 have F37:=B7 (st:=ABK) l37 c37 k37
 have b37:=F37.binds (ps:=["thing"]) fun _ _ _ _ _ _=>AH9 fun _=>rfl
 have F38:=B7 (st:=Y2) l38 c38 k38
 have b38:=F38.binds (ps:=["_law_script","_law_at","_law_many"]) fun _ _ _ _ _ _=>AQG fun _ _ _=>rfl
 have F39:=B7 (st:=X9) l39 c39 k39
 have b39:=F39.binds (ps:=["thing"]) fun _ _ _ _ _ _=>AH9 fun _=>rfl
 have F41:=B7 (st:=v3) l41 c41 k41
 have b41:=F41.binds (ps:=["deeds","x","y"]) fun _ _ _ _ _ _=>AQG fun _ _ _=>rfl
 have F42:=B7 (st:=AEG) l42 c42 k42
 have b42:=F42.binds (ps:=["deeds","wide","high"]) fun _ _ _ _ _ _=>AQG fun _ _ _=>rfl
 have F43:=B7 (st:=AKB) l43 c43 k43
 have b43:=F43.binds (ps:=["_law_script"]) fun _ _ _ _ _ _=>AH9 fun _=>rfl
 refine ⟨PySem.W.fnOf "law" "law" (S5 AKB) (L7 AKB) (C6 AKB) .none kV43 dc43 pm43 an43 cd43 ct43,fun s v=>.of_eq rfl,fun base _ _=>?_⟩
 have D_is_whole:Df l.prog w K mg base "is_whole" 1 1 G5:=Dfn.of (N:=ADR) (ps:=["thing"]) F0 scT (PySem.W.mg_of X G a0) b0 AGN (by decide +kernel) (fun cdv A outer s H E hr=>AL5 B hr) AHI
 have D_common_part:Df l.prog w K mg base "common_part" 1 2 B4:=Dfn.of (N:=x4) (ps:=["one","other"]) F1 scT (PySem.W.mg_of X G a1) b1 Z0 (by decide +kernel) (fun cdv A outer s H E hr=>AEN B hr) ACZ
 have D_is_short:Df l.prog w K mg base "is_short" 1 2 J8:=Dfn.of (N:=ADE) (ps:=["top","below"]) F2 scT (PySem.W.mg_of X G a2) b2 AGY (by decide +kernel) (fun cdv A outer s H E hr=>AL0 B g_TOO_GREAT hr) AI2
 have D_is_number:Df l.prog w K mg base "is_number" 2 1 D1:=Dfn.of (N:=ABJ) (ps:=["thing"]) F3 scT (PySem.W.mg_of X G a3) b3 AET (by decide +kernel) (fun cdv A outer s H E hr=>AI1 B D_common_part D_is_short D_is_whole hr) AFH
 have D__law_drawn:Df l.prog w K mg base "_law_drawn" 1 3 A4:=Dfn.of (N:=AAN) (ps:=["_law_script","_law_k","_law_many"]) F4 scT (PySem.W.mg_of X G a4) b4 (fun _ _ _ h=>C1 h) (by decide +kernel) (fun cdv A outer s H E hr=>AGG B hr) (fun ts _ h=>B5 h)
 have D__law_common:Df l.prog w K mg base "_law_common" 1 2 D8:=Dfn.of (N:=AA1) (ps:=["_law_one","_law_other"]) F5 scT (PySem.W.mg_of X G a5) b5 AC1 (by decide +kernel) (fun cdv A outer s H E hr=>AEI B hr) ACT
 have D__law_made:Df l.prog w K mg base "_law_made" 2 2 E3:=Dfn.of (N:=ACI) (ps:=["_law_above","_law_below"]) F6 scT (PySem.W.mg_of X G a6) b6 (fun _ _ _ h=>C1 h) (by decide +kernel) (fun cdv A outer s H E hr=>AHH B D__law_common hr) (fun ts _ h=>B5 h)
 have D_is_rule:Df l.prog w K mg base "is_rule" 1 1 L0:=Dfn.of (N:=AFP) (ps:=["thing"]) F7 scT (PySem.W.mg_of X G a7) b7 (fun _ _ _ h=>C1 h) (by decide +kernel) (fun cdv A outer s H E hr=>AOW B g_RULES hr) (fun ts _ h=>B5 h)
 have D_crossings:Df l.prog w K mg base "crossings" 1 2 U9:=Dfn.of (N:=ACO) (ps:=["lines","height"]) F8 scT (PySem.W.mg_of X G a8) b8 (fun _ _ _ h=>C1 h) (by decide +kernel) (fun cdv A outer s H E hr=>AHZ B hr) (fun ts _ h=>B5 h)
 have D_turns:Df l.prog w K mg base "turns" 1 2 AE6:=Dfn.of (N:=ANQ) (ps:=["found","x"]) F9 scT (PySem.W.mg_of X G a9) b9 (fun _ _ _ h=>C1 h) (by decide +kernel) (fun cdv A outer s H E hr=>AW3 B hr) (fun ts _ h=>B5 h)
 have D_is_in:Df l.prog w K mg base "is_in" 1 2 AAL:=Dfn.of (N:=AMC) (ps:=["rule","many"]) F10 scT (PySem.W.mg_of X G a10) b10 (fun _ _ _ h=>C1 h) (by decide +kernel) (fun cdv A outer s H E hr=>AVH B hr) (fun ts _ h=>B5 h)
 have D_is_level:Df l.prog w K mg base "is_level" 1 3 M8:=Dfn.of (N:=ADJ) (ps:=["line","y","below"]) F11 scT (PySem.W.mg_of X G a11) b11 (fun _ _ _ h=>C1 h) (by decide +kernel) (fun cdv A outer s H E hr=>AKX B zz_min hr) (fun ts _ h=>B5 h)
 have D_is_near:Df l.prog w K mg base "is_near" 1 4 N2:=Dfn.of (N:=AH7) (ps:=["line","x","y","below"]) F12 scT (PySem.W.mg_of X G a12) b12 (fun _ _ _ h=>C1 h) (by decide +kernel) (fun cdv A outer s H E hr=>AMO B hr) (fun ts _ h=>B5 h)
 have D_ink_by:Df l.prog w K mg base "ink_by" 1 2 x5:=Dfn.of (N:=AJW) (ps:=["deeds","at"]) F13 scT (PySem.W.mg_of X G a13) b13 (fun _ _ _ h=>C1 h) (by decide +kernel) (fun cdv A outer s H E hr=>AQZ B g_ERASE hr) (fun ts _ h=>B5 h)
 have D_is_within:Df l.prog w K mg base "is_within" 2 3 G9:=Dfn.of (N:=ACE) (ps:=["thing","least","most"]) F14 scT (PySem.W.mg_of X G a14) b14 (fun _ _ _ h=>C1 h) (by decide +kernel) (fun cdv A outer s H E hr=>AI0 B D_is_whole hr) (fun ts _ h=>B5 h)
 have D_in_units:Df l.prog w K mg base "in_units" 2 1 G4:=Dfn.of (N:=AD6) (ps:=["terms"]) F15 scT (PySem.W.mg_of X G a15) b15 (fun _ _ _ h=>C1 h) (by decide +kernel) (fun cdv A outer s H E hr=>AKR B D_common_part hr) (fun ts _ h=>B5 h)
 have D_is_near_one:Df l.prog w K mg base "is_near_one" 2 4 Q0:=Dfn.of (N:=y7) (ps:=["lines","x","y","below"]) F16 scT (PySem.W.mg_of X G a16) b16 (fun _ _ _ h=>C1 h) (by decide +kernel) (fun cdv A outer s H E hr=>AED B D_is_near hr) (fun ts _ h=>B5 h)
 have D_is_side:Df l.prog w K mg base "is_side" 3 1 U3:=Dfn.of (N:=AFI) (ps:=["thing"]) F17 scT (PySem.W.mg_of X G a17) b17 (fun _ _ _ h=>C1 h) (by decide +kernel) (fun cdv A outer s H E hr=>AOV B g_MOST_CELLS D_is_within hr) (fun ts _ h=>B5 h)
 have D_is_ink:Df l.prog w K mg base "is_ink" 3 1 T5:=Dfn.of (N:=AJV) (ps:=["thing"]) F18 scT (PySem.W.mg_of X G a18) b18 (fun _ _ _ h=>C1 h) (by decide +kernel) (fun cdv A outer s H E hr=>ARE B g_MOST_INK D_is_within hr) (fun ts _ h=>B5 h)
 have D_is_point:Df l.prog w K mg base "is_point" 3 1 Z9:=Dfn.of (N:=AD7) (ps:=["thing"]) F19 scT (PySem.W.mg_of X G a19) b19 (fun _ _ _ h=>C1 h) (by decide +kernel) (fun cdv A outer s H E hr=>AKM B D_is_number hr) (fun ts _ h=>B5 h)
 have D_is_width:Df l.prog w K mg base "is_width" 3 1 Q9:=Dfn.of (N:=ADS) (ps:=["thing"]) F20 scT (PySem.W.mg_of X G a20) b20 (fun _ _ _ h=>C1 h) (by decide +kernel) (fun cdv A outer s H E hr=>AKA B D_is_number hr) (fun ts _ h=>B5 h)
 have D_lines_round:Df l.prog w K mg base "lines_round" 3 1 K8:=Dfn.of (N:=x8) (ps:=["path"]) F21 scT (PySem.W.mg_of X G a21) b21 (fun _ _ _ h=>C1 h) (by decide +kernel) (fun cdv A outer s H E hr=>AES B D_in_units hr) (fun ts _ h=>B5 h)
 have D_lines_drawn:Df l.prog w K mg base "lines_drawn" 3 2 Q3:=Dfn.of (N:=x6) (ps:=["path","width"]) F22 scT (PySem.W.mg_of X G a22) b22 (fun _ _ _ h=>C1 h) (by decide +kernel) (fun cdv A outer s H E hr=>AEC B D_in_units hr) (fun ts _ h=>B5 h)
 have D_need_place:Df l.prog w K mg base "need_place" 3 2 P0:=Dfn.of (N:=AAV) (ps:=["x","y"]) F23 scT (PySem.W.mg_of X G a23) b23 (fun _ _ _ h=>C1 h) (by decide +kernel) (fun cdv A outer s H E hr=>AFW B g_FARTHEST D_is_within x_NoSize hr) (fun ts _ h=>B5 h)
 have D_columns_in:Df l.prog w K mg base "columns_in" 3 3 J5:=Dfn.of (N:=AAS) (ps:=["shape","y","columns"]) F24 scT (PySem.W.mg_of X G a24) b24 (fun _ _ _ h=>C1 h) (by decide +kernel) (fun cdv A outer s H E hr=>AF6 B D_crossings D_is_in D_is_level D_is_near_one D_turns hr) (fun ts _ h=>B5 h)
 have D__law_point:Df l.prog w K mg base "_law_point" 3 2 O6:=Dfn.of (N:=AAP) (ps:=["_law_script","_law_at"]) F25 scT (PySem.W.mg_of X G a25) b25 (fun _ _ _ h=>C1 h) (by decide +kernel) (fun cdv A outer s H E hr=>AFM B D__law_drawn D__law_made hr) (fun ts _ h=>B5 h)
 have D_is_part:Df l.prog w K mg base "is_part" 4 1 y9:=Dfn.of (N:=AFA) (ps:=["thing"]) F26 scT (PySem.W.mg_of X G a26) b26 (fun _ _ _ h=>C1 h) (by decide +kernel) (fun cdv A outer s H E hr=>ANU B D_is_point hr) (fun ts _ h=>B5 h)
 have D_need_sides:Df l.prog w K mg base "need_sides" 4 2 P1:=Dfn.of (N:=AAT) (ps:=["wide","high"]) F27 scT (PySem.W.mg_of X G a27) b27 (fun _ _ _ h=>C1 h) (by decide +kernel) (fun cdv A outer s H E hr=>AGH B D_is_side x_NoSize hr) (fun ts _ h=>B5 h)
 have D_shapes_of:Df l.prog w K mg base "shapes_of" 4 1 V6:=Dfn.of (N:=ACD) (ps:=["deed"]) F28 scT (PySem.W.mg_of X G a28) b28 (fun _ _ _ h=>C1 h) (by decide +kernel) (fun cdv A outer s H E hr=>AI7 B g_ERASE D_lines_drawn D_lines_round hr) (fun ts _ h=>B5 h)
 have D_columns_in_all:Df l.prog w K mg base "columns_in_all" 4 3 D6:=Dfn.of (N:=W2) (ps:=["shapes","y","columns"]) F29 scT (PySem.W.mg_of X G a29) b29 (fun _ _ _ h=>C1 h) (by decide +kernel) (fun cdv A outer s H E hr=>AAX B D_columns_in hr) (fun ts _ h=>B5 h)
 have D__law_part:Df l.prog w K mg base "_law_part" 4 2 S6:=Dfn.of (N:=ACQ) (ps:=["_law_script","_law_at"]) F30 scT (PySem.W.mg_of X G a30) b30 (fun _ _ _ h=>C1 h) (by decide +kernel) (fun cdv A outer s H E hr=>AID B D__law_drawn D__law_point hr) (fun ts _ h=>B5 h)
 have D_is_path:Df l.prog w K mg base "is_path" 5 1 N0:=Dfn.of (N:=AF5) (ps:=["thing"]) F31 scT (PySem.W.mg_of X G a31) b31 (fun _ _ _ h=>C1 h) (by decide +kernel) (fun cdv A outer s H E hr=>ANB B D_is_part hr) (fun ts _ h=>B5 h)
 have D_row_inkers:Df l.prog w K mg base "row_inkers" 5 4 T3:=Dfn.of (N:=AAO) (ps:=["shapes","y","left","wide"]) F32 scT (PySem.W.mg_of X G a32) b32 (fun _ _ _ h=>C1 h) (by decide +kernel) (fun cdv A outer s H E hr=>AFQ B zz_reversed D_columns_in_all hr) (fun ts _ h=>B5 h)
 have D__law_path:Df l.prog w K mg base "_law_path" 5 2 L8:=Dfn.of (N:=ACP) (ps:=["_law_script","_law_at"]) F33 scT (PySem.W.mg_of X G a33) b33 (fun _ _ _ h=>C1 h) (by decide +kernel) (fun cdv A outer s H E hr=>AI5 B D__law_drawn D__law_part hr) (fun ts _ h=>B5 h)
 have D_is_clip:Df l.prog w K mg base "is_clip" 6 1 U7:=Dfn.of (N:=AGR) (ps:=["thing"]) F34 scT (PySem.W.mg_of X G a34) b34 (fun _ _ _ h=>C1 h) (by decide +kernel) (fun cdv A outer s H E hr=>AOQ B D_is_path D_is_rule hr) (fun ts _ h=>B5 h)
 have D_inkers:Df l.prog w K mg base "inkers" 6 5 V3:=Dfn.of (N:=AJM) (ps:=["deeds","wide","high","left","top"]) F35 scT (PySem.W.mg_of X G a35) b35 (fun _ _ _ h=>C1 h) (by decide +kernel) (fun cdv A outer s H E hr=>AR7 B D_row_inkers D_shapes_of hr) (fun ts _ h=>B5 h)
 have D__law_deed:Df l.prog w K mg base "_law_deed" 6 2 S3:=Dfn.of (N:=ABZ) (ps:=["_law_script","_law_at"]) F36 scT (PySem.W.mg_of X G a36) b36 (fun _ _ _ h=>C1 h) (by decide +kernel) (fun cdv A outer s H E hr=>AHO B D__law_drawn D__law_made D__law_path hr) (fun ts _ h=>B5 h)
 have D_is_deed:Df l.prog w K mg base "is_deed" 7 1 O5:=Dfn.of (N:=AH1) (ps:=["thing"]) F37 scT (PySem.W.mg_of X G a37) b37 (fun _ _ _ h=>C1 h) (by decide +kernel) (fun cdv A outer s H E hr=>AO9 B g_ERASE D_is_clip D_is_ink D_is_path D_is_rule D_is_width hr) (fun ts _ h=>B5 h)
 have D__law_deeds:Df l.prog w K mg base "_law_deeds" 7 3 T4:=Dfn.of (N:=AAU) (ps:=["_law_script","_law_at","_law_many"]) F38 scT (PySem.W.mg_of X G a38) b38 (fun _ _ _ h=>C1 h) (by decide +kernel) (fun cdv A outer s H E hr=>AGD B D__law_deed hr) (fun ts _ h=>B5 h)
 have D_need_deeds:Df l.prog w K mg base "need_deeds" 8 1 M6:=Dfn.of (N:=AAR) (ps:=["thing"]) F39 scT (PySem.W.mg_of X G a39) b39 (fun _ _ _ h=>C1 h) (by decide +kernel) (fun cdv A outer s H E hr=>AGJ B D_is_deed x_NoDeeds hr) (fun ts _ h=>B5 h)
 have FN40:FnOk l.prog w K mg base (CXE l.prog w base) 9 f40 _ ["deeds","wide","high","left","top"] (spM K 5 S2):=AVS (st:=O7) (N:=AH6) (ps:=["deeds","wide","high","left","top"]) l40 c40 scT (fun cdv A outer s H E hr=>API B D_ink_by D_inkers D_need_deeds D_need_place D_need_sides hr) (fun ts _ h=>B5 h)
 have D2_painted:DfnD (CXE l.prog w base) l.prog w K mg base "painted" 9 5 S2 [(.int 0),(.int 0)]:=⟨⟨_,_,_,[.int 0,.int 0],[.int 0 kt40_0,.int 0 kt40_1],FN40,PySem.W.mg_of X G a40,k40,AYI rfl pk40,(.cons ⟨_,rfl⟩ (.cons ⟨_,rfl⟩ .nil)),fun H=>(B6 C3 (B6 C3 C5))⟩,(fun _ _ _ h=>C1 h),by decide +kernel⟩
 have DK_painted:DfnK (CXE l.prog w base) l.prog w K mg base "painted" 9 3 5 S2 ["left","top"]:=⟨⟨_,_,_,FN40,PySem.W.mg_of X G a40,k40,ART rfl (fun a b c d e=>rfl)⟩,(fun _ _ _ h=>C1 h),by decide +kernel,rfl⟩
 have D_who_inked:Df l.prog w K mg base "who_inked" 9 3 S0:=Dfn.of (N:=ACM) (ps:=["deeds","x","y"]) F41 scT (PySem.W.mg_of X G a41) b41 (fun _ _ _ h=>C1 h) (by decide +kernel) (fun cdv A outer s H E hr=>AIL B D_inkers D_need_deeds D_need_place hr) (fun ts _ h=>B5 h)
 have D_hidden:Df l.prog w K mg base "hidden" 9 3 K7:=Dfn.of (N:=AIN) (ps:=["deeds","wide","high"]) F42 scT (PySem.W.mg_of X G a42) b42 (fun _ _ _ h=>C1 h) (by decide +kernel) (fun cdv A outer s H E hr=>ARR B D_inkers D_need_deeds D_need_sides hr) (fun ts _ h=>B5 h)
 have D_law:FnOk l.prog w K mg base (CXE l.prog w base) 10 _ _ ["_law_script"] (spM K 1 AMU):=Dfn.fnOk (N:=AYW) (ps:=["_law_script"]) F43 scT (fun cdv A outer s H E hr=>AdB B zz_enumerate zz_set zz_sorted D__law_deeds D__law_drawn D_hidden D_who_inked D2_painted hr) (fun ts _ h=>B5 h)
 exact ANP D_law
theorem walk {l:PySem.W.OpenLaw} {q:Program} {loose:List Str} {XP:(Str→Option Value)→Heap→Prop} {YP:World→Heap→Prop} {d:DefRec} {K:Params→PySem.W.Frag} (hn:l.most=some 63) (hdf:d.params.defaults=[])
  (hY:∀(w:World) (h:Heap),YP w h→(K w.params).In h)
  (F:∀(w:World) (mg:Str→Option Value) (fa:Addr) (h:Heap),(K w.params).In h→h.Ns mainGlobals mg→mg d.name=some (.ref fa) →
   ∃fd:FuncData,(∀(s:Shared) (u:Value),BindsTo s fd ⟨[u],[]⟩ [("_law_script",u)])∧∀base:Heap,(K w.params).In base→base.Ns mainGlobals mg→FnOk l.prog w (K w.params) mg base CX0 10 fa fd ["_law_script"] (fun vs H Q _=>spM (K w.params) 1 AMU vs H Q fun _ _ _=>False)) :
  PySem.W.WalkO q loose XP YP l.row.toRowW d [] (fun f vs=>PySem.call f vs) :=
 L2.walk_of (n:=63) (k:=10) (x:="_law_script") (CX:=fun _=>CX0) (sp:=fun w=>(fun vs H Q _=>spM (K w.params) 1 AMU vs H Q fun _ _ _=>False)) hn (by decide) hdf ⟨rfl,by decide,by decide⟩ hY F (fun w H a ns hl _ hS=>AXH AS1 hl hS) fun _ _ _ _ _ z=>z
end Kw
def PySem.W.Fast.tw13195440827887467756:Nat:=0
def PySem.W.Fast.tw16512529012485266168:Nat:=0
def PySem.W.Fast.tw11992690665073203258:Nat:=0
def PySem.W.Fast.tw9530733008375600171:Nat:=0
def PySem.W.Fast.tw7818298932090224804:Nat:=0
def PySem.W.Fast.tw12584164464104699504:Nat:=0
def PySem.W.Fast.tw13959086932275185158:Nat:=0
def PySem.W.Fast.tw1539211422196996821:Nat:=0
def PySem.W.Fast.tw13283940358841163712:Nat:=0
def PySem.W.Fast.tw11384586779209823511:Nat:=0
def PySem.W.Fast.tw4592920383085636237:Nat:=0
def PySem.W.Fast.tw13433556856778128828:Nat:=0
def PySem.W.Fast.tw15683425182506456604:Nat:=0
def PySem.W.Fast.tw15439484461836636835:Nat:=0
def PySem.W.Fast.tw831608284213384058:Nat:=0
def PySem.W.Fast.tw18034557576325140881:Nat:=0
def PySem.W.Fast.tw14101768614341384491:Nat:=0
def PySem.W.Fast.tw600901327378807477:Nat:=0
open PySem PySem.W PyProof.Rows
set_option maxRecDepth 100000 in
set_option maxHeartbeats 0 in
theorem PySem.Challenge.cw_pageloom_k24_whole_hidden_holds : PySem.Challenge.rw_pageloom_k24_whole_hidden.Holds := by
 w_on;o_law;k_head;(case hw=>w_witness2)
 k_fill
 refine Kw.walk (l:=PySem.Challenge.rw_pageloom_k24_whole_hidden) rfl rfl (fun w h Y=>PySem.W.kIn_of Y) ?F
 case F =>
  intro w mg fa h KX G hmg
  refine' Kw.all_mk KX G hmg ?q0 ?q1 ?q2 ?q3 ?q4 ?q5 ?q6 ?q7 ?q8 ?q9 ?q10 ?q11 ?q12 ?q13 ?q14 ?q15 ?q16 ?q17 ?q18 ?q19 ?q20 ?q21 ?q22 ?q23 ?q24 ?q25 ?q26 ?q27 ?q28 ?q29 ?q30 ?q31 ?q32 ?q33 ?q34 ?q35 ?q36 ?q37 ?q38 ?q39 ?q41 ?q42 ?q43 ?a40 ?l40 ?c40 ?k40 ?kl40_0 ?kl40_1 ?pk40 ?z_len ?z_abs ?z_str ?z_int ?z_bool ?z_tuple ?z_list ?z_range ?z_isinstance ?z_all ?z_max ?z_sum ?z_zip ?z_enumerate ?z_min ?z_reversed ?z_set ?z_sorted ?q_TOO_GREAT ?q_MOST_CELLS ?q_MOST_INK ?q_FARTHEST ?q_RULES ?tl_RULES0 ?q_ERASE ?tl_ERASE0 ?n_NoDeeds ?n_NoSize ?xi_NoDeeds ?xi_NoSize
  (case a40=>k_is)
  (case l40=>k_is)
  (case c40=>k_is)
  (case k40=>k_is)
  (case kl40_0=>k_is)
  (case kl40_1=>k_is)
  (case pk40=>(intro S a b c;first | kernel_rfl | rfl))
  (case z_len=>k_is)
  (case z_abs=>k_is)
  (case z_str=>k_is)
  (case z_int=>k_is)
  (case z_bool=>k_is)
  (case z_tuple=>k_is)
  (case z_list=>k_is)
  (case z_range=>k_is)
  (case z_isinstance=>k_is)
  (case z_all=>k_is)
  (case z_max=>k_is)
  (case z_sum=>k_is)
  (case z_zip=>k_is)
  (case z_enumerate=>k_is)
  (case z_min=>k_is)
  (case z_reversed=>k_is)
  (case z_set=>k_is)
  (case z_sorted=>k_is)
  (case q_TOO_GREAT=>k_is)
  (case q_MOST_CELLS=>k_is)
  (case q_MOST_INK=>k_is)
  (case q_FARTHEST=>k_is)
  (case q_RULES=>k_is)
  (case tl_RULES0=>k_is)
  (case q_ERASE=>k_is)
  (case tl_ERASE0=>k_is)
  (case n_NoDeeds=>k_is)
  (case n_NoSize=>k_is)
  (case xi_NoDeeds=>kernel_rfl)
  (case xi_NoSize=>kernel_rfl)
  iterate 43 (refine' Tr.fnX_mk ?a ?l ?c ?k;(case a=>k_is);(case l=>k_is);(case c=>k_is);(case k=>k_is))
end
