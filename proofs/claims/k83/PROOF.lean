import PyProof.Rows.All
import Wide.All
import OpenK.AllK
import Wide.FinOn
import Lean
import PyProof.EqAt
import PyProof.EqKinds
import PyProof.TupleCall
import PyProof.NeKinds
import PyProof.ListRange
import PyProof.Draws
import PyProof.Rows.SortStr
import KE.KDictSum
import KE.KEqDict
import KE.KDictOf
import KE.KRevSl
import PyProof.StrWalks
import PyProof.StrBlock2
import PyProof.SetKind
import PyProof.SetRoads
import PyProof.Rows.SetFrom
import PyProof.ReprRoads
import PyProof.ReprLen
import PyProof.NsDelKeeps
import PyProof.ListMulRoad
import PyProof.FactsAll.tuple_2
import KE.KLam
import KE.KNestM
import PyProof.AttrMissHeap
import PyProof.Rows.SortShell
import PySem.Challenge.RW_figurejudge_k83_sayings_written_and_read
set_option Elab.async false
set_option linter.all false
set_option maxRecDepth 100000
set_option maxHeartbeats 4000000
namespace L2
open PySem PySem.Spec PyProof.Rows
abbrev Key:=Sum Int Str
def p7:Key→Value→Bool
 | .inl k,v=>Value.isInt k v
 | .inr x,v=>Value.isStrOf x v
def MO (w:World):Key→Int
 | .inl k=>hashInt k
 | .inr x=>hashStr w x
theorem dA:∀{k:Key} {v:Value},p7 k v=true→(∃i t,k=Sum.inl i∧v=Value.int i t)∨(∃x t,k=Sum.inr x∧v=Value.str x t)
 | .inl i,v,h=>by
  obtain⟨t,e⟩:=Value.isInt_shape (k:=i) (v:=v) h
  exact .inl ⟨i,t,rfl,e⟩
 | .inr x,v,h=>by
  obtain⟨t,e⟩:=Value.isStrOf_shape (x:=x) (v:=v) h
  exact .inr ⟨x,t,rfl,e⟩
theorem By (i:Int) (t:Tok):p7 (.inl i) (.int i t)=true:=by simp[p7,Value.isInt]
theorem Bz (x:Str) (t:Tok):p7 (.inr x) (.str x t)=true:=by simp[p7,Value.isStrOf]
theorem Hc (a b:Int):decide ((Sum.inl a:Key)=Sum.inl b)=(a == b):=by
 by_cases e:a=b
 ·subst e;simp
 ·have h:¬(Sum.inl a:Key)=Sum.inl b:=fun q=>e (Sum.inl.inj q)
  rw[decide_eq_false h]
  exact(beq_eq_false_iff_ne.mpr e).symm
theorem He (a b:Str):decide ((Sum.inr a:Key)=Sum.inr b)=decide (a=b):=by
 by_cases e:a=b
 ·subst e;simp
 ·have h:¬(Sum.inr a:Key)=Sum.inr b:=fun q=>e (Sum.inr.inj q)
  rw[decide_eq_false h,decide_eq_false e]
theorem Hf (a:Int) (b:Str):decide ((Sum.inl a:Key)=Sum.inr b)=false:=decide_eq_false (fun q=>nomatch q)
theorem Hg (a:Str) (b:Int):decide ((Sum.inr a:Key)=Sum.inl b)=false:=decide_eq_false (fun q=>nomatch q)
def dE (prog:Program) (w:World):PySem.KeyKind prog w Key where
 is:=p7
 hash:=MO w
 inj:=fun v a b ha hb=>by
  rcases dA ha with⟨i,t,rfl,rfl⟩ | ⟨x,t,rfl,rfl⟩
  ·rcases dA hb with⟨j,u,rfl,e⟩ | ⟨y,u,rfl,e⟩
   ·injection e with e1 _;rw[e1]
   ·exact nomatch e
  ·rcases dA hb with⟨j,u,rfl,e⟩ | ⟨y,u,rfl,e⟩
   ·exact nomatch e
   ·injection e with e1 _;rw[e1]
 byValue:=fun k v h=>by
  rcases dA h with⟨i,t,rfl,rfl⟩ | ⟨x,t,rfl,rfl⟩<;>rfl
 pyHash:=fun hv h=>by
  rcases dA hv with⟨i,t,rfl,rfl⟩ | ⟨x,t,rfl,rfl⟩
  ·exact wpAny_pyHash_int h
  ·exact wpAny_pyHash_str h
 eqBool:=fun hu hv h=>by
  rcases dA hu with⟨i,t,rfl,rfl⟩ | ⟨x,t,rfl,rfl⟩
  ·rcases dA hv with⟨j,u,rfl,rfl⟩ | ⟨y,u,rfl,rfl⟩
   ·rw[Hc] at h;exact wpAny_eqBool_int h
   ·rw[Hf] at h;exact SeqAt.EqAt.int_str i t y u _ _ _ _ h
  ·rcases dA hv with⟨j,u,rfl,rfl⟩ | ⟨y,u,rfl,rfl⟩
   ·rw[Hg] at h;exact SeqAt.EqAt.str_int x t j u _ _ _ _ h
   ·rw[He] at h;exact wpAny_eqBool_str h
 «strs» :=fun k x t v h=>by
  rcases dA h with⟨i,u,rfl,e⟩ | ⟨y,u,rfl,e⟩
  ·exact nomatch e
  ·injection e with e1 _
   subst e1
   cases v<;>rfl
theorem xP (prog:Program) (w:World) (i:Int) (t:Tok):(dE prog w).is (.inl i) (.int i t)=true:=By i t
theorem xQ (prog:Program) (w:World) (x:Str) (t:Tok):(dE prog w).is (.inr x) (.str x t)=true:=Bz x t
inductive V where
 | non | bl (b:Bool) | int (i:Int) | str (x:Str) | ko (b:Array UInt8) | flt (b:UInt64) | ref (a:Addr) | ty (n:String)
 deriving DecidableEq
def RelV:V→Value→Prop
 | .non,u=>u=Value.none
 | .bl b,u=>u=Value.bool b
 | .int i,u=>∃t,u=Value.int i t
 | .str x,u=>∃t,u=Value.str x t
 | .ko b,u=>∃t,u=Value.bytes b t
 | .flt b,u=>∃t,u=Value.float b t
 | .ref a,u=>u=Value.ref a
 | .ty n,u=>u=Value.type n
abbrev Vals:List V→List Value→Prop:=Paired RelV
theorem Vals.length {xs:List V} {us:List Value} (r:Vals xs us):xs.length=us.length:=Paired.length r
theorem Vals.get:∀{xs:List V} {us:List Value} {i:Nat} {x:V},Vals xs us→xs[i]? =some x→∃u,us[i]? =some u∧RelV x u
 | _,_,_,_,.nil,e=>by simp at e
 | _,_,0,_,.cons r _,e=>by simp at e;subst e;exact⟨_,rfl,r⟩
 | _,_,i+1,x,.cons _ t,e=>by
  obtain⟨u,h1,h2⟩:=Vals.get (i:=i) (x:=x) t (by simpa using e)
  exact⟨u,by simpa using h1,h2⟩
theorem Vals.set {x:V} {u:Value} (r:RelV x u):∀{xs:List V} {us:List Value} (i:Nat),Vals xs us→Vals (xs.set i x) (us.set i u)
 | _,_,_,.nil=>.nil
 | _,_,0,.cons _ t=>.cons r t
 | _,_,i+1,.cons q t=>.cons q (Vals.set r i t)
theorem Vals.append:∀{xs ys:List V} {us ws:List Value},Vals xs us→Vals ys ws→Vals (xs++ys) (us++ws)
 | _,_,_,_,.nil,s=>s
 | _,_,_,_,.cons r t,s=>.cons r (Vals.append t s)
theorem Vals.take:∀{xs:List V} {us:List Value} (n:Nat),Vals xs us→Vals (xs.take n) (us.take n)
 | _,_,0,_=>.nil
 | _,_,_+1,.nil=>.nil
 | _,_,n+1,.cons r t=>.cons r (Vals.take n t)
theorem Vals.drop:∀{xs:List V} {us:List Value} (n:Nat),Vals xs us→Vals (xs.drop n) (us.drop n)
 | _,_,0,r=>r
 | _,_,_+1,.nil=>.nil
 | _,_,n+1,.cons _ t=>Vals.drop n t
def iI:Option V→Option Value→Prop
 | some v,some u=>RelV v u
 | none,none=>True
 | _,_=>False
def KV {κ:Type}:List (κ×V)→List (κ×Value)→Prop:=Paired fun(p:κ×V) (q:κ×Value)=>p.1=q.1∧RelV p.2 q.2
def kV:Key→V
 | .inl i=>.int i
 | .inr x=>.str x
inductive HO where
 | lst (xs:List V)
 | tup (xs:List V)
 | dK (kvs:List (Key×V)) | dT (kvs:List (List Key×V))
 | set (S:Int→Bool) (n:Nat)
 | ins (C dx:Addr) (fs:List (Str×V))
 | own (x:Addr)
 | xd (fs:List (Str×V))
 | met (f x:Addr)
 | rng (lo hi:Int)
 | lI (o:Obj) (u:HO)
 | vj (ps:Array Value)
 | ext (φ:Heap→Prop)
abbrev Hp:=Addr→Option HO
def upd (H:Hp) (a:Addr) (o:HO):Hp:=fun b=>if b=a then some o else H b
theorem ag {H:Hp} {a:Addr} {o:HO}:upd H a o a=some o:=by unfold upd;rw[if_pos rfl]
theorem br {H:Hp} {a b:Addr} {o:HO} (h:b≠a):upd H a o b=H b:=by unfold upd;rw[if_neg h]
theorem h_ {H:Hp} {a b:Addr} {o u:HO} (h:H a=some o) (h':H b=some u) (d:o≠u):a≠b:=by
 intro e;subst e;rw[h] at h';exact d (Option.some.inj h')
theorem aU {H:Hp} {a b:Addr} {o:HO} (h:H a=some o) (h':H b=none):a≠b:=by
 intro e;subst e;rw[h] at h';cases h'
section
variable (P:Program) (w:World)
def b_ (H:Hp) (h:Heap) (a:Addr):HO→Prop
 | .lst xs=>xs.length≤sizeLine∧∃(its:List Value) (n:Nat),Vals xs its∧h.get? a=some {cls:=.type "list",data:=.seq its.toArray n}
 | .tup xs=>(xs.length≤sizeLine∧∃o,h.get? a=some o∧o.dict=none)∧∃its:List Value,Vals xs its∧IsTup h a its.toArray
 | .dK kvs=>kvs.length≤sizeLine∧(a == sysModules)=false∧∃vs,KV kvs vs∧h.DictOf (dE P w) a vs
 | .dT kvs=>kvs.length≤sizeLine∧(a == sysModules)=false∧∃xs:List (List Key×Addr×Value),
   Paired (fun(p:List Key×V) (q:List Key×Addr×Value)=>p.1=q.1∧H q.2.1=some (.tup (p.1.map kV))∧RelV p.2 q.2.2) kvs xs∧
   ∃o es ep,h.get? a=some o∧o.ExactDict∧o.data=.dict es ep∧es.toList=xs.map (entryOfKey (tupleKind (dE P w)))∧(xs.map (·.1)).Nodup
 | .set S n=>h.SetOf (intKind P w) a S n
 | .ins C dx fs=>H dx=some (.own a)∧fs.length≤1000∧dx≠a∧h.get? a=some (PySem.W.instObj C dx)∧
   ∃mA,h.Ns1 dx mA∧(∀f,iI (fs.lookup f) (mA f))∧PySem.Within mA (fs.map (·.1))
 | .own _=>∃o,h.get? a=some o
 | .xd fs=>∃mA,h.Ns1 a mA∧∀f,iI (fs.lookup f) (mA f)
 | .rng lo hi=>∃t u v,h.get? a=some {cls:=.type "range",data:=.fields #[.int lo t,.int hi u,.int 1 v]}
 | .lI o u=>h.get? a=some o∧b_ H h a u
 | .vj ps=>h.get? a=some {cls:=.none,data:=.fields ps}
 | .met f x=>h.get? a=some (PySem.W.methodObj (.ref f) (.ref x))
 | .ext φ=>φ h∧(∃o,h.get? a=some o)∧∀h1 h2:Heap,φ h1→(∀o,h1.get? a=some o→h2.get? a=some o)→φ h2
def dZ (H:Hp) (h:Heap):Prop:=∀a o,H a=some o→b_ P w H h a o
end
section
variable {P:Program} {w:World} {H H':Hp} {h h':Heap} {a:Addr} {o:HO}
theorem b_.lt (x:b_ P w H h a o):a<h.objs.size:=by
 cases o with
 | lst xs=>obtain⟨_,_,_,_,e⟩:=x;exact Heap.lt_size e
 | tup xs=>obtain⟨_,_,_,p⟩:=x;exact p.lt
 | dK kvs=>obtain⟨_,_,_,_,o,_,_,e,_⟩:=x;exact Heap.lt_size e
 | dT kvs=>obtain⟨_,_,_,_,o,_,_,e,_⟩:=x;exact Heap.lt_size e
 | set S n=>obtain⟨o,_,_,_,e,_⟩:=x;exact Heap.lt_size e
 | ins C dx fs=>obtain⟨_,_,_,e,_⟩:=x;exact Heap.lt_size e
 | own y=>obtain⟨_,e⟩:=x;exact Heap.lt_size e
 | xd fs=>obtain⟨_,⟨_,_,_,e,_⟩,_⟩:=x;exact Heap.lt_size e
 | rng lo hi=>obtain⟨_,_,_,e⟩:=x;exact Heap.lt_size e
 | lI ob u=>obtain⟨e,_⟩:=x;exact Heap.lt_size e
 | vj ps=>exact Heap.lt_size (show h.get? a=some _ from x)
 | met f y=>exact Heap.lt_size (show h.get? a=some _ from x)
 | ext φ=>obtain⟨_,⟨_,e⟩,_⟩:=x;exact Heap.lt_size e
theorem Paired.oQ {α β:Type} {F G:α→β→Prop}:∀{l₁:List α} {l₂:List β},Paired F l₁ l₂→(∀a b,F a b→G a b)→Paired G l₁ l₂
 | _,_,.nil,_=>.nil
 | _,_,.cons r t,f=>.cons (f _ _ r) (Paired.oQ t f)
theorem b_.stay (x:b_ P w H h a o) (k:∀b u,(b=a∨H b=some (.own a))→h.get? b=some u→h'.get? b=some u)
  (ho:∀b,H b=some (.own a)→H' b=some (.own a)) (ht:∀b xs,H b=some (.tup xs)→H' b=some (.tup xs)):b_ P w H' h' a o:=by
 induction o with
 | lst xs=>obtain⟨z,its,n,r,e⟩:=x;exact⟨z,its,n,r,k _ _ (.inl rfl) e⟩
 | tup xs=>obtain⟨⟨z,o2,e2,d2⟩,its,r,ob,e,c⟩:=x;exact⟨⟨z,o2,k _ _ (.inl rfl) e2,d2⟩,its,r,ob,k _ _ (.inl rfl) e,c⟩
 | dK kvs=>obtain⟨z,y,vs,r,ob,es,ep,e,c⟩:=x;exact⟨z,y,vs,r,ob,es,ep,k _ _ (.inl rfl) e,c⟩
 | dT kvs=>
  obtain⟨z,y,xs,r,ob,es,ep,e,c⟩:=x
  exact⟨z,y,xs,Paired.oQ r fun p q z=>⟨z.1,ht _ _ z.2.1,z.2.2⟩,ob,es,ep,k _ _ (.inl rfl) e,c⟩
 | set S n=>obtain⟨ob,es,ep,t,e,c⟩:=x;exact⟨ob,es,ep,t,k _ _ (.inl rfl) e,c⟩
 | ins C dx fs=>
  obtain⟨d,z,ne,e,mA,⟨od,es,ep,e2,c⟩,r⟩:=x
  exact⟨ho _ d,z,ne,k _ _ (.inl rfl) e,mA,⟨od,es,ep,k _ _ (.inr d) e2,c⟩,r⟩
 | own y=>obtain⟨ob,e⟩:=x;exact⟨ob,k _ _ (.inl rfl) e⟩
 | xd fs=>obtain⟨mA,⟨od,es,ep,e,c⟩,r⟩:=x;exact⟨mA,⟨od,es,ep,k _ _ (.inl rfl) e,c⟩,r⟩
 | rng lo hi=>obtain⟨t,u,v,e⟩:=x;exact⟨t,u,v,k _ _ (.inl rfl) e⟩
 | lI ob u ih=>obtain⟨e,q⟩:=x;exact⟨k _ _ (.inl rfl) e,ih q⟩
 | vj ps=>
  have e:h.get? a=some {cls:=.none,data:=.fields ps}:=x
  show h'.get? a=some {cls:=.none,data:=.fields ps}
  exact k a _ (.inl rfl) e
 | met f y=>
  have e:h.get? a=some (PySem.W.methodObj (.ref f) (.ref y)):=x
  show h'.get? a=some (PySem.W.methodObj (.ref f) (.ref y))
  exact k a _ (.inl rfl) e
 | ext φ=>obtain⟨p,⟨o,e⟩,st⟩:=x;exact⟨st _ _ p fun o q=>k _ _ (.inl rfl) q,⟨o,k _ _ (.inl rfl) e⟩,st⟩
theorem dZ.lt (x:dZ P w H h) (e:H a=some o):a<h.objs.size:=(x a o e).lt
theorem dZ.fresh (x:dZ P w H h) (e:h.objs.size≤a):H a=none:=by
 cases q:H a with
 | none=>rfl
 | some u=>exact absurd (Nat.lt_of_lt_of_le (x.lt q) e) (Nat.lt_irrefl _)
theorem dZ.kept (x:dZ P w H h) (k:∀b u,h.get? b=some u→h'.get? b=some u):dZ P w H h':=fun a o e=>
 (x a o e).stay (fun b u _ q=>k b u q) (fun _ q=>q) fun _ _ q=>q
theorem dZ.laid (x:dZ P w H h) (k:∀b u,h.get? b=some u→h'.get? b=some u) (hp:h.objs.size≤a) (new:b_ P w (upd H a o) h' a o):dZ P w (upd H a o) h':=fun b u e=>by
 have hn:=x.fresh hp
 by_cases hb:b=a
 ·subst hb;rw[ag] at e;cases e;exact new
 ·rw[br hb] at e
  exact(x b u e).stay (fun c v _ q=>k c v q) (fun c q=>by rw[br (aU q hn)];exact q) fun c xs q=>by rw[br (aU q hn)];exact q
end
def Rd (H:Hp) (a:Addr) (u:HO):Prop:=H a=some u∨∃o,H a=some (.lI o u)
theorem Rd.ok {P:Program} {w:World} {H:Hp} {h:Heap} {a:Addr} {u:HO} (r:Rd H a u) (x:dZ P w H h):b_ P w H h a u:=by
 rcases r with r | ⟨o,r⟩
 ·exact x a u r
 ·obtain⟨_,q⟩:=x a _ r
  exact q
def BA:Option HO→Prop
 | some (.lst _)=>True
 | some (.dK _)=>True
 | some (.dT _)=>True
 | some (.set _ _)=>True
 | some (.ins _ _ _)=>True
 | some (.ext _)=>True
 | _=>False
section
variable {P:Program} {w:World} {H:Hp} {h h':Heap} {x e:Addr} {o':HO}
theorem dZ.write (ok:dZ P w H h) (mu:BA (H x)) (he:e=x∨H e=some (.own x)) (k:∀b u,b≠e→h.get? b=some u→h'.get? b=some u) (heo:∃u,h'.get? e=some u)
  (new:b_ P w (upd H x o') h' x o'):dZ P w (upd H x o') h':=fun b u q=>by
 have Hh:∀c y,H c=some (.own y)→c≠x:=fun c y r z=>by subst z;rw[r] at mu;exact mu
 have MP:∀c xs,H c=some (.tup xs)→c≠x:=fun c xs r z=>by subst z;rw[r] at mu;exact mu
 by_cases hb:b=x
 ·subst hb;rw[ag] at q;cases q;exact new
 ·rw[br hb] at q
  by_cases hbe:b=e
  ·have q':H b=some (.own x):=by
    rcases he with z | z
    ·exact absurd (hbe.trans z) hb
    ·rw[hbe];exact z
   rw[q] at q';cases q'
   obtain⟨v,hv⟩:=heo
   exact⟨v,by rw[hbe];exact hv⟩
  ·refine(ok b u q).stay (fun c v hc r=>k c v ?_ r) (fun c r=>by rw[br (Hh c b r)];exact r) fun c xs r=>by rw[br (MP c xs r)];exact r
   rcases hc with rfl | hc
   ·exact hbe
   ·rintro rfl
    rcases he with z | z
    ·exact Hh c b hc z
    ·rw[hc] at z;cases z;exact hb rfl
end
structure Un (fs ex:List Addr) (H H':Hp) (h h':Heap):Prop where
 keep:∀b o,h.get? b=some o→H b=none→b ∉ fs→b ∉ ex→h'.get? b=some o
 slot:∀b o,h.get? b=some o→H b=none→b∈fs→b ∉ ex→∃sl,h'.get? b=some {o with slots:=sl}
 free:∀b o,h.get? b=some o→H b=none→b ∉ ex→H' b=none
 there:∀b o,h.get? b=some o→b ∉ ex→∃o',h'.get? b=some o'
 tups:∀b xs,H b=some (.tup xs)→H' b=some (.tup xs)
 m7:∀b o u,H b=some (.lI o u)→H' b=some (.lI o u)
 oR:∀b ps,H b=some (.vj ps)→∃more,H' b=some (.vj (ps++more))
section
variable {fs fs' ex ex':List Addr} {H H1 H2:Hp} {h h1 h2 h':Heap} {a x e:Addr} {o:HO}
theorem Un.any (u:Un fs ex H H1 h h1) {b:Addr} {ob:Obj} (q:h.get? b=some ob) (n:H b=none) (hx:b ∉ ex):∃sl,h1.get? b=some {ob with slots:=sl}:=by
 by_cases hb:b∈fs
 ·exact u.slot b ob q n hb hx
 ·exact⟨ob.slots,u.keep b ob q n hb hx⟩
theorem Un.kept (k:∀b u,h.get? b=some u→h'.get? b=some u):Un fs ex H H h h':=
 ⟨fun b ob q _ _ _=>k b ob q,fun b ob q _ _ _=>⟨ob.slots,k b ob q⟩,fun _ _ _ n _=>n,fun b ob q _=>⟨ob,k b ob q⟩,fun _ _ q=>q,fun _ _ _ q=>q,fun _ ps q=>⟨#[],by rw[q];simp⟩⟩
theorem Un.refl:Un fs ex H H h h:=Un.kept fun _ _ q=>q
theorem Un.laid (k:∀b u,h.get? b=some u→h'.get? b=some u) (hp:h.objs.size≤a) (hn:H a=none):Un fs ex H (upd H a o) h h' where
 keep:=fun b u q _ _ _=>k b u q
 slot:=fun b u q _ _ _=>⟨u.slots,k b u q⟩
 free:=fun b u q n _=>by rw[br (Nat.ne_of_lt (Nat.lt_of_lt_of_le (Heap.lt_size q) hp))];exact n
 there:=fun b u q _=>⟨u,k b u q⟩
 tups:=fun b xs q=>by rw[br (aU q hn)];exact q
 m7:=fun b u xs q=>by rw[br (aU q hn)];exact q
 oR:=fun b ps q=>⟨#[],by rw[br (aU q hn),q];simp⟩
theorem Un.write (mu:BA (H x)) (he:e=x∨H e=some (.own x)) (k:∀b u,b≠e→h.get? b=some u→h'.get? b=some u) (heo:∃u,h'.get? e=some u):Un fs ex H (upd H x o) h h':=by
 have hx:∀b,H b=none→b≠x:=fun b n z=>by subst z;rw[n] at mu;exact mu
 have hb:∀b,H b=none→b≠e:=fun b n z=>by
  subst z
  rcases he with r | r
  ·exact hx b n r
  ·rw[n] at r;cases r
 have hm:∀b u,H b=some u→¬BA (some u)→b≠x:=fun b u q nm z=>by subst z;rw[q] at mu;exact nm mu
 refine⟨fun b u q n _ _=>k b u (hb b n) q,fun b u q n _ _=>⟨u.slots,k b u (hb b n) q⟩,fun b u q n _=>by rw[br (hx b n)];exact n,fun b u q _=>?_,
  fun b xs q=>by rw[br (hm b _ q fun z=>z)];exact q,fun b u xs q=>by rw[br (hm b _ q fun z=>z)];exact q,fun b ps q=>⟨#[],by rw[br (hm b _ q fun z=>z),q];simp⟩⟩
 by_cases hbe:b=e
 ·subst hbe;exact heo
 ·exact⟨u,k b u hbe q⟩
end
def EZ (h:Heap) (H:Hp):List Addr:=(List.range h.objs.size).filter fun a=>(H a).isSome
def m8 (h:Heap) (H:Hp):Heap:=PySem.W.hideAll h (EZ h H)
theorem BB (h:Heap) (H:Hp):(m8 h H).objs.size=h.objs.size:=PySem.W.hideAll_size _ _
theorem Du {h:Heap} {H:Hp} {b:Addr} {o:Obj} (e:h.get? b=some o) (n:H b=none):(m8 h H).get? b=some o:=
 PySem.W.hideAll_get _ e fun hm=>by
  have q:(H b).isSome=true:=(List.mem_filter.mp hm).2
  rw[n] at q;simp at q
theorem Gy {h:Heap} {H:Hp} {b:Addr} {o:Obj} (e:(m8 h H).get? b=some o):h.get? b=some o∧H b=none:=by
 have e':h.get? b=some o:=PySem.W.of_hideAll (EZ h H) e
 refine⟨e',?_⟩
 cases q:H b with
 | none=>rfl
 | some x=>
  have hm:b∈EZ h H:=List.mem_filter.mpr ⟨List.mem_range.mpr (Heap.lt_size e'),by simp[q]⟩
  have z:(m8 h H).get? b=none:=PySem.W.hideAll_none (EZ h H) hm
  rw[z] at e;cases e
structure Mod (K:PySem.W.Frag) (mg:Str→Option Value) (base:Heap):Prop where
 E_:K.In base
 glob:base.Ns mainGlobals mg
 blt:∃mb,base.Ns builtinsNs mb∧∀x:Str,x≠"__name__"→mb x=bootBuiltins x
 nolimit:base.NoLimit
structure Cx where
 prog:Program
 w:World
 K:PySem.W.Frag
 mg:Str→Option Value
 base:Heap
 A:Around
 N:List Str
 s₀:Shared
 H₀:Hp
 env:Env
 outer:List Env
 stack:List Env
 ex:List Addr
 fn:Str→Bool
 calm:Bool
 pn:List (Addr×Obj)
 xe:Value→Shared→Prop
def frs (l:List Env):List Addr:=l.filterMap (·.frame)
abbrev Cx.fs (X:Cx):List Addr:=frs X.outer
def BD (sc:Scope) (x:Str):Prop:=sc.names.lookup x=some .local∨sc.names.lookup x=some .cell∨sc.names.lookup x=some .free
def Loc (sc:Scope) (x:Str):Prop:=sc.names.lookup x=some .local∨sc.names.lookup x=some .cell
def Look (env:Env) (h:Heap) (m:Str→Option Value) (x:Str) (u:Value):Prop:=
 (env.kindOf x=some .local∧m x=some u)∨((env.kindOf x=some .cell∨env.kindOf x=some .free)∧∃c,env.cells.lookup x=some c∧h.IsCell c (some u))
structure Cx.Ok (X:Cx):Prop where
 mod:Mod X.K X.mg X.base
 kind:X.env.scope.kind=.function
 glob:X.env.globals=mainGlobals
 blt:X.env.builtins=builtinsNs
 above:X.s₀.heap.objs.size≤X.env.locals
 inj:∀x y c,X.env.cells.lookup x=some c→X.env.cells.lookup y=some c→x=y
 has:∀x,(X.env.kindOf x=some .cell∨X.env.kindOf x=some .free)→∃c,X.env.cells.lookup x=some c
 cab:∀x c,X.fn x=true→X.env.cells.lookup x=some c→X.s₀.heap.objs.size≤c
 hd:X.calm=true→X.A.handled=none
 frames:X.A.frames=some X.stack
 stk:X.stack=X.outer∨(X.stack=X.env::X.outer∧X.env.frame=some X.env.locals)
 E1:∀b∈X.ex,b≠X.env.locals∧∀x c,X.env.cells.lookup x=some c→c≠b
 bs:∀b o,X.base.get? b=some o→X.s₀.heap.get? b=some o∧X.H₀ b=none
 rq:X.base.objs.size≤X.s₀.heap.objs.size
 vk:∀b o,X.base.get? b=some o→b ∉ X.ex
 sJ:∀b∈X.ex,b ∉ X.fs
 jX:X.s₀.heap.FunFrames X.base X.outer
 vm:∀b∈X.fs,X.H₀ b=none
structure Inv (X:Cx) (pins:List (Addr×Obj)) (σ:List (Option V)) (H:Hp) (s:Shared):Prop where
 ok:X.Ok
 os:s.os=X.s₀.os
 bare:AllBare s.gens
 base:Un X.fs X.ex X.H₀ H X.s₀.heap s.heap
 loc:∃m,s.heap.Ns X.env.locals m∧∀(i:Nat) (x:Str) (v:V),X.N[i]? =some x→σ[i]? =some (some v)→BD X.env.scope x→∃u,RelV v u∧Look X.env s.heap m x u
 cell:∀x c,X.env.cells.lookup x=some c→∃v,s.heap.IsCell c v
 free:H X.env.locals=none
 jr:∀x c,X.env.cells.lookup x=some c→H c=none
 pin:∀p∈X.pn++pins,s.heap.get? p.1=some p.2∧H p.1=none∧p.1≠X.env.locals∧p.1 ∉ X.fs∧∀v,p.2.data≠.cell v
 hok:dZ X.prog X.w H s.heap
 len:σ.length=X.N.length
section
variable {X:Cx} {pins:List (Addr×Obj)} {σ:List (Option V)} {H H':Hp} {s:Shared} {h':Heap}
theorem Cx.Ok.MQ (ok:X.Ok) {b:Addr} {o:Obj} (e:X.base.get? b=some o):b ∉ X.fs:=fun hb=>by
 have:=(ok.jX.mem hb).1
 rw[e] at this;cases this
theorem Inv.bs (I:Inv X pins σ H s):∀b o,X.base.get? b=some o→s.heap.get? b=some o∧H b=none:=fun b o e=>
 ⟨I.base.keep b o (I.ok.bs b o e).1 (I.ok.bs b o e).2 (I.ok.MQ e) (I.ok.vk b o e),I.base.free b o (I.ok.bs b o e).1 (I.ok.bs b o e).2 (I.ok.vk b o e)⟩
theorem Inv.bk (I:Inv X pins σ H s):∀b o,X.base.get? b=some o→s.heap.get? b=some o:=fun b o e=>(I.bs b o e).1
theorem Inv.mod (I:Inv X pins σ H s):Mod X.K X.mg X.base:=I.ok.mod
theorem Inv.fJ (I:Inv X pins σ H s):X.K.In s.heap:=I.ok.mod.E_.keeps I.bk
theorem Inv.lt (I:Inv X pins σ H s):X.env.locals<s.heap.objs.size:=let ⟨_,hn,_⟩:=I.loc;hn.lt
theorem Inv.sz (I:Inv X pins σ H s):X.s₀.heap.objs.size≤s.heap.objs.size:=Nat.le_trans I.ok.above (Nat.le_of_lt I.lt)
theorem Inv.MR (I:Inv X pins σ H s) {a:Addr} (h:s.heap.objs.size≤a):a ∉ X.fs:=fun hb=>by
 obtain⟨_,o,ho,_⟩:=I.ok.jX.mem hb
 exact absurd (Nat.lt_of_lt_of_le (Heap.lt_size ho) (Nat.le_trans I.sz h)) (Nat.lt_irrefl _)
theorem Inv.vn (I:Inv X pins σ H s):∀x c,X.env.cells.lookup x=some c→c≠X.env.locals:=fun x c e z=>by
 obtain⟨v,o,ho,hd⟩:=I.cell x c e
 obtain⟨m,⟨o',es,ep,ho',hd',_⟩,_⟩:=I.loc
 rw[z,ho'] at ho;cases ho;rw[hd'] at hd;cases hd
theorem Inv.jX (I:Inv X pins σ H s):s.heap.FunFrames X.base X.outer:=by
 have all:∀(l:List Env),(∀b∈frs l,b∈X.fs)→X.s₀.heap.FunFrames X.base l→s.heap.FunFrames X.base l:=by
  intro l
  induction l with
  | nil=>intro _ _;trivial
  | cons env r ih=>
   intro hs hl
   obtain⟨hk,⟨L,o,hf,hn,ho,hd⟩,hr⟩:=hl
   have hL:L∈X.fs:=hs L (by unfold frs;rw[List.filterMap_cons,hf];exact List.mem_cons_self)
   obtain⟨sl,e⟩:=I.base.slot L o ho (I.ok.vm L hL) hL fun z=>I.ok.sJ L z hL
   exact⟨hk,⟨L,_,hf,hn,e,hd⟩,ih (fun b hb=>hs b (by unfold frs;rw[List.filterMap_cons,hf];exact List.mem_cons_of_mem _ hb)) hr⟩
 exact all X.outer (fun _ hb=>hb) I.ok.jX
theorem Inv.stack (I:Inv X pins σ H s):s.heap.FunFrames X.base X.stack:=by
 rcases I.ok.stk with e | ⟨e,hf⟩
 ·rw[e];exact I.jX
 ·rw[e]
  obtain⟨m,hn,_⟩:=I.loc
  refine .cons (by rw[I.ok.kind];decide) hf hn ?_ I.jX
  exact Heap.get?_none_of_le (Nat.le_trans I.ok.rq I.ok.above)
theorem Inv.mE (I:Inv X pins σ H s):∀b∈frs X.stack,b∈X.env.locals::X.fs:=fun b hb=>by
 rcases I.ok.stk with e | ⟨e,hf⟩
 ·rw[e] at hb;exact List.mem_cons_of_mem _ hb
 ·rw[e] at hb
  unfold frs at hb
  rw[List.filterMap_cons,hf] at hb
  exact hb
theorem Inv.p8 (I:Inv X pins σ H s):∀b∈frs X.stack,H b=none:=fun b hb=>by
 rcases List.mem_cons.mp (I.mE b hb) with e | hb
 ·rw[e];exact I.free
 ·obtain⟨_,o,ho,_⟩:=I.ok.jX.mem hb
  exact I.base.free b o ho (I.ok.vm b hb) fun z=>I.ok.sJ b z hb
theorem Inv.step {g':Array GenState} {t':Nat} {d':Drawn} {ch:List Addr} (I:Inv X pins σ H s)
  (hch:∀b∈ch,(b∈X.ex∨X.s₀.heap.objs.size≤b)∧b≠X.env.locals∧(∀x c,X.env.cells.lookup x=some c→c≠b)∧∀p∈X.pn++pins,p.1≠b)
  (keep:∀b o,b≠X.env.locals→b ∉ X.fs→b ∉ ch→s.heap.get? b=some o→H b=none→h'.get? b=some o)
  (slot:∀b o,b≠X.env.locals→b∈X.fs→b ∉ ch→s.heap.get? b=some o→H b=none→∃sl,h'.get? b=some {o with slots:=sl}) (free:∀b o,b ∉ ch→s.heap.get? b=some o→H b=none→H' b=none)
  (there:∀b o,b ∉ ch→s.heap.get? b=some o→∃o',h'.get? b=some o')
  (tups:∀b xs,H b=some (.tup xs)→H' b=some (.tup xs)) (m7:∀b o u,H b=some (.lI o u)→H' b=some (.lI o u)) (oR:∀b ps,H b=some (.vj ps)→∃more,H' b=some (.vj (ps++more)))
  (ns:∀m,s.heap.Ns X.env.locals m→h'.Ns X.env.locals m) (hok:dZ X.prog X.w H' h') (hg:AllBare g'):
  Inv X pins σ H' {s with heap:=h',gens:=g',drawn:=d',toks:=t'}:=by
 have Lw:∀b o,X.s₀.heap.get? b=some o→b≠X.env.locals:=fun b o e=>Nat.ne_of_lt (Nat.lt_of_lt_of_le (Heap.lt_size e) I.ok.above)
 have E2:∀b o,X.s₀.heap.get? b=some o→b ∉ X.ex→b ∉ ch:=fun b o e hx hb=>by
  rcases(hch b hb).1 with z | z
  ·exact hx z
  ·exact absurd (Nat.lt_of_lt_of_le (Heap.lt_size e) z) (Nat.lt_irrefl _)
 have cellK:∀x c,X.env.cells.lookup x=some c→∀v,s.heap.IsCell c v→h'.IsCell c v:=fun x c e v ⟨o,ho,hd⟩=>by
  have tR:c ∉ ch:=fun z=>(hch c z).2.2.1 x c e rfl
  by_cases hc:c∈X.fs
  ·obtain⟨sl,q⟩:=slot c o (I.vn x c e) hc tR ho (I.jr x c e)
   exact⟨_,q,hd⟩
  ·exact⟨o,keep c o (I.vn x c e) hc tR ho (I.jr x c e),hd⟩
 refine⟨I.ok,I.os,hg,⟨fun b o e n hb hx=>?_,fun b o e n hb hx=>?_,fun b o e n hx=>?_,fun b o e hx=>?_,fun b xs e=>tups b xs (I.base.tups b xs e),fun b o xs e=>m7 b o xs (I.base.m7 b o xs e),fun b ps e=>?_⟩,?_,fun x c e=>?_,?_,fun x c e=>?_,fun p hp=>?_,hok,I.len⟩
 ·exact keep b o (Lw b o e) hb (E2 b o e hx) (I.base.keep b o e n hb hx) (I.base.free b o e n hx)
 ·obtain⟨sl,e1⟩:=I.base.slot b o e n hb hx
  obtain⟨sl',e2⟩:=slot b _ (Lw b o e) hb (E2 b o e hx) e1 (I.base.free b o e n hx)
  exact⟨sl',e2⟩
 ·obtain⟨o',e1⟩:=I.base.there b o e hx
  exact free b o' (E2 b o e hx) e1 (I.base.free b o e n hx)
 ·obtain⟨o',e1⟩:=I.base.there b o e hx
  exact there b o' (E2 b o e hx) e1
 ·obtain⟨m1,e1⟩:=I.base.oR b ps e
  obtain⟨m2,e2⟩:=oR b _ e1
  exact⟨m1++m2,by rw[e2,Array.append_assoc]⟩
 ·obtain⟨m,hn,hl⟩:=I.loc
  refine⟨m,ns m hn,fun i x v e1 e2 e3=>?_⟩
  obtain⟨u,r,l⟩:=hl i x v e1 e2 e3
  refine⟨u,r,?_⟩
  rcases l with l | ⟨k,c,e,z⟩
  ·exact .inl l
  ·exact .inr ⟨k,c,e,cellK x c e _ z⟩
 ·obtain⟨v,z⟩:=I.cell x c e
  exact⟨v,cellK x c e v z⟩
 ·obtain⟨m,⟨o,_,_,ho,_⟩,_⟩:=I.loc
  exact free _ o (fun z=>(hch _ z).2.1 rfl) ho I.free
 ·obtain⟨v,o,ho,hd⟩:=I.cell x c e
  exact free c o (fun z=>(hch c z).2.2.1 x c e rfl) ho (I.jr x c e)
 ·obtain⟨e,n,ne,nf,d⟩:=I.pin p hp
  have tR:p.1 ∉ ch:=fun z=>(hch p.1 z).2.2.2 p hp rfl
  exact⟨keep p.1 p.2 ne nf tR e n,free p.1 p.2 tR e n,ne,nf,d⟩
theorem Inv.un {t':Nat} (I:Inv X pins σ H s) (u:Un X.fs [] H H' s.heap h') (hok:dZ X.prog X.w H' h'):Inv X pins σ H' {s with heap:=h',toks:=t'}:=by
 obtain⟨m,⟨o,es,ep,ho,r⟩,_⟩:=id I.loc
 obtain⟨sl,hL⟩:=u.any ho I.free (by simp)
 exact I.step (g':=s.gens) (d':=s.drawn) (ch:=[]) (fun _ z=>nomatch z) (fun b o _ hb _ e n=>u.keep b o e n hb (by simp)) (fun b o _ hb _ e n=>u.slot b o e n hb (by simp)) (fun b o _ e n=>u.free b o e n (by simp)) (fun b o _ e=>u.there b o e (by simp)) u.tups u.m7 u.oR (fun m' hm=>by
  obtain⟨o',es',ep',ho',r'⟩:=hm
  rw[ho] at ho';cases ho'
  exact⟨_,es',ep',hL,r'⟩) hok I.bare
theorem Inv.call {g':Array GenState} {t':Nat} {d':Drawn} {ch:List Addr} (I:Inv X pins σ H s) (u:Un (frs X.stack) ch H H' s.heap h') (hok:dZ X.prog X.w H' h') (hg:AllBare g')
  (hch:∀b∈ch,(b∈X.ex∨X.s₀.heap.objs.size≤b)∧b≠X.env.locals∧(∀x c,X.env.cells.lookup x=some c→c≠b)∧∀p∈X.pn++pins,p.1≠b):
  Inv X pins σ H' {s with heap:=h',gens:=g',drawn:=d',toks:=t'}:=by
 obtain⟨m,⟨o,es,ep,ho,r⟩,_⟩:=id I.loc
 obtain⟨sl,hL⟩:=u.any ho I.free fun z=>(hch _ z).2.1 rfl
 exact I.step (ch:=ch) hch (fun b o hL hb hc e n=>u.keep b o e n (fun z=>(List.mem_cons.mp (I.mE b z)).elim hL hb) hc) (fun b o _ _ hc e n=>u.any e n hc) (fun b o hc e n=>u.free b o e n hc) (fun b o hc e=>u.there b o e hc) u.tups u.m7 u.oR (fun m' hm=>by
  obtain⟨o',es',ep',ho',r'⟩:=hm
  rw[ho] at ho';cases ho'
  exact⟨_,es',ep',hL,r'⟩) hok hg
theorem Inv.turned {t':Nat} {it:Addr} (I:Inv X pins σ H s) (k:∀b o,b≠it→s.heap.get? b=some o→h'.get? b=some o) (hn:H it=none) (hL:it≠X.env.locals)
  (h1:it∈X.ex∨X.s₀.heap.objs.size≤it) (h2:∀x c,X.env.cells.lookup x=some c→c≠it) (h3:∀p∈X.pn++pins,p.1≠it):Inv X pins σ H {s with heap:=h',toks:=t'}:=by
 have Lx:∀b u,H b=some u→b≠it:=fun b u e z=>by rw[z,hn] at e;cases e
 refine I.step (g':=s.gens) (d':=s.drawn) (ch:=[it]) (fun b hb=>?_) (fun b o _ _ hc e _=>k b o (fun z=>hc (by simp[z])) e) (fun b o _ _ hc e _=>⟨o.slots,k b o (fun z=>hc (by simp[z])) e⟩) (fun _ _ _ _ n=>n)
  (fun b o hc e=>⟨o,k b o (fun z=>hc (by simp[z])) e⟩) (fun _ _ e=>e) (fun _ _ _ e=>e) (fun b ps e=>⟨#[],by rw[e];simp⟩) (fun m hm=>?_) (fun b u e=>?_) I.bare
 ·have e:b=it:=by simpa using hb
  subst e
  exact⟨h1,hL,h2,h3⟩
 ·obtain⟨o,es,ep,ho,r⟩:=hm
  exact⟨o,es,ep,k _ o (Ne.symm hL) ho,r⟩
 ·refine(I.hok b u e).stay (fun c v hc q=>k c v ?_ q) (fun _ q=>q) fun _ _ q=>q
  rcases hc with z | z
  ·rw[z];exact Lx b u e
  ·exact Lx c _ z
theorem Inv.tok (I:Inv X pins σ H s) (t:Nat):Inv X pins σ H {s with toks:=t}:=I.un (h':=s.heap) (t':=t) Un.refl I.hok
theorem Inv.kept {t':Nat} (I:Inv X pins σ H s) (k:∀b u,s.heap.get? b=some u→h'.get? b=some u):Inv X pins σ H {s with heap:=h',toks:=t'}:=I.un (Un.kept k) (I.hok.kept k)
theorem Inv.laid {a:Addr} {o:HO} {t':Nat} (I:Inv X pins σ H s) (k:∀b u,s.heap.get? b=some u→h'.get? b=some u) (hp:s.heap.objs.size≤a) (new:b_ X.prog X.w (upd H a o) h' a o):
  Inv X pins σ (upd H a o) {s with heap:=h',toks:=t'}:=I.un (Un.laid k hp (I.hok.fresh hp)) (I.hok.laid k hp new)
theorem Inv.write {x e:Addr} {o:HO} {t':Nat} (I:Inv X pins σ H s) (mu:BA (H x)) (he:e=x∨H e=some (.own x)) (k:∀b u,b≠e→s.heap.get? b=some u→h'.get? b=some u) (heo:∃u,h'.get? e=some u)
  (new:b_ X.prog X.w (upd H x o) h' x o):Inv X pins σ (upd H x o) {s with heap:=h',toks:=t'}:=I.un (Un.write mu he k heo) (I.hok.write mu he k heo new)
theorem Inv.yV {zY:List (Addr×Obj)} (I:Inv X pins σ H s) (h:∀p∈zY,s.heap.get? p.1=some p.2∧H p.1=none∧p.1≠X.env.locals∧p.1 ∉ X.fs∧∀v,p.2.data≠.cell v):Inv X zY σ H s:=
 ⟨I.ok,I.os,I.bare,I.base,I.loc,I.cell,I.free,I.jr,fun p hp=>(List.mem_append.mp hp).elim (fun z=>I.pin p (List.mem_append_left _ z)) (h p),I.hok,I.len⟩
theorem vo {N:List Str} (hN:N.Nodup) {i j:Nat} {x:Str} (a:N[i]? =some x) (b:N[j]? =some x):i=j:=by
 obtain⟨h1,e1⟩:=List.getElem?_eq_some_iff.mp a
 obtain⟨h2,e2⟩:=List.getElem?_eq_some_iff.mp b
 exact(List.getElem_inj hN).mp (e1.trans e2.symm)
theorem oS {M:Model} {A:Around} {E:Value→Shared→Prop} {i:Nat} {x:Str} {v:V} {u:Value} {Q:Unit→Shared→Prop} (I:Inv X pins σ H s) (hN:X.N.Nodup) (hi:X.N[i]? =some x) (hx:Loc X.env.scope x) (r:RelV v u)
  (h:∀s',Inv X pins (σ.set i (some v)) H s'→(∃a,Heap.SameBut a s.heap s'.heap∧(a=X.env.locals∨X.env.cells.lookup x=some a))→Q () s') (hf:X.fn x=true∨X.env.scope.names.lookup x=some .local:=by first | exact .inl rfl | exact .inr rfl | assumption):wpAny M A (storeName X.env x u) Q E s:=by
 obtain⟨m,hn,hl⟩:=id I.loc
 have hcls:(X.env.scope.kind == .class||(X.env.scope.kind == .module&&X.env.locals != X.env.globals))=false:=by rw[I.ok.kind];rfl
 have Ly:i<σ.length:=by rw[I.len];exact(List.getElem?_eq_some_iff.mp hi).1
 have vn:=I.vn
 have tracked:∀{a:Addr} {h':Heap},(∃o,s.heap.get? a=some o∧H a=none)→Heap.SameBut a s.heap h'→dZ X.prog X.w H h':=fun {a h'} ha hs b ob e=>by
  obtain⟨_,_,hfree⟩:=ha
  refine(I.hok b ob e).stay (fun c w' hc q=>(hs.2 c ?_).trans q) (fun _ q=>q) fun _ _ q=>q
  rintro rfl
  rcases hc with rfl | hc
  ·rw[hfree] at e;cases e
  ·rw[hfree] at hc;cases hc
 rcases hx with hk | hk
 ·refine wpAny_storeName_local hk hn (fun h' hn' hs=>?_) hcls
  obtain⟨oL,_,_,hoL,_⟩:=id hn
  refine h _ ⟨I.ok,I.os,I.bare,⟨fun b o e n hb hx=>?_,fun b o e n hb hx=>?_,I.base.free,fun b o e hx=>?_,I.base.tups,I.base.m7,I.base.oR⟩,⟨_,hn',fun j y v' e1 e2 e3=>?_⟩,fun y c e=>?_,I.free,I.jr,fun p hp=>?_,tracked ⟨oL,hoL,I.free⟩ hs,by simpa using I.len⟩ ⟨_,hs,.inl rfl⟩
  ·exact(hs.2 b (Nat.ne_of_lt (Nat.lt_of_lt_of_le (Heap.lt_size e) I.ok.above))).trans (I.base.keep b o e n hb hx)
  ·obtain⟨sl,e1⟩:=I.base.slot b o e n hb hx
   exact⟨sl,(hs.2 b (Nat.ne_of_lt (Nat.lt_of_lt_of_le (Heap.lt_size e) I.ok.above))).trans e1⟩
  ·obtain⟨o',e1⟩:=I.base.there b o e hx
   exact⟨o',(hs.2 b (Nat.ne_of_lt (Nat.lt_of_lt_of_le (Heap.lt_size e) I.ok.above))).trans e1⟩
  ·by_cases hj:j=i
   ·subst hj
    rw[hi] at e1;cases e1
    rw[List.getElem?_set_self Ly] at e2
    cases e2
    exact⟨u,r,.inl ⟨hk,by simp⟩⟩
   ·rw[List.getElem?_set_ne (Ne.symm hj)] at e2
    obtain⟨u',r',q⟩:=hl j y v' e1 e2 e3
    refine⟨u',r',?_⟩
    rcases q with⟨k,e⟩ | ⟨k,c,e,z⟩
    ·refine .inl ⟨k,?_⟩
     have:y≠x:=fun e=>hj (vo hN e1 (e▸hi))
     simp[this,e]
    ·exact .inr ⟨k,c,e,z.sameBut hs (vn y c e)⟩
  ·obtain⟨w',z⟩:=I.cell y c e
   exact⟨w',z.sameBut hs (vn y c e)⟩
  ·obtain⟨e,n,ne,nf,d⟩:=I.pin p hp
   exact⟨(hs.2 p.1 ne).trans e,n,ne,nf,d⟩
 ·have hfn:X.fn x=true:=by
   rcases hf with z | z
   ·exact z
   ·rw[z] at hk;cases hk
  obtain⟨c,hc⟩:=I.ok.has x (.inl hk)
  obtain⟨w',z⟩:=I.cell x c hc
  refine wpAny_storeName_cell I.ok.kind hk hc z (fun h' hc' hs=>?_)
  obtain⟨oc,hoc,MS⟩:=id z
  refine h {s with heap:=h'} ⟨I.ok,I.os,I.bare,⟨fun b o e n hb hx=>?_,fun b o e n hb hx=>?_,I.base.free,fun b o e hx=>?_,I.base.tups,I.base.m7,I.base.oR⟩,⟨m,hn.sameBut hs (Ne.symm (vn x c hc)),fun j y v' e1 e2 e3=>?_⟩,fun y c' e=>?_,I.free,I.jr,fun p hp=>?_,tracked ⟨oc,hoc,I.jr x c hc⟩ hs,by simpa using I.len⟩ ⟨c,hs,.inr hc⟩
  ·exact(hs.2 b (Nat.ne_of_lt (Nat.lt_of_lt_of_le (Heap.lt_size e) (I.ok.cab x c hfn hc)))).trans (I.base.keep b o e n hb hx)
  ·obtain⟨sl,e1⟩:=I.base.slot b o e n hb hx
   exact⟨sl,(hs.2 b (Nat.ne_of_lt (Nat.lt_of_lt_of_le (Heap.lt_size e) (I.ok.cab x c hfn hc)))).trans e1⟩
  ·obtain⟨o',e1⟩:=I.base.there b o e hx
   exact⟨o',(hs.2 b (Nat.ne_of_lt (Nat.lt_of_lt_of_le (Heap.lt_size e) (I.ok.cab x c hfn hc)))).trans e1⟩
  ·by_cases hj:j=i
   ·subst hj
    rw[hi] at e1;cases e1
    rw[List.getElem?_set_self Ly] at e2
    cases e2
    exact⟨u,r,.inr ⟨.inl hk,c,hc,hc'⟩⟩
   ·rw[List.getElem?_set_ne (Ne.symm hj)] at e2
    obtain⟨u',r',q⟩:=hl j y v' e1 e2 e3
    refine⟨u',r',?_⟩
    rcases q with q | ⟨k,c',e,z'⟩
    ·exact .inl q
    ·refine .inr ⟨k,c',e,z'.sameBut hs ?_⟩
     rintro rfl
     exact hj (vo hN e1 (I.ok.inj _ _ _ e hc▸hi))
  ·by_cases hcc:c'=c
   ·subst hcc;exact⟨_,hc'⟩
   ·obtain⟨w2,z2⟩:=I.cell y c' e
    exact⟨w2,z2.sameBut hs hcc⟩
  ·obtain⟨e,n,ne,nf,d⟩:=I.pin p hp
   refine⟨(hs.2 p.1 ?_).trans e,n,ne,nf,d⟩
   intro q
   rw[q,hoc] at e
   have q':oc=p.2:=Option.some.inj e
   exact d w' (by rw[←q'];exact MS)
theorem vp {M:Model} {A:Around} {E:Value→Shared→Prop} {i:Nat} {x:Str} {v:V} {u:Value} {Q:Unit→Shared→Prop} (I:Inv X pins σ H s) (hN:X.N.Nodup) (hi:X.N[i]? =some x) (hx:Loc X.env.scope x) (r:RelV v u)
  (h:∀s',Inv X pins (σ.set i (some v)) H s'→Q () s') (hf:X.fn x=true∨X.env.scope.names.lookup x=some .local:=by first | exact .inl rfl | exact .inr rfl | assumption):wpAny M A (storeName X.env x u) Q E s:=
 oS I hN hi hx r (fun s' I' _=>h s' I') hf
theorem Inv.call' {s':Shared} {ch:List Addr} (I:Inv X pins σ H s) (ho:s'.os=s.os) (u:Un (frs X.stack) ch H H' s.heap s'.heap) (hok:dZ X.prog X.w H' s'.heap) (hg:AllBare s'.gens)
  (hch:∀b∈ch,(b∈X.ex∨X.s₀.heap.objs.size≤b)∧b≠X.env.locals∧(∀x c,X.env.cells.lookup x=some c→c≠b)∧∀p∈X.pn++pins,p.1≠b):Inv X pins σ H' s':=by
 obtain⟨h',g',d',t',o'⟩:=s'
 have e:o'=s.os:=ho
 subst e
 exact I.call (g':=g') (t':=t') (d':=d') u hok hg hch
end
abbrev XK:=Value→Option Addr→Hp→Prop
abbrev St:=List (Option V)
abbrev VK:=V→Hp→Prop
abbrev TE:=St→Hp→VK→Prop
abbrev TT:=St→Hp→(Bool→Hp→Prop)→Prop
abbrev TA:=St→Hp→(List V→Hp→Prop)→Prop
structure Ends where
 nx:St→Hp→Prop
 rt:VK
 bk:St→Hp→Prop:=fun _ _=>False
 ct:St→Hp→Prop:=fun _ _=>False
abbrev TS:=Ends→St→Hp→Prop
def EP (X:Cx) (pins:List (Addr×Obj)) (σ:St) (Q:VK) (u:Value) (s':Shared):Prop:=∃v H',Inv X pins σ H' s'∧RelV v u∧Q v H'
def TP (X:Cx) (pins:List (Addr×Obj)) (σ:St) (Q:Bool→Hp→Prop) (b:Bool) (s':Shared):Prop:=∃H',Inv X pins σ H' s'∧Q b H'
def AP (X:Cx) (pins:List (Addr×Obj)) (σ:St) (Q:List V→Hp→Prop) (us:List Value) (s':Shared):Prop:=∃vs H',Inv X pins σ H' s'∧Vals vs us∧Q vs H'
def SP (X:Cx) (pins:List (Addr×Obj)) (D:Ends) (f:Flow) (s':Shared):Prop:=
 match f with
 | .next=>∃σ' H',Inv X pins σ' H' s'∧D.nx σ' H'
 | .brk=>∃σ' H',Inv X pins σ' H' s'∧D.bk σ' H'
 | .cont=>∃σ' H',Inv X pins σ' H' s'∧D.ct σ' H'
 | .ret u=>∃v σ' H',Inv X pins σ' H' s'∧RelV v u∧D.rt v H'
def PE (X:Cx) (e:Expr) (t:TE):Prop:=
 ∀(pins:List (Addr×Obj)) (s:Shared) (σ:St) (H:Hp) (Q:VK),Inv X pins σ H s→t σ H Q→wpAny (model X.prog X.w) X.A (eval e X.env) (EP X pins σ Q) X.xe s
def PT (X:Cx) (e:Expr) (t:TT):Prop:=
 ∀(pins:List (Addr×Obj)) (s:Shared) (σ:St) (H:Hp) (Q:Bool→Hp→Prop),Inv X pins σ H s→t σ H Q→wpAny (model X.prog X.w) X.A (isTrue e X.env (eval e X.env)) (TP X pins σ Q) X.xe s
def PW (X:Cx) (e:Expr) (t:TT):Prop:=
 ∀(whole:Sem Value) (pins:List (Addr×Obj)) (s:Shared) (σ:St) (H:Hp) (Q:Bool→Hp→Prop),Inv X pins σ H s→t σ H Q→wpAny (model X.prog X.w) X.A (isTrue e X.env whole) (TP X pins σ Q) X.xe s
theorem PW.pt {X:Cx} {e:Expr} {t:TT} (h:PW X e t):PT X e t:=h _
def PA (X:Cx) (es:List Expr) (t:TA):Prop:=
 ∀(pos:Pos) (pins:List (Addr×Obj)) (s:Shared) (σ:St) (H:Hp) (Q:List V→Hp→Prop),Inv X pins σ H s→t σ H Q→wpAny (model X.prog X.w) X.A (spliced (backTo pos (starEach es X.env))) (AP X pins σ Q) X.xe s
def PS (X:Cx) (st:Stmt) (t:TS):Prop:=
 ∀(pins:List (Addr×Obj)) (s:Shared) (σ:St) (H:Hp) (D:Ends),Inv X pins σ H s→t D σ H→wpAny (model X.prog X.w) X.A (exec st X.env) (SP X pins D) X.xe s
def lJ (X:Cx) (st:List Stmt) (t:TS):Prop:=
 ∀(pins:List (Addr×Obj)) (s:Shared) (σ:St) (H:Hp) (D:Ends),Inv X pins σ H s→t D σ H→wpAny (model X.prog X.w) X.A (execs st X.env) (SP X pins D) X.xe s
theorem aV {α:Type} {t:Sem α} {Q Q':α→Shared→Prop} {M:Model} {A:Around} {E:Value→Shared→Prop} {s:Shared} (h:wpAny M A t Q E s) (hQ:∀a s,Q a s→Q' a s):wpAny M A t Q' E s:=wpAny_mono h hQ fun _ _ x=>x
section
variable {X:Cx}
def mw (i:Nat):TE:=fun σ H Q=>∃v,σ[i]? =some (some v)∧Q v H
def tC (v:V):TE:=fun _ H Q=>Q v H
theorem Hi {i:Nat} {x:Str} {pos:Pos} (hN:X.N[i]? =some x) (hv:BD X.env.scope x) (hd:(x == ("__debug__":Str))=false:=by decide) (hcd:(x == ("__classdict__":Str))=false:=by decide):PE X (.Name x pos) (mw i):=by
 intro pins s σ H Q I h
 obtain⟨v,e,h⟩:=h
 obtain⟨m,hn,hl⟩:=I.loc
 obtain⟨u,r,l⟩:=hl i x v hN e hv
 have fin:EP X pins σ Q u s:=⟨v,H,I,r,h⟩
 rcases l with⟨hk,hm⟩ | ⟨hk,c,hc,hcell⟩
 ·exact wpAny_Name (wpAny_loadName_local I.ok.kind hk hn hm fin) hd
 ·rcases hk with hk | hk
  ·exact wpAny_Name (wpAny_loadName_cell I.ok.kind hk hc hcell fin) hd
  ·exact wpAny_Name (wpAny_loadName_free I.ok.kind hk hc hcell fin hcd) hd
theorem ah {i j pos}:PE X (.Constant (.int i) j pos) (tC (.int i)):=fun _ _ _ H _ I h=>wpAny_Constant_int ⟨.int i,H,I.tok _,⟨_,rfl⟩,h⟩
theorem m9 {b j pos}:PE X (.Constant (.bool b) j pos) (tC (.bl b)):=fun _ _ _ H _ I h=>Constant_bool ⟨.bl b,H,I,rfl,h⟩
theorem oU {j pos}:PE X (.Constant .none j pos) (tC .non):=fun _ _ _ H _ I h=>Constant_none ⟨.non,H,I,rfl,h⟩
theorem ay {x j pos}:PE X (.Constant (.str x) j pos) (tC (.str x)):=fun _ _ _ H _ I h=>Calls.Constant_str ⟨.str x,H,I.tok _,⟨_,rfl⟩,h⟩
def Gl (X:Cx) (x:Str):Prop:=X.env.kindOf x=some .globalImplicit
theorem mF {E:Value→Shared→Prop} {pins:List (Addr×Obj)} {s:Shared} {σ:St} {H:Hp} {x:Str} {u:Value} {pos:Pos} {Q:Value→Shared→Prop} (I:Inv X pins σ H s) (hg:Gl X x) (hm:X.mg x=some u) (h:Q u s)
  (hd:(x == ("__debug__":Str))=false:=by decide):wpAny (model X.prog X.w) X.A (eval (.Name x pos) X.env) Q E s:=
 Calls.Name_function_global I.ok.kind hg (Calls.loadGlobal_global (by rw[I.ok.glob];exact I.mod.glob.keeps I.bk) hm h) hd
theorem jK {E:Value→Shared→Prop} {pins:List (Addr×Obj)} {s:Shared} {σ:St} {H:Hp} {x:Str} {u:Value} {pos:Pos} {Q:Value→Shared→Prop} (I:Inv X pins σ H s) (hg:Gl X x) (hm:X.mg x=none) (hv:bootBuiltins x=some u) (h:Q u s)
  (hn:x≠"__name__":=by decide) (hd:(x == ("__debug__":Str))=false:=by decide):wpAny (model X.prog X.w) X.A (eval (.Name x pos) X.env) Q E s:=by
 obtain⟨mb,h1,h2⟩:=I.mod.blt
 exact Calls.Name_function_global I.ok.kind hg (Calls.loadGlobal_builtin (by rw[I.ok.glob];exact I.mod.glob.keeps I.bk) hm (by rw[I.ok.blt];exact h1.keeps I.bk) ((h2 x hn).trans hv) h) hd
theorem fz {x:Str} {v:V} {u:Value} {pos:Pos} (hg:Gl X x) (hm:X.mg x=some u) (r:RelV v u) (hd:(x == ("__debug__":Str))=false:=by decide):PE X (.Name x pos) (tC v):=
 fun _ _ _ H _ I h=>mF I hg hm ⟨v,H,I,r,h⟩ hd
theorem Gz {x:Str} {v:V} {u:Value} {pos:Pos} (hg:Gl X x) (hm:X.mg x=none) (hv:bootBuiltins x=some u) (r:RelV v u) (hn:x≠"__name__":=by decide) (hd:(x == ("__debug__":Str))=false:=by decide):PE X (.Name x pos) (tC v):=
 fun _ _ _ H _ I h=>jK I hg hm hv ⟨v,H,I,r,h⟩ hn hd
variable {a b:Expr} {ta tb:TE} {pos:Pos}
variable {tA E3:TT} {rest:List Expr}
def MT (t u:TT):TT:=fun σ H Q=>t σ H fun c H1=>if c=true then u σ H1 Q else Q false H1
def Hj (t u:TT):TT:=fun σ H Q=>t σ H fun c H1=>if c=true then Q true H1 else u σ H1 Q
def MU (t:TT):TT:=fun σ H Q=>t σ H fun c H1=>Q (!c) H1
theorem mG (ha:PT X a tA):PW X (.BoolOp .And [a] pos) tA:=by
 intro wh pins s σ H Q I h
 refine isTrue_and (aV (ha pins s σ H Q I h) fun c s1 e=>?_)
 cases c with
 | true=>exact isTrue_and_nil e
 | false=>exact e
theorem gE (ha:PT X a tA):PW X (.BoolOp .Or [a] pos) tA:=by
 intro wh pins s σ H Q I h
 refine isTrue_or (aV (ha pins s σ H Q I h) fun c s1 e=>?_)
 cases c with
 | false=>exact isTrue_or_nil e
 | true=>exact e
theorem kr (ha:PT X a tA) (hb:PW X (.BoolOp .And (b::rest) pos) E3):PW X (.BoolOp .And (a::b::rest) pos) (MT tA E3):=by
 intro wh pins s σ H Q I h
 refine isTrue_and (aV (ha pins s σ H _ I h) fun c s1 ⟨H1,I1,q1⟩=>?_)
 cases c with
 | true=>exact hb wh pins s1 σ H1 Q I1 q1
 | false=>exact⟨H1,I1,q1⟩
theorem gC (ha:PT X a tA) (hb:PW X (.BoolOp .Or (b::rest) pos) E3):PW X (.BoolOp .Or (a::b::rest) pos) (Hj tA E3):=by
 intro wh pins s σ H Q I h
 refine isTrue_or (aV (ha pins s σ H _ I h) fun c s1 ⟨H1,I1,q1⟩=>?_)
 cases c with
 | true=>exact⟨H1,I1,q1⟩
 | false=>exact hb wh pins s1 σ H1 Q I1 q1
theorem ku (ha:PT X a tA):PT X (.UnaryOp .Not a pos) (MU tA):=by
 intro pins s σ H Q I h
 exact isTrue_not (ha pins s σ H (fun c H1=>Q (!c) H1) I h)
def KA (ta tb:TE):TE:=fun σ H Q=>ta σ H fun x H1=>∃c,x=.bl c∧if c=true then tb σ H1 Q else Q (.bl false) H1
def MV (ta tb:TE):TE:=fun σ H Q=>ta σ H fun x H1=>∃c,x=.bl c∧if c=true then Q (.bl true) H1 else tb σ H1 Q
theorem vq {op} {t:TE} (h:PE X a t):PE X (.BoolOp op [a] pos) t:=fun pins s σ H Q I hw=>BoolOp_one (h pins s σ H Q I hw)
theorem vt (ha:PE X a ta) (hb:PE X (.BoolOp .And (b::rest) pos) tb):PE X (.BoolOp .And (a::b::rest) pos) (KA ta tb):=by
 intro pins s σ H Q I h
 refine BoolOp_and (aV (ha pins s σ H _ I h) fun v s1 ⟨x,H1,I1,r1,q1⟩=>?_)
 obtain⟨c,rfl,q1⟩:=q1
 cases r1
 refine wpAny_truthy_bool ?_
 cases c with
 | true=>exact hb pins s1 σ H1 Q I1 q1
 | false=>exact⟨.bl false,H1,I1,rfl,q1⟩
theorem KC (ha:PE X a ta) (hb:PE X (.BoolOp .Or (b::rest) pos) tb):PE X (.BoolOp .Or (a::b::rest) pos) (MV ta tb):=by
 intro pins s σ H Q I h
 refine BoolOp_or (aV (ha pins s σ H _ I h) fun v s1 ⟨x,H1,I1,r1,q1⟩=>?_)
 obtain⟨c,rfl,q1⟩:=q1
 cases r1
 refine wpAny_truthy_bool ?_
 cases c with
 | false=>exact hb pins s1 σ H1 Q I1 q1
 | true=>exact⟨.bl true,H1,I1,rfl,q1⟩
def RE (t:TT) (ta tb:TE):TE:=fun σ H Q=>t σ H fun c H1=>if c=true then ta σ H1 Q else tb σ H1 Q
theorem ng {c:Expr} (hc:PT X c tA) (ha:PE X a ta) (hb:PE X b tb):PE X (.IfExp c a b pos) (RE tA ta tb):=by
 intro pins s σ H Q I h
 refine wpAny_IfExp (aV (hc pins s σ H _ I h) fun d s1 ⟨H1,I1,q1⟩=>?_)
 cases d with
 | true=>exact ha pins s1 σ H1 Q I1 q1
 | false=>exact hb pins s1 σ H1 Q I1 q1
end
def bW (K:PySem.W.Frag) (H:Hp) (a:Addr) (xs:List V):Prop:=
 Rd H a (.lst xs)∨
  ∃(o:Obj) (its:Array Value) (n:Nat),K.lookup a=some o∧o.cls=.type "list"∧o.dict=none∧o.data=.seq its n∧its.size≤sizeLine∧Vals xs its.toList
def bY (K:PySem.W.Frag) (H:Hp) (a:Addr) (xs:List V):Prop:=
 Rd H a (.tup xs)∨
  ∃(o:Obj) (its:Array Value) (n:Nat),K.lookup a=some o∧o.cls=.type "tuple"∧o.data=.seq its n∧its.size≤sizeLine∧Vals xs its.toList
def MW:Value→Option V
 | .none=>some .non
 | .bool b=>some (.bl b)
 | .int i _=>some (.int i)
 | .str x _=>some (.str x)
 | .bytes b _=>some (.ko b)
 | .float b _=>some (.flt b)
 | .ref a=>some (.ref a)
 | .type n=>some (.ty n)
 | _=>none
theorem RelV.abs {x:V} {u:Value} (r:RelV x u):MW u=some x:=by
 cases x with
 | non=>cases r;rfl
 | bl _=>cases r;rfl
 | int _=>obtain⟨t,rfl⟩:=r;rfl
 | str _=>obtain⟨t,rfl⟩:=r;rfl
 | ko _=>obtain⟨t,rfl⟩:=r;rfl
 | flt _=>obtain⟨t,rfl⟩:=r;rfl
 | ref _=>cases r;rfl
 | ty _=>cases r;rfl
theorem RelV.inj {x y:V} {u:Value} (r:RelV x u) (q:RelV y u):x=y:=Option.some.inj (r.abs.symm.trans q.abs)
theorem Vals.inj:∀{xs ys:List V} {us:List Value},Vals xs us→Vals ys us→xs=ys
 | _,_,_,.nil,.nil=>rfl
 | _,_,_,.cons r t,.cons r' t'=>by rw[r.inj r',Vals.inj t t']
section
variable {X:Cx} {pins:List (Addr×Obj)} {σ:St} {H:Hp} {s:Shared} {a:Addr} {xs ys:List V}
theorem bW.of {K:PySem.W.Frag} (h:H a=some (.lst xs)):bW K H a xs:=.inl (.inl h)
theorem bY.of {K:PySem.W.Frag} (h:H a=some (.tup xs)):bY K H a xs:=.inl (.inl h)
theorem Inv.list (I:Inv X pins σ H s) (h:bW X.K H a xs):∃its:List Value,Vals xs its∧PlainL s.heap a its.toArray∧xs.length≤sizeLine:=by
 rcases h with h | ⟨o,its,n,hk,hc,hd,hs,hz,r⟩
 ·obtain⟨z,its,n,r,e⟩:=h.ok I.hok
  exact⟨its,r,⟨_,n,e,rfl,rfl,rfl⟩,z⟩
 ·refine⟨its.toList,r,⟨o,n,I.fJ a o hk,hc,hd,by simpa using hs⟩,?_⟩
  have e:=r.length
  simp only[Array.length_toList] at e
  omega
theorem Inv.tuple (I:Inv X pins σ H s) (h:bY X.K H a xs):∃its:List Value,Vals xs its∧IsTup s.heap a its.toArray∧xs.length≤sizeLine:=by
 rcases h with h | ⟨o,its,n,hk,hc,hs,hz,r⟩
 ·obtain⟨z,its,r,p⟩:=h.ok I.hok
  exact⟨its,r,p,z.1⟩
 ·refine⟨its.toList,r,⟨o,I.fJ a o hk,hc,n,by simpa using hs⟩,?_⟩
  have e:=r.length
  simp only[Array.length_toList] at e
  omega
theorem Inv.qE (I:Inv X pins σ H s) (h:bW X.K H a xs) (h':bW X.K H a ys):xs=ys:=by
 obtain⟨its,r,⟨o,n,e,_,_,d⟩,_⟩:=I.list h
 obtain⟨its',r',⟨o',n',e',_,_,d'⟩,_⟩:=I.list h'
 rw[e] at e';cases e'
 rw[d] at d'
 injection d' with d1 _
 have:its=its':=by simpa using congrArg Array.toList d1
 subst this
 exact r.inj r'
theorem Inv.tS (I:Inv X pins σ H s) (h:bY X.K H a xs) (h':bY X.K H a ys):xs=ys:=by
 obtain⟨its,r,⟨o,e,_,n,d⟩,_⟩:=I.tuple h
 obtain⟨its',r',⟨o',e',_,n',d'⟩,_⟩:=I.tuple h'
 rw[e] at e';cases e'
 rw[d] at d'
 injection d' with d1 _
 have:its=its':=by simpa using congrArg Array.toList d1
 subst this
 exact r.inj r'
end
abbrev Cx.wish (X:Cx) (E:Value→Shared→Prop):Cx:={X with xe:=E}
abbrev Cx.E4 (X:Cx):Cx:=X.wish fun _ _=>False
theorem Cx.Ok.wish {X:Cx} (ok:X.Ok) (E:Value→Shared→Prop):(X.wish E).Ok:=
 ⟨ok.mod,ok.kind,ok.glob,ok.blt,ok.above,ok.inj,ok.has,ok.cab,ok.hd,ok.frames,ok.stk,ok.E1,ok.bs,ok.rq,ok.vk,ok.sJ,ok.jX,ok.vm⟩
theorem Cx.Ok.jL {X:Cx} {E:Value→Shared→Prop} (ok:(X.wish E).Ok):X.Ok:=
 ⟨ok.mod,ok.kind,ok.glob,ok.blt,ok.above,ok.inj,ok.has,ok.cab,ok.hd,ok.frames,ok.stk,ok.E1,ok.bs,ok.rq,ok.vk,ok.sJ,ok.jX,ok.vm⟩
section
variable {X:Cx} {pins:List (Addr×Obj)} {σ:St} {H:Hp} {s:Shared} {E:Value→Shared→Prop}
theorem Inv.wish (I:Inv X pins σ H s) (E:Value→Shared→Prop):Inv (X.wish E) pins σ H s:=⟨I.ok.wish E,I.os,I.bare,I.base,I.loc,I.cell,I.free,I.jr,I.pin,I.hok,I.len⟩
theorem Inv.jL (I:Inv (X.wish E) pins σ H s):Inv X pins σ H s:=⟨I.ok.jL,I.os,I.bare,I.base,I.loc,I.cell,I.free,I.jr,I.pin,I.hok,I.len⟩
theorem SP.jL {D:Ends} {f:Flow} {s':Shared} (h:SP (X.wish E) pins D f s'):SP X pins D f s':=by
 cases f with
 | next=>obtain⟨σ',H',I,q⟩:=h;exact⟨σ',H',I.jL,q⟩
 | brk=>obtain⟨σ',H',I,q⟩:=h;exact⟨σ',H',I.jL,q⟩
 | cont=>obtain⟨σ',H',I,q⟩:=h;exact⟨σ',H',I.jL,q⟩
 | ret u=>obtain⟨v,σ',H',I,r,q⟩:=h;exact⟨v,σ',H',I.jL,r,q⟩
theorem lJ.E4 {st:List Stmt} {t:TS} (h:lJ X.E4 st t):lJ X st t:=fun pins s σ H D I hw=>
 wpAny_mono (h pins s σ H D (I.wish _) hw) (fun _ _ q=>q.jL) fun _ _ z=>False.elim z
end
section
variable {X:Cx} {st:Stmt} {rest:List Stmt} {t u:TS} {e:Expr} {te:TE} {pos:Pos}
def E5:TS:=fun D σ H=>D.nx σ H
def qF (t u:TS):TS:=fun D σ H=>t {D with nx:=u D} σ H
theorem aS:lJ X [] E5:=fun _ _ σ H _ I h=>wpAny_execs_nil ⟨σ,H,I,h⟩
theorem ai (h1:PS X st t) (h2:lJ X rest u):lJ X (st::rest) (qF t u):=by
 intro pins s σ H D I h
 refine wpAny_execs_cons (aV (h1 pins s σ H {D with nx:=u D} I h) fun f s1 q=>?_)
 cases f with
 | next=>
  obtain⟨σ',H',I',q⟩:=q
  exact h2 pins s1 σ' H' D I' q
 | ret v=>exact q
 | brk=>exact q
 | cont=>exact q
theorem aw (h1:PS X st t):lJ X [st] t:=by
 intro pins s σ H D I h
 refine wpAny_execs_cons (aV (h1 pins s σ H D I h) fun f s1 q=>?_)
 cases f with
 | next=>exact wpAny_execs_nil q
 | ret v=>exact q
 | brk=>exact q
 | cont=>exact q
theorem Inv.quiet {pins:List (Addr×Obj)} {σ:St} {H:Hp} {s:Shared} (I:Inv X pins σ H s):interactive X.env=false:=by simp[interactive,I.ok.kind]
def zZ (te:TE):TS:=fun D σ H=>te σ H fun _ H1=>D.nx σ H1
theorem dF (he:PE X e te) (hs:swapsWith e none pos.line X.env=pure false:=by rfl):PS X (.Expr e pos) (zZ te):=by
 intro pins s σ H D I h
 exact wpAny_Expr_any (aV (he pins s σ H _ I h) fun v s1 ⟨x,H1,I1,r1,q1⟩=>⟨σ,H1,I1,q1⟩) I.quiet hs
def MX (te:TE):TS:=fun D σ H=>te σ H D.rt
theorem aL (he:PE X e te):PS X (.Return (some e) pos) (MX te):=by
 intro pins s σ H D I h
 exact wpAny_Return_some (aV (he pins s σ H _ I h) fun v s1 ⟨x,H1,I1,r1,q1⟩=>⟨x,σ,H1,I1,r1,q1⟩)
def sM (c:TT) (t u:TS):TS:=fun D σ H=>c σ H fun b H1=>if b=true then t D σ H1 else u D σ H1
theorem bw {c:Expr} {a b:List Stmt} {tc:TT} (hc:PT X c tc) (ha:lJ X a t) (hb:lJ X b u):PS X (.If c a b pos) (sM tc t u):=by
 intro pins s σ H D I h
 refine wpAny_If (aV (hc pins s σ H _ I h) fun d s1 ⟨H1,I1,q1⟩=>?_)
 cases d with
 | true=>exact ha pins s1 σ H1 D I1 q1
 | false=>exact hb pins s1 σ H1 D I1 q1
end
abbrev TG:=V→St→Hp→(St→Hp→Prop)→Prop
abbrev vv:=List V→St→Hp→(St→Hp→Prop)→Prop
def PG (X:Cx) (target:Expr) (t:TG):Prop:=
 ∀(pins:List (Addr×Obj)) (s:Shared) (σ:St) (H:Hp) (v:V) (u:Value) (Q:St→Hp→Prop),Inv X pins σ H s→RelV v u→t v σ H Q→
  wpAny (model X.prog X.w) X.A (assign target X.env u) (fun _ s'=>∃σ' H',Inv X pins σ' H' s'∧Q σ' H') X.xe s
def E6 (X:Cx) (ts:List Expr) (t:vv):Prop:=
 ∀(pins:List (Addr×Obj)) (s:Shared) (σ:St) (H:Hp) (vs:List V) (us:List Value) (Q:St→Hp→Prop),Inv X pins σ H s→Vals vs us→t vs σ H Q→
  wpAny (model X.prog X.w) X.A (assignInOrder ((assignEach ts X.env).map (·.2)) us) (fun _ s'=>∃σ' H',Inv X pins σ' H' s'∧Q σ' H') X.xe s
abbrev Dv:=V→V→V→Hp→(Hp→Prop)→Prop
def Hk (X:Cx) (t:Dv):Prop:=
 ∀(pins:List (Addr×Obj)) (s:Shared) (σ:St) (H:Hp) (o i v:V) (ov iv u:Value) (Q:Hp→Prop),Inv X pins σ H s→RelV o ov→RelV i iv→RelV v u→t o i v H Q→
  wpAny (model X.prog X.w) X.A (setItem ov iv u) (fun _ s'=>∃H',Inv X pins σ H' s'∧Q H') X.xe s
section
variable {X:Cx} {pos:Pos}
def iJ (i:Nat):TG:=fun v σ H Q=>Q (σ.set i (some v)) H
theorem cf {i:Nat} {x:Str} (hN:X.N.Nodup) (hi:X.N[i]? =some x) (hx:Loc X.env.scope x) (hf:X.fn x=true∨X.env.scope.names.lookup x=some .local:=by first | exact .inl rfl | exact .inr rfl | assumption):PG X (.Name x pos) (iJ i):=by
 intro pins s σ H v u Q I r h
 exact wpAny_assign_Name (vp I hN hi hx r (fun s' I'=>⟨_,H,I',h⟩) hf)
def MY:vv:=fun vs σ H Q=>vs=[]∧Q σ H
def KD (t:TG) (u:vv):vv:=fun vs σ H Q=>∃v r,vs=v::r∧t v σ H fun σ' H'=>u r σ' H' Q
theorem sN:E6 X [] MY:=by
 intro pins s σ H vs us Q I r h
 obtain⟨e,h⟩:=h
 subst e
 cases r
 exact assignInOrder_nil ⟨σ,H,I,h⟩
theorem i9 {e:Expr} {es:List Expr} {t:TG} {u:vv} (h1:PG X e t) (h2:E6 X es u)
  (hs:(assignEach (e::es) X.env).map (·.2)=assign e X.env::(assignEach es X.env).map (·.2):=by rfl):E6 X (e::es) (KD t u):=by
 intro pins s σ H vs us Q I r h
 obtain⟨v,vr,e1,h⟩:=h
 subst e1
 cases r with
 | cons r rr=>
  rw[hs]
  refine assignInOrder_cons (aV (h1 pins s σ H _ _ _ I r h) fun _ s1 ⟨σ1,H1,I1,q1⟩=>?_)
  exact h2 pins s1 σ1 H1 _ _ Q I1 rr q1
def MZ (K:PySem.W.Frag) (n:Nat) (t:vv):TG:=fun v σ H Q=>∃a xs,v=.ref a∧bY K H a xs∧xs.length=n∧t xs σ H Q
theorem vw {es:List Expr} {k:Nat} {t:vv} {n:Nat} (hc:X.calm=true) (h:E6 X es t)
  (hn:(assignEach es X.env).length=n:=by rfl) (hst:(assignEach es X.env).findIdx? (·.1)=none:=by rfl):PG X (.Tuple es k pos) (MZ X.K n t):=by
 intro pins s σ H v u Q I r hw
 obtain⟨a,xs,e1,hq,hl,hw⟩:=hw
 subst e1
 cases r
 obtain⟨its,rv,ht,hz⟩:=I.tuple hq
 refine assign_Tuple_tuple (I.ok.hd hc) ht (by simp[hn,←hl,rv.length]) hst fun h' hx=>?_
 have I1:Inv X pins σ H {s with heap:=h'}:=I.kept (t':=s.toks) fun b o e=>hx b o (Nat.ne_of_lt (Heap.lt_size e)) e
 exact h pins _ σ H xs _ Q I1 (by simpa using rv) hw
def M_ (to ti:TE) (t:Dv):TG:=fun v σ H Q=>to σ H fun o H1=>ti σ H1 fun i H2=>t o i v H2 fun H3=>Q σ H3
theorem BE {o i:Expr} {to ti:TE} {t:Dv} (ho:PE X o to) (hi:PE X i ti) (hs:Hk X t)
  (ha:∀v,assign (.Subscript o i pos) X.env v=(do
   let ov ←holding [v] (eval o X.env)
   let iv ←holding [v,ov] (eval i X.env)
   standAt pos
   holding [v,ov,iv] (setItem ov iv v)
   release [v,ov,iv] []):=by intro _;rfl):PG X (.Subscript o i pos) (M_ to ti t):=by
 intro pins s σ H v u Q I r h
 rw[ha]
 refine wpAny_bind (wpAny_holding (aV (ho pins s σ H _ I h) fun ov s1 ⟨x,H1,I1,r1,q1⟩=>?_))
 refine wpAny_bind (wpAny_holding (aV (hi pins s1 σ H1 _ I1 q1) fun iv s2 ⟨y,H2,I2,r2,q2⟩=>?_))
 refine wpAny_bind (wpAny_standAt (wpAny_bind (wpAny_holding (aV (hs pins s2 σ H2 x y v ov iv u _ I2 r1 r2 r q2) fun _ s3 ⟨H3,I3,q3⟩=>?_))))
 exact wpAny_release ⟨σ,H3,I3,q3⟩
def nh (te:TE) (g:TG):TS:=fun D σ H=>te σ H fun x H1=>g x σ H1 D.nx
theorem BF {tg e:Expr} {te:TE} {g:TG} (he:PE X e te) (hg:PG X tg g) (hs:swapsWithSole [tg] e pos.line X.env=pure false:=by rfl) (hw:swappedStores [tg] e X.env=pure none:=by rfl)
  (h1:(assignEach [tg] X.env).map (·.2)=[assign tg X.env]:=by rfl):PS X (.Assign [tg] e pos) (nh te g):=by
 intro pins s σ H D I h
 refine wpAny_Assign_stores (aV (he pins s σ H _ I h) fun v s1 ⟨x,H1,I1,r1,q1⟩=>?_) hs hw
 rw[h1]
 exact aV (hg pins s1 σ H1 x v _ I1 r1 q1) fun _ s2 q=>q
theorem aI {i:Nat} {x:Str} {e:Expr} {te:TE} {pos':Pos} (hN:X.N.Nodup) (hi:X.N[i]? =some x) (hx:Loc X.env.scope x) (he:PE X e te) (hs:swapsWith e (some (.Name x pos')) pos.line X.env=pure false:=by rfl) (hf:X.fn x=true∨X.env.scope.names.lookup x=some .local:=by first | exact .inl rfl | exact .inr rfl | assumption):
  PS X (.Assign [.Name x pos'] e pos) (nh te (iJ i)):=by
 intro pins s σ H D I h
 refine wpAny_Assign_Name (aV (he pins s σ H _ I h) fun v s1 ⟨y,H1,I1,r1,q1⟩=>?_) hs
 exact vp I1 hN hi hx r1 (fun s2 I2=>⟨_,H1,I2,q1⟩) hf
def vx (c:TT) (tb:TS):TS:=fun D σ H=>∃W:Nat→St→Hp→Prop,(∃m,W m σ H)∧∀m σ H,W m σ H→
 c σ H fun b H1=>if b=true then ∃N:St→Hp→Prop,(∀σ' H',N σ' H'→∃m',m'<m∧W m' σ' H')∧tb {D with nx:=N,ct:=N,bk:=D.nx} σ H1 else D.nx σ H1
theorem kx {c:Expr} {body:List Stmt} {tc:TT} {tb:TS} (hp:PassesOwn (model X.prog X.w) X.A X.env X.xe) (hc:PT X c tc) (hb:lJ X body tb):PS X (.While c body [] pos) (vx tc tb):=by
 intro pins s σ H D I h
 obtain⟨W,⟨m0,w0⟩,turn⟩:=h
 refine wpAny_While (codeAny_whileLoop (fun n s'=>∃σ' H',Inv X pins σ' H' s'∧W n σ' H') ?_ m0 ⟨σ,H,I,w0⟩)
 rintro n s1 ⟨σ1,H1,I1,w1⟩
 refine wpAny_passesOwn hp (aV (hc pins s1 σ1 H1 _ I1 (turn n σ1 H1 w1)) fun b s2 ⟨H2,I2,q2⟩=>?_)
 cases b with
 | true=>
  obtain⟨N,hN,q2⟩:=q2
  rw[if_pos rfl]
  refine wpAny_passesOwn hp (aV (hb pins s2 σ1 H2 _ I2 q2) fun f s3 q3=>?_)
  cases f with
  | next=>
   obtain⟨σ3,H3,I3,n3⟩:=q3
   obtain⟨m',hm,w3⟩:=hN σ3 H3 n3
   exact⟨m',hm,σ3,H3,I3,w3⟩
  | cont=>
   obtain⟨σ3,H3,I3,n3⟩:=q3
   obtain⟨m',hm,w3⟩:=hN σ3 H3 n3
   exact⟨m',hm,σ3,H3,I3,w3⟩
  | brk=>exact q3
  | ret v=>exact q3
 | false=>
  rw[if_neg Bool.false_ne_true]
  exact wpAny_execs_nil ⟨σ1,H2,I2,q2⟩
end
structure It where
 go:Nat→Hp→Prop
 vy:Nat→Hp→V→Hp→Prop
 stop:Nat→Hp→Prop
def ik (X:Cx) (pins:List (Addr×Obj)) (H:Hp) (b:Addr):Prop:=
 H b=none∧b≠X.env.locals∧b ∉ X.fs∧(b∈X.ex∨X.s₀.heap.objs.size≤b)∧(∀x c,X.env.cells.lookup x=some c→c≠b)∧∀p∈X.pn++pins,p.1≠b
theorem Inv.mx {X:Cx} {pins:List (Addr×Obj)} {σ:St} {H H':Hp} {s:Shared} {b:Addr} (I:Inv X pins σ H s) (hb:s.heap.objs.size≤b) (hn:H' b=none):ik X pins H' b:=by
 refine⟨hn,Nat.ne_of_gt (Nat.lt_of_lt_of_le I.lt hb),I.MR hb,.inr (Nat.le_trans I.sz hb),fun x c e z=>?_,fun p hp z=>?_⟩
 ·obtain⟨v,q⟩:=I.cell x c e
  exact absurd (Nat.lt_of_lt_of_le q.lt (by rw[z];exact hb)) (Nat.lt_irrefl _)
 ·exact absurd (Nat.lt_of_lt_of_le (Heap.lt_size (I.pin p hp).1) (by rw[z];exact hb)) (Nat.lt_irrefl _)
structure Turn (P:Program) (w:World) (K:PySem.W.Frag) (tg:Expr) (J:It) (fp:List Addr) (it:Addr) (tn:Nat→Heap→Prop):Prop where
 mem:it∈fp
 obj:∀i h,tn i h→∀b∈fp,∃o,h.get? b=some o∧∀v,o.data≠.cell v
 keep:∀i h h',tn i h→(∀b∈fp,∀o,h.get? b=some o→h'.get? b=some o)→tn i h'
 item:∀(X:Cx),X.prog=P→X.w=w→X.K=K→X.calm=true→∀(i:Nat) (pins:List (Addr×Obj)) (s:Shared) (σ:St) (H:Hp) (E:Value→Shared→Prop),Inv X pins σ H s→(∀b∈fp,ik X pins H b)→tn i s.heap→J.go i H→
  wpAny (model P w) X.A (pyNext (.ref it)) (fun r s1=>∃u,r=some u∧
   wpAny (model P w) X.A (letOwnedTupleGo tg (.ref it) u) (fun _ s2=>∃x H',Inv X pins σ H' s2∧RelV x u∧J.vy i H x H'∧tn (i+1) s2.heap∧∀b∈fp,H' b=none) E s1) E s
 done:∀(X:Cx),X.prog=P→X.w=w→X.K=K→X.calm=true→∀(i:Nat) (pins:List (Addr×Obj)) (s:Shared) (σ:St) (H:Hp) (E:Value→Shared→Prop),Inv X pins σ H s→(∀b∈fp,ik X pins H b)→tn i s.heap→J.stop i H→
  wpAny (model P w) X.A (pyNext (.ref it)) (fun r s1=>r=none∧Inv X pins σ H s1) E s
 self:∀(A:Around) (i:Nat) (s:Shared) (Q:Value→Shared→Prop) (E:Value→Shared→Prop),tn i s.heap→Q (.ref it) s→wpAny (model P w) A (pyIter (.ref it)) Q E s
abbrev TI:=St→Hp→(It→Hp→Prop)→Prop
def PIE (X:Cx) (pins:List (Addr×Obj)) (σ:St) (tg:Expr) (R:It→Hp→Prop) (itv:Value) (s2:Shared):Prop:=
 ∃(it:Addr) (fp:List Addr) (tn:Nat→Heap→Prop) (J:It) (H':Hp),itv=.ref it∧Inv X pins σ H' s2∧Turn X.prog X.w X.K tg J fp it tn∧tn 0 s2.heap∧(∀b∈fp,ik X pins H' b)∧R J H'
def PI (X:Cx) (tg iter:Expr) (wi:TI):Prop:=
 ∀(pins:List (Addr×Obj)) (s:Shared) (σ:St) (H:Hp) (R:It→Hp→Prop),Inv X pins σ H s→wi σ H R→
  wpAny (model X.prog X.w) X.A (eval iter X.env) (fun v s1=>wpAny (model X.prog X.w) X.A (pyIter v) (PIE X pins σ tg R) X.xe s1) X.xe s
theorem u9 {M:Model} {A:Around} {E:Value→Shared→Prop} {s:Shared} {tg:Expr} {it:Addr} {u:Value} {o:Obj} {n:String} {vs:Array Value} {Q:Unit→Shared→Prop} (ho:s.heap.get? it=some o) (hc:o.cls=.type n) (hd:o.data=.fields vs)
  (hn:["enumerate","zip","dict_itemiterator","dict_reverseitemiterator","odict_iterator","itertools.zip_longest","itertools.pairwise"].contains n=false) (hQ:Q () s):wpAny M A (letOwnedTupleGo tg (.ref it) u) Q E s:=by
 unfold letOwnedTupleGo
 cases tg<;>first
  | exact wpAny_pure hQ
  | (cases u<;>first
    | exact wpAny_pure hQ
    | (refine wpAny_bind (wpAny_load ho ?_)
       rw[hc,hd]
       show wpAny M A (if(["enumerate","zip","dict_itemiterator","dict_reverseitemiterator","odict_iterator","itertools.zip_longest","itertools.pairwise"].contains n&&vs[0]? == some (rawInt _))=true then _ else _) Q E s
       rw[if_neg (by intro h;rw[hn,Bool.false_and] at h;cases h)]
       exact wpAny_pure hQ))
def yW (K:PySem.W.Frag) (a:Addr):It:=
 ⟨fun i H=>∃xs x,bW K H a xs∧xs[i]? =some x,fun i H x H'=>H'=H∧∀xs,bW K H a xs→xs[i]? =some x,fun i H=>∃xs,bW K H a xs∧xs.length≤i⟩
def yX (K:PySem.W.Frag) (a:Addr):It:=
 ⟨fun i H=>∃xs x,bY K H a xs∧xs[i]? =some x,fun i H x H'=>H'=H∧∀xs,bY K H a xs→xs[i]? =some x,fun i H=>∃xs,bY K H a xs∧xs.length≤i⟩
def tT (lo:Int) (n:Nat):It:=⟨fun i _=>i<n,fun i H x H'=>H'=H∧x=.int (lo+i),fun i _=>n≤i⟩
theorem BG {P:Program} {w:World} {K:PySem.W.Frag} {tg:Expr} (a it:Addr):Turn P w K tg (yW K a) [it] it (fun i h=>h.IsListIter it a i) where
 mem:=by simp
 obj:=fun i h st b hb=>by
  have e:b=it:=by simpa using hb
  subst e
  obtain⟨o,e,c,d⟩:=st
  exact⟨o,e,fun v z=>by rw[d] at z;cases z⟩
 keep:=fun i h h' st k=>st.at fun o e=>k it (by simp) o e
 item:=by
  intro X hP hw hK hc i pins s σ H E I hf st hg
  subst hP hw hK
  obtain⟨xs,x,hq,hx⟩:=hg
  obtain⟨its,rv,p,hz⟩:=I.list hq
  obtain⟨u,hu,ru⟩:=rv.get hx
  obtain⟨f0,f1,f2,f3,f4,f5⟩:=hf it (by simp)
  refine wpAny_pyNext_list_item st p.isList (x:=u) (by simpa using hu) fun h' st' sb=>?_
  have I1:Inv X pins σ H {s with heap:=h'}:=I.turned (t':=s.toks) (fun b o hb e=>(sb.2 b hb).trans e) f0 f1 f3 f4 f5
  obtain⟨o,e,c,d⟩:=id st'
  exact⟨u,rfl,u9 (s:={s with heap:=h'}) e c d (by decide) ⟨x,H,I1,ru,⟨rfl,fun ys hy=>by rw[I.qE hy hq];exact hx⟩,st',fun b hb=>(hf b hb).1⟩⟩
 done:=by
  intro X hP hw hK hc i pins s σ H E I hf st hg
  subst hP hw hK
  obtain⟨xs,hq,hx⟩:=hg
  obtain⟨its,rv,p,hz⟩:=I.list hq
  obtain⟨f0,f1,f2,f3,f4,f5⟩:=hf it (by simp)
  have hl:=rv.length
  exact wpAny_pyNext_list_end (I.ok.hd hc) st p.isList (by simp;omega) fun h' eb=>⟨rfl,I.turned (t':=s.toks) (fun b o hb e=>eb b o hb e) f0 f1 f3 f4 f5⟩
 self:=fun _ _ _ _ _ st h=>wpAny_pyIter_listiter st h
theorem z_ {P:Program} {w:World} {K:PySem.W.Frag} {tg:Expr} (a it:Addr):Turn P w K tg (yX K a) [it] it (fun i h=>h.IsTupleIter it a i) where
 mem:=by simp
 obj:=fun i h st b hb=>by
  have e:b=it:=by simpa using hb
  subst e
  obtain⟨o,e,c,d⟩:=st
  exact⟨o,e,fun v z=>by rw[d] at z;cases z⟩
 keep:=fun i h h' st k=>st.at fun o e=>k it (by simp) o e
 item:=by
  intro X hP hw hK hc i pins s σ H E I hf st hg
  subst hP hw hK
  obtain⟨xs,x,hq,hx⟩:=hg
  obtain⟨its,rv,p,hz⟩:=I.tuple hq
  obtain⟨u,hu,ru⟩:=rv.get hx
  obtain⟨f0,f1,f2,f3,f4,f5⟩:=hf it (by simp)
  refine wpAny_pyNext_tuple_item st (show s.heap.IsTuple a its.toArray from p) (x:=u) (by simpa using hu) fun h' st' sb=>?_
  have I1:Inv X pins σ H {s with heap:=h'}:=I.turned (t':=s.toks) (fun b o hb e=>(sb.2 b hb).trans e) f0 f1 f3 f4 f5
  obtain⟨o,e,c,d⟩:=id st'
  exact⟨u,rfl,u9 (s:={s with heap:=h'}) e c d (by decide) ⟨x,H,I1,ru,⟨rfl,fun ys hy=>by rw[I.tS hy hq];exact hx⟩,st',fun b hb=>(hf b hb).1⟩⟩
 done:=by
  intro X hP hw hK hc i pins s σ H E I hf st hg
  subst hP hw hK
  obtain⟨xs,hq,hx⟩:=hg
  obtain⟨its,rv,p,hz⟩:=I.tuple hq
  obtain⟨f0,f1,f2,f3,f4,f5⟩:=hf it (by simp)
  have hl:=rv.length
  exact wpAny_pyNext_tuple_end (I.ok.hd hc) st (show s.heap.IsTuple a its.toArray from p) (by simp;omega) fun h' eb=>⟨rfl,I.turned (t':=s.toks) (fun b o hb e=>eb b o hb e) f0 f1 f3 f4 f5⟩
 self:=fun _ _ _ _ _ st h=>wpAny_pyIter_tupleiter st h
theorem Aa {P:Program} {w:World} {K:PySem.W.Frag} {tg:Expr} (it:Addr) (lo:Int) (n:Nat):Turn P w K tg (tT lo n) [it] it (fun i h=>IsRangeIter h it (lo+(i:Nat)*1) ((n:Int)-(i:Nat)) 1) where
 mem:=by simp
 obj:=fun i h st b hb=>by
  have e:b=it:=by simpa using hb
  subst e
  exact⟨_,st,fun v z=>by
   have z':Data.fields _=Data.cell v:=z
   cases z'⟩
 keep:=fun i h h' st k=>k it (by simp) _ st
 item:=by
  intro X hP hw hK hc i pins s σ H E I hf st hg
  subst hP hw hK
  obtain⟨f0,f1,f2,f3,f4,f5⟩:=hf it (by simp)
  have W:=Walks.range (prog:=X.prog) (w:=X.w) (I.ok.hd hc) it lo 1 n
  refine W.item i s _ _ hg st fun v h' tk hv st' kk=>?_
  obtain⟨t,rfl⟩:=hv
  have I1:Inv X pins σ H {s with heap:=h',toks:=tk}:=I.turned (fun b o hb e=>kk b o (by simpa using hb) e) f0 f1 f3 f4 f5
  refine⟨_,rfl,u9 (s:={s with heap:=h',toks:=tk}) (n:="range_iterator") st' rfl rfl (by decide) ⟨.int (lo+i),H,I1,⟨t,?_⟩,⟨rfl,rfl⟩,st',fun b hb=>(hf b hb).1⟩⟩
  rw[Int.mul_one]
 done:=by
  intro X hP hw hK hc i pins s σ H E I hf st hg
  subst hP hw hK
  obtain⟨f0,f1,f2,f3,f4,f5⟩:=hf it (by simp)
  exact wpAny_pyNext_range_end (I.ok.hd hc) st (by have:n≤i:=hg;omega) fun h' eb=>⟨rfl,I.turned (t':=s.toks) (fun b o hb e=>eb b o hb e) f0 f1 f3 f4 f5⟩
 self:=fun _ _ _ _ _ st h=>wpAny_pyIter_rangeiter st h
section
variable {X:Cx} {tg:Expr}
def KG (K:PySem.W.Frag) (tl:TE):TI:=fun σ H R=>tl σ H fun x H1=>∃a,x=.ref a∧(∃xs,bW K H1 a xs)∧R (yW K a) H1
def M0 (K:PySem.W.Frag) (tl:TE):TI:=fun σ H R=>tl σ H fun x H1=>∃a,x=.ref a∧(∃xs,bY K H1 a xs)∧R (yX K a) H1
theorem mH {l:Expr} {tl:TE} (hl:PE X l tl):PI X tg l (KG X.K tl):=by
 intro pins s σ H R I h
 refine aV (hl pins s σ H _ I h) fun v s1 ⟨x,H1,I1,r1,q1⟩=>?_
 obtain⟨a,e,⟨xs,hq⟩,q⟩:=q1
 subst e
 cases r1
 obtain⟨its,rv,p,hz⟩:=I1.list hq
 refine wpAny_pyIter_list p.isList ?_
 refine⟨s1.heap.objs.size,[s1.heap.objs.size],_,_,H1,rfl,I1.kept (t':=s1.toks) fun b o e=>Heap.get?_push_of_some _ e,BG a _,⟨_,Heap.get?_push_size _ rfl,rfl,rfl⟩,fun b hb=>?_,q⟩
 have e:b=s1.heap.objs.size:=by simpa using hb
 subst e
 exact I1.mx (Nat.le_refl _) (I1.hok.fresh (Nat.le_refl _))
theorem vz {l:Expr} {tl:TE} (hl:PE X l tl):PI X tg l (M0 X.K tl):=by
 intro pins s σ H R I h
 refine aV (hl pins s σ H _ I h) fun v s1 ⟨x,H1,I1,r1,q1⟩=>?_
 obtain⟨a,e,⟨xs,hq⟩,q⟩:=q1
 subst e
 cases r1
 obtain⟨its,rv,p,hz⟩:=I1.tuple hq
 refine wpAny_pyIter_tuple (show s1.heap.IsTuple a its.toArray from p) ?_
 refine⟨s1.heap.objs.size,[s1.heap.objs.size],_,_,H1,rfl,I1.kept (t':=s1.toks) fun b o e=>Heap.get?_push_of_some _ e,z_ a _,⟨_,Heap.get?_push_size _ rfl,rfl,rfl⟩,fun b hb=>?_,q⟩
 have e:b=s1.heap.objs.size:=by simpa using hb
 subst e
 exact I1.mx (Nat.le_refl _) (I1.hok.fresh (Nat.le_refl _))
theorem vA {pins:List (Addr×Obj)} {σ:St} {H:Hp} {s:Shared} {R:It→Hp→Prop} {E:Value→Shared→Prop} {lo hi:Int} {t u v:Tok} {tk:Nat} (I:Inv X pins σ H s) (h1: -(2 ^ 62)≤lo) (h2:lo<2 ^ 62) (h3: -(2 ^ 62)≤hi) (h4:hi<2 ^ 62)
  (q:R (tT lo (hi-lo).toNat) H):wpAny (model X.prog X.w) X.A (pyIter (.ref s.heap.objs.size)) (PIE X pins σ tg R) E {s with heap:=s.heap.push {cls:=.type "range",data:=.fields #[.int lo t,.int hi u,.int 1 v]},toks:=tk}:=by
 refine wpAny_pyIter_range (IsRange.new ..) (small_one h1 h2 h3 h4) ?_
 have I1:Inv X pins σ H {s with heap:=s.heap.push {cls:=.type "range",data:=.fields #[.int lo t,.int hi u,.int 1 v]},toks:=tk}:=I.kept fun b o e=>Heap.get?_push_of_some _ e
 refine⟨(s.heap.push {cls:=.type "range",data:=.fields #[.int lo t,.int hi u,.int 1 v]}).objs.size,[(s.heap.push {cls:=.type "range",data:=.fields #[.int lo t,.int hi u,.int 1 v]}).objs.size],_,_,H,rfl,
  I1.kept (t':=tk) fun b o e=>Heap.get?_push_of_some _ e,Aa _ lo (hi-lo).toNat,?_,fun b hb=>?_,q⟩
 ·have e1:lo+((0:Nat):Int)*1=lo:=by simp
  have e2:(((hi-lo).toNat:Nat):Int)-((0:Nat):Int)=Builtin.Range.rangeSize lo hi 1:=by rw[rangeSize_one];split<;>omega
  show IsRangeIter _ _ (lo+((0:Nat):Int)*1) ((((hi-lo).toNat:Nat):Int)-((0:Nat):Int)) 1
  rw[e1,e2]
  exact Heap.get?_push_size _ rfl
 ·have e:b=(s.heap.push {cls:=.type "range",data:=.fields #[.int lo t,.int hi u,.int 1 v]}).objs.size:=by simpa using hb
  subst e
  exact I1.mx (Nat.le_refl _) (I1.hok.fresh (Nat.le_refl _))
def KH (ta:TA):TI:=fun σ H R=>ta σ H fun vs H1=>∃j:Int,vs=[.int j]∧ -(2 ^ 62)≤j∧j<2 ^ 62∧R (tT 0 j.toNat) H1
def KI (ta:TA):TI:=fun σ H R=>ta σ H fun vs H1=>∃i j:Int,vs=[.int i,.int j]∧(-(2 ^ 62)≤i∧i<2 ^ 62∧ -(2 ^ 62)≤j∧j<2 ^ 62)∧R (tT i (j-i).toNat) H1
theorem gF {a:Expr} {ta:TA} {p pos:Pos} (hg:Gl X "range") (hm:X.mg "range"=none) (ha:PA X [a] ta) (hs:starEach [a] X.env=[(false,eval a X.env)]:=by rfl):PI X tg (.Call (.Name "range" p) [a] [] pos) (KH ta):=by
 intro pins s σ H R I h
 refine Call_ (jK I hg hm boot_range (PyProof.Rows.callWith_type1 (aV (ha pos pins s σ H _ I h) fun us s1 ⟨vs,H1,I1,r1,q1⟩=>?_) hs rfl))
 obtain⟨j,e,q1,q2,q⟩:=q1
 subst e
 cases r1 with
 | cons r rr=>
  cases rr
  obtain⟨t,rfl⟩:=r
  exact call_range_1 (vA I1 (by omega) (by omega) q1 q2 (by simpa using q))
theorem BH {a b:Expr} {ta:TA} {p pos:Pos} (hg:Gl X "range") (hm:X.mg "range"=none) (ha:PA X [a,b] ta) (hs:starEach [a,b] X.env=[(false,eval a X.env),(false,eval b X.env)]:=by rfl) (hs2:starEach [b] X.env=[(false,eval b X.env)]:=by rfl):
  PI X tg (.Call (.Name "range" p) [a,b] [] pos) (KI ta):=by
 intro pins s σ H R I h
 refine Call_ (jK I hg hm boot_range (PyProof.Rows.callWith_type1 (aV (ha pos pins s σ H _ I h) fun us s1 ⟨vs,H1,I1,r1,q1⟩=>?_) (by rw[hs,hs2]) (by rw[hs2];rfl)))
 obtain⟨i,j,e,⟨q1,q2,q3,q4⟩,q⟩:=q1
 subst e
 cases r1 with
 | cons r rr=>
  cases rr with
  | cons r' rr=>
   cases rr
   obtain⟨t,rfl⟩:=r
   obtain⟨t',rfl⟩:=r'
   exact call_range_2 (vA I1 q1 q2 q3 q4 q)
def M1 (wi:TI) (g:TG) (tb:TS):TS:=fun D σ H=>wi σ H fun J H1=>∃W:Nat→Nat→St→Hp→Prop,(∃m,W 0 m σ H1)∧∀i m σ H,W i m σ H→
 (J.stop i H∧D.nx σ H)∨(J.go i H∧∃N:St→Hp→Prop,(∀σ' H',N σ' H'→∃m',m'<m∧W (i+1) m' σ' H')∧∀x H',J.vy i H x H'→g x σ H' fun σ2 H2=>tb {D with nx:=N,ct:=N,bk:=D.nx} σ2 H2)
def mI (fp:List Addr) (h:Heap):List (Addr×Obj):=fp.filterMap fun b=>(h.get? b).map fun o=>(b,o)
theorem gQ {fp:List Addr} {h:Heap} {b:Addr} {o:Obj} (hb:b∈fp) (e:h.get? b=some o):(b,o)∈mI fp h:=List.mem_filterMap.mpr ⟨b,hb,by rw[e];rfl⟩
theorem BI {fp:List Addr} {h:Heap} {p:Addr×Obj} (hp:p∈mI fp h):p.1∈fp∧h.get? p.1=some p.2:=by
 obtain⟨b,hb,e⟩:=List.mem_filterMap.mp hp
 cases q:h.get? b with
 | none=>rw[q] at e;cases e
 | some o=>
  rw[q] at e
  have e':(b,o)=p:=Option.some.inj e
  subst e'
  exact⟨hb,q⟩
theorem Inv.pinned {pins:List (Addr×Obj)} {σ:St} {H:Hp} {s:Shared} {fp:List Addr} (I:Inv X pins σ H s) (hf:∀b∈fp,ik X pins H b) (ho:∀b∈fp,∃o,s.heap.get? b=some o∧∀v,o.data≠.cell v):Inv X (pins++mI fp s.heap) σ H s:=
 I.yV fun p hp=>(List.mem_append.mp hp).elim (fun z=>I.pin p (List.mem_append_right _ z)) fun z=>by
  obtain⟨hb,e⟩:=BI z
  obtain⟨f0,f1,f2,_⟩:=hf p.1 hb
  obtain⟨o,e',d⟩:=ho p.1 hb
  rw[e] at e';cases e'
  exact⟨e,f0,f1,f2,d⟩
theorem Inv.ky {pins pl:List (Addr×Obj)} {σ:St} {H:Hp} {s:Shared} (I:Inv X (pins++pl) σ H s):Inv X pins σ H s:=I.yV fun p hp=>I.pin p (List.mem_append_right _ (List.mem_append_left _ hp))
theorem iK {iter:Expr} {body:List Stmt} {wi:TI} {g:TG} {tb:TS} {pos:Pos} (hp:PassesOwn (model X.prog X.w) X.A X.env X.xe) (hc:X.calm=true) (hi:PI X tg iter wi) (hg:PG X tg g) (hb:lJ X body tb)
  (hs:∀x,foldedSetIterable iter X.env x=pure x:=by intro _;rfl):PS X (.For tg iter body [] pos) (M1 wi g tb):=by
 intro pins s σ H D I h
 refine wpAny_For (aV (hi pins s σ H _ I h) fun v s1 h1=>aV h1 fun itv s2 h2=>?_) hs
 obtain⟨it,fp,tn,J,H2,e,I2,T,st2,f2,W,⟨m0,w0⟩,turn⟩:=h2
 subst e
 have stat:∀{H':Hp},(∀b∈fp,H' b=none)→∀b∈fp,ik X pins H' b:=fun hn b hb=>⟨hn b hb,(f2 b hb).2⟩
 refine codeAny_forLoop_any (fun n s'=>∃i σ' H',Inv X pins σ' H' s'∧tn i s'.heap∧(∀b∈fp,H' b=none)∧W i n σ' H') ?_ m0 ⟨0,σ,H2,I2,st2,fun b hb=>(f2 b hb).1,w0⟩
 rintro n s3 ⟨i,σ3,H3,I3,st3,Lz,w3⟩
 rcases turn i n σ3 H3 w3 with⟨stop,qn⟩ | ⟨go,N,hN,step⟩
 ·refine wpAny_passesOwn hp (aV (T.done X rfl rfl rfl hc i pins s3 σ3 H3 X.xe I3 (stat Lz) st3 stop) fun r s4 ⟨hr,I4⟩=>?_)
  subst hr
  exact wpAny_execs_nil ⟨σ3,H3,I4,qn⟩
 ·refine wpAny_passesOwn hp (aV (T.item X rfl rfl rfl hc i pins s3 σ3 H3 X.xe I3 (stat Lz) st3 go) fun r s4 ⟨u,hr,h4⟩=>?_)
  subst hr
  refine wpAny_passesOwn hp (aV h4 fun _ s5 ⟨x,H5,I5,r5,y5,rA,vB⟩=>?_)
  have RF:=I5.pinned (stat vB) (T.obj _ _ rA)
  refine wpAny_passesOwn hp (aV (hg _ s5 σ3 H5 x u _ RF r5 (step x H5 y5)) fun _ s6 ⟨σ6,H6,I6,q6⟩=>?_)
  refine wpAny_passesOwn hp (aV (hb _ s6 σ6 H6 _ I6 q6) fun f s7 q7=>?_)
  have again:∀{σ7:St} {H7:Hp},Inv X (pins++mI fp s5.heap) σ7 H7 s7→N σ7 H7→∃m,m<n∧∃i σ' H',Inv X pins σ' H' s7∧tn i s7.heap∧(∀b∈fp,H' b=none)∧W i m σ' H':=fun {σ7 H7} I7 n7=>by
   obtain⟨m',hm,w7⟩:=hN σ7 H7 n7
   refine⟨m',hm,i+1,σ7,H7,I7.ky,T.keep _ _ _ rA fun b hb o e=>(I7.pin (b,o) (List.mem_append_right _ (List.mem_append_right _ (gQ hb e)))).1,fun b hb=>?_,w7⟩
   obtain⟨o,e,d⟩:=T.obj _ _ rA b hb
   exact(I7.pin (b,o) (List.mem_append_right _ (List.mem_append_right _ (gQ hb e)))).2.1
  cases f with
  | next=>obtain⟨σ7,H7,I7,n7⟩:=q7;exact again I7 n7
  | cont=>obtain⟨σ7,H7,I7,n7⟩:=q7;exact again I7 n7
  | brk=>obtain⟨σ7,H7,I7,q7⟩:=q7;exact⟨σ7,H7,I7.ky,q7⟩
  | ret v=>obtain⟨x7,σ7,H7,I7,r7,q7⟩:=q7;exact⟨x7,σ7,H7,I7.ky,r7,q7⟩
end
theorem vC {K:PySem.W.Frag} {a:Addr} {xs:List V} {g:TG} {tb:TS} {D:Ends} {σ:St} {H:Hp} (Pv:Nat→St→Hp→Prop) (h0:Pv 0 σ H) (hl:∀i σ H,i≤xs.length→Pv i σ H→bW K H a xs)
  (hs:∀i x σ H,xs[i]? =some x→Pv i σ H→g x σ H fun σ2 H2=>tb {D with nx:=Pv (i+1),ct:=Pv (i+1),bk:=D.nx} σ2 H2) (hd:∀σ H,Pv xs.length σ H→D.nx σ H):
  ∃W:Nat→Nat→St→Hp→Prop,(∃m,W 0 m σ H)∧∀i m σ H,W i m σ H→
   ((yW K a).stop i H∧D.nx σ H)∨((yW K a).go i H∧∃N:St→Hp→Prop,(∀σ' H',N σ' H'→∃m',m'<m∧W (i+1) m' σ' H')∧∀x H',(yW K a).vy i H x H'→g x σ H' fun σ2 H2=>tb {D with nx:=N,ct:=N,bk:=D.nx} σ2 H2):=by
 refine⟨fun i m σ H=>m=xs.length-i∧i≤xs.length∧Pv i σ H,⟨xs.length,by simp,Nat.zero_le _,h0⟩,?_⟩
 rintro i m σ H ⟨rfl,hi,p⟩
 have q:=hl i σ H hi p
 by_cases hlt:i<xs.length
 ·refine .inr ⟨⟨xs,xs[i],q,by simp[hlt]⟩,Pv (i+1),fun σ' H' p'=>⟨xs.length-(i+1),by omega,rfl,hlt,p'⟩,fun x H' y=>?_⟩
  obtain⟨e,y⟩:=y
  subst e
  exact hs i x σ _ (y xs q) p
 ·have e:i=xs.length:=by omega
  subst e
  exact .inl ⟨⟨xs,q,Nat.le_refl _⟩,hd σ H p⟩
theorem GA {K:PySem.W.Frag} {a:Addr} {xs:List V} {g:TG} {tb:TS} {D:Ends} {σ:St} {H:Hp} (Pv:Nat→St→Hp→Prop) (h0:Pv 0 σ H) (hl:∀i σ H,i≤xs.length→Pv i σ H→bY K H a xs)
  (hs:∀i x σ H,xs[i]? =some x→Pv i σ H→g x σ H fun σ2 H2=>tb {D with nx:=Pv (i+1),ct:=Pv (i+1),bk:=D.nx} σ2 H2) (hd:∀σ H,Pv xs.length σ H→D.nx σ H):
  ∃W:Nat→Nat→St→Hp→Prop,(∃m,W 0 m σ H)∧∀i m σ H,W i m σ H→
   ((yX K a).stop i H∧D.nx σ H)∨((yX K a).go i H∧∃N:St→Hp→Prop,(∀σ' H',N σ' H'→∃m',m'<m∧W (i+1) m' σ' H')∧∀x H',(yX K a).vy i H x H'→g x σ H' fun σ2 H2=>tb {D with nx:=N,ct:=N,bk:=D.nx} σ2 H2):=by
 refine⟨fun i m σ H=>m=xs.length-i∧i≤xs.length∧Pv i σ H,⟨xs.length,by simp,Nat.zero_le _,h0⟩,?_⟩
 rintro i m σ H ⟨rfl,hi,p⟩
 have q:=hl i σ H hi p
 by_cases hlt:i<xs.length
 ·refine .inr ⟨⟨xs,xs[i],q,by simp[hlt]⟩,Pv (i+1),fun σ' H' p'=>⟨xs.length-(i+1),by omega,rfl,hlt,p'⟩,fun x H' y=>?_⟩
  obtain⟨e,y⟩:=y
  subst e
  exact hs i x σ _ (y xs q) p
 ·have e:i=xs.length:=by omega
  subst e
  exact .inl ⟨⟨xs,q,Nat.le_refl _⟩,hd σ H p⟩
theorem jM {lo:Int} {n:Nat} {g:TG} {tb:TS} {D:Ends} {σ:St} {H:Hp} (Pv:Nat→St→Hp→Prop) (h0:Pv 0 σ H)
  (hs:∀i σ H,i<n→Pv i σ H→g (.int (lo+i)) σ H fun σ2 H2=>tb {D with nx:=Pv (i+1),ct:=Pv (i+1),bk:=D.nx} σ2 H2) (hd:∀σ H,Pv n σ H→D.nx σ H):
  ∃W:Nat→Nat→St→Hp→Prop,(∃m,W 0 m σ H)∧∀i m σ H,W i m σ H→
   ((tT lo n).stop i H∧D.nx σ H)∨((tT lo n).go i H∧∃N:St→Hp→Prop,(∀σ' H',N σ' H'→∃m',m'<m∧W (i+1) m' σ' H')∧∀x H',(tT lo n).vy i H x H'→g x σ H' fun σ2 H2=>tb {D with nx:=N,ct:=N,bk:=D.nx} σ2 H2):=by
 refine⟨fun i m σ H=>m=n-i∧i≤n∧Pv i σ H,⟨n,by simp,Nat.zero_le _,h0⟩,?_⟩
 rintro i m σ H ⟨rfl,hi,p⟩
 by_cases hlt:i<n
 ·refine .inr ⟨hlt,Pv (i+1),fun σ' H' p'=>⟨n-(i+1),by omega,rfl,hlt,p'⟩,fun x H' y=>?_⟩
  obtain⟨e,y⟩:=y
  subst e y
  exact hs i σ _ hlt p
 ·have e:i=n:=by omega
  subst e
  exact .inl ⟨Nat.le_refl _,hd σ H p⟩
abbrev R2:=V→V→Hp→VK→Prop
def cW (X:Cx) (f:Value→Value→Sem Value) (r:R2):Prop:=
 ∀(pins:List (Addr×Obj)) (s:Shared) (σ:St) (H:Hp) (x y:V) (v u:Value) (Q:VK),Inv X pins σ H s→RelV x v→RelV y u→r x y H Q→
  wpAny (model X.prog X.w) X.A (f v u) (EP X pins σ Q) X.xe s
def Hl (X:Cx) (f:Value→Sem Value) (r:V→Hp→VK→Prop):Prop:=
 ∀(pins:List (Addr×Obj)) (s:Shared) (σ:St) (H:Hp) (x:V) (v:Value) (Q:VK),Inv X pins σ H s→RelV x v→r x H Q→
  wpAny (model X.prog X.w) X.A (f v) (EP X pins σ Q) X.xe s
def fm (X:Cx) (f:Value) (r:List V→Hp→VK→Prop):Prop:=
 ∀(pins:List (Addr×Obj)) (s:Shared) (σ:St) (H:Hp) (xs:List V) (us:List Value) (Q:VK),Inv X pins σ H s→Vals xs us→r xs H Q→
  wpAny (model X.prog X.w) X.A (call f us) (EP X pins σ Q) X.xe s
def M3 (X:Cx) (r:V→Hp→(Bool→Hp→Prop)→Prop):Prop:=
 ∀(pins:List (Addr×Obj)) (s:Shared) (σ:St) (H:Hp) (x:V) (v:Value) (Q:Bool→Hp→Prop),Inv X pins σ H s→RelV x v→r x H Q→
  wpAny (model X.prog X.w) X.A (truthy v) (TP X pins σ Q) X.xe s
def vD (r:R2) (ta tb:TE):TE:=fun σ H Q=>ta σ H fun x H1=>tb σ H1 fun y H2=>r x y H2 Q
def RG (r:V→Hp→VK→Prop) (ta:TE):TE:=fun σ H Q=>ta σ H fun x H1=>r x H1 Q
def rI (C:Int→Int→Prop) (g:Int→Int→V):R2:=fun x y H Q=>∃i j,x=.int i∧y=.int j∧C i j∧Q (g i j) H
def tU (g:Int→Int→V):R2:=fun x y H Q=>∃i j,x=.int i∧y=.int j∧Q (g i j) H
def rU (g:Int→V):V→Hp→VK→Prop:=fun x H Q=>∃i,x=.int i∧Q (g i) H
section
variable {X:Cx} {a b c:Expr} {ta tb tc:TE} {pos:Pos}
theorem Dw (ha:PE X a ta) (hb:PE X b tb) {pins:List (Addr×Obj)} {s:Shared} {σ:St} {H:Hp} {R:V→V→Hp→Prop} (I:Inv X pins σ H s)
  (h:ta σ H fun x H1=>tb σ H1 fun y H2=>R x y H2) {Q:Value→Shared→Prop} {f:Value→Value→Sem Value}
  (hf:∀v u s2 x y H2,Inv X pins σ H2 s2→RelV x v→RelV y u→R x y H2→wpAny (model X.prog X.w) X.A (f v u) Q X.xe s2):
  wpAny (model X.prog X.w) X.A (eval a X.env) (fun v s₁=>wpAny (model X.prog X.w) X.A (eval b X.env) (fun u s₂=>wpAny (model X.prog X.w) X.A (f v u) Q X.xe s₂) X.xe s₁) X.xe s:=by
 refine aV (ha pins s σ H _ I h) fun v s1 ⟨x,H1,I1,r1,q1⟩=>?_
 refine aV (hb pins s1 σ H1 _ I1 q1) fun u s2 ⟨y,H2,I2,r2,q2⟩=>?_
 exact hf v u s2 x y H2 I2 r1 r2 q2
theorem aD {op:Operator} {r:R2} (ho:cW X (binaryOp op) r) (ha:PE X a ta) (hb:PE X b tb):PE X (.BinOp a op b pos) (vD r ta tb):=by
 intro pins s σ H Q I h
 exact wpAny_BinOp (Dw ha hb I h fun v u s2 x y H2 I2 rx ry q=>ho pins s2 σ H2 x y v u Q I2 rx ry q)
theorem Ab {op:UnaryOp} {r:V→Hp→VK→Prop} (ho:Hl X (unaryOp op) r) (ha:PE X a ta):PE X (.UnaryOp op a pos) (RG r ta):=by
 intro pins s σ H Q I h
 exact UnaryOp_ (aV (ha pins s σ H _ I h) fun v s1 ⟨x,H1,I1,r1,q1⟩=>ho pins s1 σ H1 x v Q I1 r1 q1)
theorem E7 {f:Value→Value→Sem Value} {C:Int→Int→Prop} {g:Int→Int→Int}
  (rule:∀(i j:Int) (t u:Tok) (s:Shared) (Q:Value→Shared→Prop) (E:Value→Shared→Prop),C i j→Q (.int (g i j) s.toks) {s with toks:=s.toks+1}→wpAny (model X.prog X.w) X.A (f (.int i t) (.int j u)) Q E s):
  cW X f (rI C fun i j=>.int (g i j)):=by
 intro pins s σ H x y v u Q I rx ry h
 obtain⟨i,j,rfl,rfl,hc,q⟩:=h
 obtain⟨t,rfl⟩:=rx
 obtain⟨t',rfl⟩:=ry
 exact rule i j t t' s _ _ hc ⟨.int (g i j),H,I.tok _,⟨_,rfl⟩,q⟩
theorem Hm {f:Value→Value→Sem Value} {g:Int→Int→Int}
  (rule:∀(i j:Int) (t u:Tok) (s:Shared) (Q:Value→Shared→Prop) (E:Value→Shared→Prop),Q (.int (g i j) s.toks) {s with toks:=s.toks+1}→wpAny (model X.prog X.w) X.A (f (.int i t) (.int j u)) Q E s):
  cW X f (tU fun i j=>.int (g i j)):=by
 intro pins s σ H x y v u Q I rx ry h
 obtain⟨i,j,rfl,rfl,q⟩:=h
 obtain⟨t,rfl⟩:=rx
 obtain⟨t',rfl⟩:=ry
 exact rule i j t t' s _ _ ⟨.int (g i j),H,I.tok _,⟨_,rfl⟩,q⟩
theorem Ac {f:Value→Value→Sem Value} {g:Int→Int→Bool}
  (rule:∀(i j:Int) (t u:Tok) (s:Shared) (Q:Value→Shared→Prop) (E:Value→Shared→Prop),Q (.bool (g i j)) s→wpAny (model X.prog X.w) X.A (f (.int i t) (.int j u)) Q E s):
  cW X f (tU fun i j=>.bl (g i j)):=by
 intro pins s σ H x y v u Q I rx ry h
 obtain⟨i,j,rfl,rfl,q⟩:=h
 obtain⟨t,rfl⟩:=rx
 obtain⟨t',rfl⟩:=ry
 exact rule i j t t' s _ _ ⟨.bl (g i j),H,I,rfl,q⟩
def M5 (i j:Int):Prop:=0≤j∧j≤1000000∧i.natAbs<2 ^ 64
def Ad (i j:Int):Prop:=(-(2 ^ 64)<i∧i<2 ^ 64)∨(-(2 ^ 64)<j∧j<2 ^ 64)
theorem Ad.ok {i j:Int} (h:Ad i j):IntMulOk i j:=by
 rcases h with⟨h1,h2⟩ | ⟨h1,h2⟩
 ·exact .of_left (intBits_le_64 h1 h2)
 ·exact .of_right (intBits_le_64 h1 h2)
theorem cN:cW X (binaryOp .Add) (tU fun i j=>.int (i+j)):=Hm fun _ _ _ _ _ _ _ q=>add_int q
theorem mJ:cW X (binaryOp .Sub) (tU fun i j=>.int (i-j)):=Hm fun _ _ _ _ _ _ _ q=>sub_int q
theorem gG:cW X (binaryOp .Mult) (rI Ad fun i j=>.int (i*j)):=E7 fun _ _ _ _ _ _ _ hc q=>mul_int q hc.ok
theorem Hn:cW X (binaryOp .Mod) (rI (fun _ j=>0<j) fun i j=>.int (i % j)):=E7 fun i j _ _ _ _ _ hc q=>by
 have h1:(0:Int)<j:=hc
 exact mod_int' (by omega) (by rw[Int.fmod_eq_emod_of_nonneg i (by omega)];exact q)
theorem Ho:cW X (binaryOp .Pow) (rI M5 fun i j=>.int (i ^ j.toNat)):=E7 fun _ _ _ _ _ _ _ hc q=>pow_int_small hc.1 hc.2.1 hc.2.2 q
theorem RH {f:Value→Sem Value} {g:Int→Int}
  (rule:∀(i:Int) (t:Tok) (s:Shared) (Q:Value→Shared→Prop) (E:Value→Shared→Prop),Q (.int (g i) s.toks) {s with toks:=s.toks+1}→wpAny (model X.prog X.w) X.A (f (.int i t)) Q E s):
  Hl X f (rU fun i=>.int (g i)):=by
 intro pins s σ H x v Q I rx h
 obtain⟨i,rfl,q⟩:=h
 obtain⟨t,rfl⟩:=rx
 exact rule i t s _ _ ⟨.int (g i),H,I.tok _,⟨_,rfl⟩,q⟩
theorem vE:Hl X (unaryOp .USub) (rU fun i=>.int (-i)):=RH fun _ _ _ _ _ q=>neg_int q
end
def Hq:V→V→Bool
 | .non,.non=>true | .non,.int _=>true | .int _,.non=>true | .non,.bl _=>true | .bl _,.non=>true | .non,.str _=>true | .str _,.non=>true
 | .int _,.int _=>true | .bl _,.bl _=>true | .str _,.str _=>true | .ko _,.ko _=>true
 | .int _,.str _=>true | .str _,.int _=>true | .bl _,.str _=>true | .str _,.bl _=>true
 | _,_=>false
def RI:R2:=fun x y H Q=>Hq x y=true∧Q (.bl (decide (x=y))) H
def RJ:R2:=fun x y H Q=>Hq x y=true∧Q (.bl (!decide (x=y))) H
theorem yY {i j:Int}:decide (V.int i=V.int j)=(i == j):=by
 rw[Bool.eq_iff_iff]
 simp
theorem BJ {i j:Bool}:decide (V.bl i=V.bl j)=(i == j):=by
 rw[Bool.eq_iff_iff]
 simp
theorem yZ {i j:Str}:decide (V.str i=V.str j)=(i == j):=by
 rw[Bool.eq_iff_iff]
 simp
theorem y_ {i j:Array UInt8}:decide (V.ko i=V.ko j)=(i.toList == j.toList):=by
 rw[Bool.eq_iff_iff]
 cases i
 cases j
 simp
section
variable {X:Cx} {a b c:Expr} {ta tb tc:TE} {pos:Pos}
theorem bG {pins:List (Addr×Obj)} {σ:St} {H:Hp} {s:Shared} {Q:VK} {k k':Bool} (I:Inv X pins σ H s) (q:Q (.bl k) H) (e:k=k'):EP X pins σ Q (.bool k') s:=by
 subst e
 exact⟨.bl k,H,I,rfl,q⟩
theorem cb:cW X (compareOp .Eq) RI:=by
 intro pins s σ H x y v u Q I rx ry h
 obtain⟨hs,q⟩:=h
 cases x with
 | non=>
  cases rx
  cases y with
  | non=>cases ry;exact PySem.EqNone.eq_none_none (bG I q (by simp))
  | bl j=>cases ry;exact PySem.EqNone.eq_none_bool (bG I q (by simp))
  | int j=>obtain⟨t',rfl⟩:=ry;exact PySem.EqNone.eq_none_int (bG I q (by simp))
  | str j=>obtain⟨t',rfl⟩:=ry;exact PySem.EqNone.eq_none_str (bG I q (by simp))
  | _=>exact absurd (show false=true from hs) Bool.false_ne_true
 | bl i=>
  cases rx
  cases y with
  | non=>cases ry;exact PySem.EqNone.eq_bool_none (bG I q (by simp))
  | bl j=>cases ry;exact eq_bool (bG I q BJ)
  | str j=>obtain⟨t',rfl⟩:=ry;exact PySem.EqMixed.eq_bool_str (bG I q (by simp))
  | _=>exact absurd (show false=true from hs) Bool.false_ne_true
 | int i=>
  obtain⟨t,rfl⟩:=rx
  cases y with
  | non=>cases ry;exact PySem.EqNone.eq_int_none (bG I q (by simp))
  | int j=>obtain⟨t',rfl⟩:=ry;exact eq_int (bG I q yY)
  | str j=>obtain⟨t',rfl⟩:=ry;exact PySem.EqMixed.eq_int_str (bG I q (by simp))
  | _=>exact absurd (show false=true from hs) Bool.false_ne_true
 | str i=>
  obtain⟨t,rfl⟩:=rx
  cases y with
  | non=>cases ry;exact PySem.EqNone.eq_str_none (bG I q (by simp))
  | bl j=>cases ry;exact PySem.EqMixed.eq_str_bool (bG I q (by simp))
  | int j=>obtain⟨t',rfl⟩:=ry;exact PySem.EqMixed.eq_str_int (bG I q (by simp))
  | str j=>obtain⟨t',rfl⟩:=ry;exact eq_str (bG I q yZ)
  | _=>exact absurd (show false=true from hs) Bool.false_ne_true
 | ko i=>
  obtain⟨t,rfl⟩:=rx
  cases y with
  | ko j=>obtain⟨t',rfl⟩:=ry;exact PySem.W.eq_bytes (bG I q y_)
  | _=>exact absurd (show false=true from hs) Bool.false_ne_true
 | _=>cases y<;>exact absurd (show false=true from hs) Bool.false_ne_true
theorem nj:cW X (compareOp .NotEq) RJ:=by
 intro pins s σ H x y v u Q I rx ry h
 obtain⟨hs,q⟩:=h
 cases x with
 | non=>
  cases rx
  cases y with
  | non=>cases ry;exact PySem.EqNone.ne_none_none (bG I q (by simp))
  | bl j=>cases ry;exact PySem.EqNone.ne_none_bool (bG I q (by simp))
  | int j=>obtain⟨t',rfl⟩:=ry;exact PySem.EqNone.ne_none_int (bG I q (by simp))
  | str j=>obtain⟨t',rfl⟩:=ry;exact PySem.EqNone.ne_none_str (bG I q (by simp))
  | _=>exact absurd (show false=true from hs) Bool.false_ne_true
 | bl i=>
  cases rx
  cases y with
  | non=>cases ry;exact PySem.EqNone.ne_bool_none (bG I q (by simp))
  | bl j=>cases ry;exact ne_bool (bG I q (congrArg not BJ))
  | str j=>obtain⟨t',rfl⟩:=ry;exact PySem.EqMixed.ne_bool_str (bG I q (by simp))
  | _=>exact absurd (show false=true from hs) Bool.false_ne_true
 | int i=>
  obtain⟨t,rfl⟩:=rx
  cases y with
  | non=>cases ry;exact PySem.EqNone.ne_int_none (bG I q (by simp))
  | int j=>obtain⟨t',rfl⟩:=ry;exact ne_int (bG I q (congrArg not yY))
  | str j=>obtain⟨t',rfl⟩:=ry;exact PySem.EqMixed.ne_int_str (bG I q (by simp))
  | _=>exact absurd (show false=true from hs) Bool.false_ne_true
 | str i=>
  obtain⟨t,rfl⟩:=rx
  cases y with
  | non=>cases ry;exact PySem.EqNone.ne_str_none (bG I q (by simp))
  | bl j=>cases ry;exact PySem.EqMixed.ne_str_bool (bG I q (by simp))
  | int j=>obtain⟨t',rfl⟩:=ry;exact PySem.EqMixed.ne_str_int (bG I q (by simp))
  | str j=>obtain⟨t',rfl⟩:=ry;exact ne_str (bG I q (congrArg not yZ))
  | _=>exact absurd (show false=true from hs) Bool.false_ne_true
 | ko i=>
  obtain⟨t,rfl⟩:=rx
  cases y with
  | ko j=>obtain⟨t',rfl⟩:=ry;exact PySem.W.ne_bytes (bG I q (congrArg not y_))
  | _=>exact absurd (show false=true from hs) Bool.false_ne_true
 | _=>cases y<;>exact absurd (show false=true from hs) Bool.false_ne_true
theorem p9:cW X (compareOp .Lt) (tU fun i j=>.bl (decide (i<j))):=Ac fun _ _ _ _ _ _ _ q=>lt_int q
theorem E8:cW X (compareOp .LtE) (tU fun i j=>.bl (decide (i≤j))):=Ac fun _ _ _ _ _ _ _ q=>le_int q
theorem nq:cW X (compareOp .Gt) (tU fun i j=>.bl (decide (j<i))):=Ac fun _ _ _ _ _ _ _ q=>gt_int q
theorem KJ:cW X (compareOp .GtE) (tU fun i j=>.bl (decide (j≤i))):=Ac fun _ _ _ _ _ _ _ q=>ge_int q
theorem tV:cW X (compareOp .In) (fun x y H Q=>∃i j,x=.str i∧y=.str j∧Q (.bl (!(Builtin.Str.occurrences j i 0 j.length 1).isEmpty)) H):=by
 intro pins s σ H x y v u Q I rx ry h
 obtain⟨i,j,rfl,rfl,q⟩:=h
 obtain⟨t,rfl⟩:=rx
 obtain⟨t',rfl⟩:=ry
 exact in_str (bG I q rfl)
theorem Hr:cW X (compareOp .Is) (fun x y H Q=>y=.non∧Q (.bl (decide (x=.non))) H):=by
 intro pins s σ H x y v u Q I rx ry h
 obtain⟨rfl,q⟩:=h
 cases ry
 refine is_none_gen (bG I q ?_)
 cases x<;>first
  | (cases rx;rfl)
  | (obtain⟨t,rfl⟩:=rx;rfl)
theorem GB:cW X (compareOp .IsNot) (fun x y H Q=>y=.non∧Q (.bl (!decide (x=.non))) H):=by
 intro pins s σ H x y v u Q I rx ry h
 obtain⟨rfl,q⟩:=h
 cases ry
 refine isnot_none_gen (bG I q ?_)
 cases x<;>first
  | (cases rx;rfl)
  | (obtain⟨t,rfl⟩:=rx;rfl)
theorem vF:cW X (compareOp .NotIn) (fun x y H Q=>∃i j,x=.str i∧y=.str j∧Q (.bl (!(!(Builtin.Str.occurrences j i 0 j.length 1).isEmpty))) H):=by
 intro pins s σ H x y v u Q I rx ry h
 obtain⟨i,j,rfl,rfl,q⟩:=h
 obtain⟨t,rfl⟩:=rx
 obtain⟨t',rfl⟩:=ry
 exact notIn_str (bG I q rfl)
theorem aN (b:Expr) {op:CmpOp} (h:op≠.In:=by decide) (h2:op≠.NotIn:=by decide):behindInMarks op b=false:=by
 have e1:(op == CmpOp.In)=false:=by cases op<;>first | rfl | exact absurd rfl h
 have e2:(op == CmpOp.NotIn)=false:=by cases op<;>first | rfl | exact absurd rfl h2
 cases b<;>simp[behindInMarks,e1,e2]
theorem gg {op:CmpOp} {r:R2} (ho:cW X (compareOp op) r) (ha:PE X a ta) (hb:PE X b tb) (hm:behindInMarks op b=false):PE X (.Compare a [op] [b] pos) (vD r ta tb):=by
 intro pins s σ H Q I h
 exact wpAny_Compare1 (Dw ha hb I h fun v u s2 x y H2 I2 rx ry q=>ho pins s2 σ H2 x y v u Q I2 rx ry q) hm
def E9 (t:TE):TT:=fun σ H Q=>t σ H fun x H'=>∃k,x=.bl k∧Q k H'
theorem aJ {op:CmpOp} {r:R2} (ho:cW X (compareOp op) r) (ha:PE X a ta) (hb:PE X b tb) (hm:behindInMarks op b=false):PT X (.Compare a [op] [b] pos) (E9 (vD r ta tb)):=by
 intro pins s σ H Q I h
 refine wpAny_isTrue_Compare1 (aV (ha pins s σ H _ I h) fun v s1 ⟨x,H1,I1,r1,q1⟩=>aV (hb pins s1 σ H1 _ I1 q1) fun u s2 ⟨y,H2,I2,r2,q2⟩=>
  aV (ho pins s2 σ H2 x y v u _ I2 r1 r2 q2) fun c s3 ⟨z,H3,I3,r3,k,e,q3⟩=>?_) hm
 subst e
 cases r3
 exact wpAny_truthy_bool ⟨H3,I3,q3⟩
def Hs (r r':R2) (ta tb tc:TE):TE:=fun σ H Q=>ta σ H fun x H1=>tb σ H1 fun y H2=>r x y H2 fun z H3=>∃k,z=.bl k∧
 (if k=true then tc σ H3 fun w' H4=>r' y w' H4 Q else Q (.bl false) H3)
theorem Dx {op op':CmpOp} {r r':R2} (ho:cW X (compareOp op) r) (ho':cW X (compareOp op') r') (ha:PE X a ta) (hb:PE X b tb) (hc:PE X c tc)
  (hm:lastMarks [op,op'] [b,c]=false:=by with_unfolding_all rfl):PT X (.Compare a [op,op'] [b,c] pos) (E9 (Hs r r' ta tb tc)):=by
 intro pins s σ H Q I h
 refine isTrue_chain (aV (ha pins s σ H _ I h) fun v s1 ⟨x,H1,I1,r1,q1⟩=>test_link (aV (hb pins s1 σ H1 _ I1 q1) fun u s2 ⟨y,H2,I2,r2,q2⟩=>
  aV (ho pins s2 σ H2 x y v u _ I2 r1 r2 q2) fun d s3 ⟨z,H3,I3,r3,k,e,q3⟩=>?_)) hm
 subst e
 cases r3
 refine wpAny_truthy_bool ?_
 cases k with
 | false=>
  obtain⟨k',e',q'⟩:=q3
  cases e'
  exact ite_ff ⟨H3,I3,q'⟩
 | true=>
  refine ite_tt (test_last (aV (hc pins s3 σ H3 _ I3 q3) fun w' s4 ⟨z',H4,I4,r4,q4⟩=>aV (ho' pins s4 σ H4 y z' u w' _ I4 r2 r4 q4) fun d' s5 ⟨z2,H5,I5,r5,k2,e2,q5⟩=>?_))
  subst e2
  cases r5
  exact wpAny_truthy_bool ⟨H5,I5,q5⟩
def Ht (K:PySem.W.Frag) (x:V) (H:Hp) (k:Bool):Prop:=
 match x with
 | .non=>k=false
 | .bl b=>k=b
 | .int i=>k=(i != 0)
 | .str y=>y.length≤sizeLine∧k=((y.length:Int) != 0)
 | .ko y=>y.size≤sizeLine∧k=((y.size:Int) != 0)
 | .ref p=>(∃xs,bW K H p xs∧k= !xs.isEmpty)∨(∃xs,bY K H p xs∧k= !xs.isEmpty)∨∃kvs,H p=some (.dK kvs)∧k= !kvs.isEmpty
 | _=>False
theorem Ae {κ:Type} {kvs:List (κ×V)} {vs:List (κ×Value)} (r:KV kvs vs):(!vs.isEmpty)= !kvs.isEmpty:=by
 cases r<;>rfl
theorem rB {xs:List V} {its:List Value} (r:Vals xs its):(!its.toArray.isEmpty)= !xs.isEmpty:=by
 cases r<;>simp
theorem mK:(sizeLine:Nat)<2 ^ 63:=by rw[sizeLine_eq];decide
theorem Hu:M3 X (fun x H Q=>∃k,Ht X.K x H k∧Q k H):=by
 intro pins s σ H x v Q I rx h
 obtain⟨k,e,q⟩:=h
 have hl:=mK
 have hs:sizeLine=16777216:=sizeLine_eq
 cases x with
 | non=>
  cases rx
  have e':k=false:=e
  subst e'
  exact truthy_none ⟨H,I,q⟩
 | bl b=>
  cases rx
  have e':k=b:=e
  subst e'
  exact wpAny_truthy_bool ⟨H,I,q⟩
 | int i=>
  obtain⟨t,rfl⟩:=rx
  have e':k=(i != 0):=e
  subst e'
  exact PySem.P.truthy_int ⟨H,I,q⟩
 | str y=>
  obtain⟨t,rfl⟩:=rx
  obtain⟨hy,e'⟩:y.length≤sizeLine∧k=((y.length:Int) != 0):=e
  subst e'
  exact PySem.P.truthy_str (by omega) ⟨H,I.tok _,q⟩
 | ko y=>
  obtain⟨t,rfl⟩:=rx
  obtain⟨hy,e'⟩:y.size≤sizeLine∧k=((y.size:Int) != 0):=e
  subst e'
  exact PySem.W.truthy_bytes (by omega) ⟨H,I.tok _,q⟩
 | ref p=>
  cases rx
  have e':(∃xs,bW X.K H p xs∧k= !xs.isEmpty)∨(∃xs,bY X.K H p xs∧k= !xs.isEmpty)∨∃kvs,H p=some (.dK kvs)∧k= !kvs.isEmpty:=e
  rcases e' with⟨xs,hx,e'⟩ | ⟨xs,hx,e'⟩ | ⟨kvs,hx,e'⟩
  ·subst e'
   obtain⟨its,r,pl,hz⟩:=I.list hx
   have hlen:=r.length
   exact wpAny_truthy_list pl.isList (by simp only[List.size_toArray];omega) ⟨H,I.tok _,by rw[rB r];exact q⟩
  ·subst e'
   obtain⟨its,r,pl,hz⟩:=I.tuple hx
   have hlen:=r.length
   exact truthy_tuple pl (by simp only[List.size_toArray];omega) ⟨H,I.tok _,by rw[rB r];exact q⟩
  ·subst e'
   obtain⟨hz,hS,vs,r,m⟩:kvs.length≤sizeLine∧(p == sysModules)=false∧∃vs,KV kvs vs∧s.heap.DictOf (dE X.prog X.w) p vs:=I.hok p _ hx
   have hlen:kvs.length=vs.length:=Paired.length r
   exact wpAny_truthy_dict hS m (by omega) ⟨H,I.tok _,by rw[Ae r];exact q⟩
 | _=>exact(show False from e).elim
theorem cI (ha:PE X a ta) (he:∀whole,isTrue a X.env whole=(do let v ←whole;standAt a.pos;holding [v] (truthy v))):
  PT X a (fun σ H Q=>ta σ H fun x H'=>∃k,Ht X.K x H' k∧Q k H'):=by
 intro pins s σ H Q I h
 exact isTrue_plain (aV (ha pins s σ H _ I h) fun v s1 ⟨x,H1,I1,r1,q1⟩=>Hu pins s1 σ H1 x v Q I1 r1 q1) (he _)
theorem aO:cW X (binaryOp .Add) (fun x y H Q=>∃i j,x=.str i∧y=.str j∧i.length+j.length≤sizeLine∧Q (.str (i++j)) H):=by
 intro pins s σ H x y v u Q I rx ry h
 obtain⟨i,j,rfl,rfl,hz,q⟩:=h
 obtain⟨t,rfl⟩:=rx
 obtain⟨t',rfl⟩:=ry
 exact add_str (fun t' tk=>⟨.str (i++j),H,I.tok _,⟨_,rfl⟩,q⟩) hz
theorem vals1 {x:V} {us:List Value} (r:Vals [x] us):∃u,us=[u]∧RelV x u:=by
 cases r with
 | cons r1 r2=>cases r2;exact⟨_,rfl,r1⟩
theorem vals2 {x y:V} {us:List Value} (r:Vals [x,y] us):∃u w',us=[u,w']∧RelV x u∧RelV y w':=by
 cases r with
 | cons r1 r2=>
  cases r2 with
  | cons r3 r4=>cases r4;exact⟨_,_,rfl,r1,r3⟩
theorem tW (hc:X.calm=true):fm X (.builtin "min") (fun xs H Q=>∃i j,xs=[.int i,.int j]∧Q (.int (if j<i then j else i)) H):=by
 intro pins s σ H xs us Q I r h
 obtain⟨i,j,rfl,q⟩:=h
 obtain⟨u,w',rfl,⟨t,rfl⟩,⟨t',rfl⟩⟩:=vals2 r
 refine min_two_ints (I.ok.hd hc) fun h' tk k=>⟨_,H,I.kept k,?_,q⟩
 by_cases hj:j<i
 ·rw[if_pos hj,if_pos hj];exact⟨_,rfl⟩
 ·rw[if_neg hj,if_neg hj];exact⟨_,rfl⟩
theorem lK:fm X (.type "int") (fun xs H Q=>(∃i,xs=[.int i]∧Q (.int i) H)∨∃k,xs=[.bl k]∧Q (.int (if k then 1 else 0)) H):=by
 intro pins s σ H xs us Q I r h
 rcases h with⟨i,rfl,q⟩ | ⟨k,rfl,q⟩
 ·obtain⟨u,rfl,t,rfl⟩:=vals1 r
  exact call_int_int ⟨.int i,H,I,⟨_,rfl⟩,q⟩
 ·obtain⟨u,rfl,r1⟩:=vals1 r
  cases r1
  exact call_int_bool ⟨.int (if k then 1 else 0),H,I.tok _,⟨_,rfl⟩,q⟩
theorem iL:fm X (.type "str") (fun xs H Q=>∃i,xs=[.int i]∧i.natAbs.log2<1920∧Q (.str (toString i)) H):=by
 intro pins s σ H xs us Q I r h
 obtain⟨i,rfl,hz,q⟩:=h
 obtain⟨u,rfl,t,rfl⟩:=vals1 r
 exact PySem.P.str_of_int hz ⟨.str _,H,I.tok _,⟨_,rfl⟩,q⟩
def Dy (K:PySem.W.Frag) (x:V) (H:Hp) (n:Nat):Prop:=
 match x with
 | .str y=>y.length≤sizeLine∧n=y.length
 | .ko y=>y.size≤sizeLine∧n=y.size
 | .ref p=>(∃xs,bW K H p xs∧n=xs.length)∨∃xs,bY K H p xs∧n=xs.length
 | _=>False
theorem Dz:fm X (.builtin "len") (fun xs H Q=>∃x n,xs=[x]∧Dy X.K x H n∧Q (.int n) H):=by
 intro pins s σ H xs us Q I r h
 obtain⟨x,n,rfl,e,q⟩:=h
 obtain⟨u,rfl,rx⟩:=vals1 r
 have hl:=mK
 have hs:sizeLine=16777216:=sizeLine_eq
 cases x with
 | str y=>
  obtain⟨t,rfl⟩:=rx
  obtain⟨hy,e'⟩:y.length≤sizeLine∧n=y.length:=e
  subst e'
  exact len_str (by omega) ⟨.int _,H,I.tok _,⟨_,rfl⟩,q⟩
 | ko y=>
  obtain⟨t,rfl⟩:=rx
  obtain⟨hy,e'⟩:y.size≤sizeLine∧n=y.size:=e
  subst e'
  exact PySem.W.len_bytes (by omega) ⟨.int _,H,I.tok _,⟨_,rfl⟩,q⟩
 | ref p=>
  cases rx
  have e':(∃xs,bW X.K H p xs∧n=xs.length)∨∃xs,bY X.K H p xs∧n=xs.length:=e
  rcases e' with⟨xs,hx,e'⟩ | ⟨xs,hx,e'⟩
  ·subst e'
   obtain⟨its,r',pl,hz⟩:=I.list hx
   have hlen:=r'.length
   exact Calls.call_len_list pl.isList (by simp only[List.size_toArray];omega) ⟨.int xs.length,H,I.tok _,⟨_,by simp only[List.size_toArray];rw[hlen]⟩,q⟩
  ·subst e'
   obtain⟨its,r',pl,hz⟩:=I.tuple hx
   have hlen:=r'.length
   exact len_tuple pl (by simp only[List.size_toArray];omega) ⟨.int xs.length,H,I.tok _,⟨_,by simp only[List.size_toArray];rw[hlen]⟩,q⟩
 | _=>exact(show False from e).elim
end
structure DA (h:Heap) (x dx C:Addr) (mA:Str→Option Value):Prop where
 obj:h.get? x=some (PySem.W.instObj C dx)
 ns:h.Ns1 dx mA
 ne:dx≠x
theorem BK {h:Heap} {dx:Addr} {mA:Str→Option Value} (n:h.Ns1 dx mA):∃od,h.get? dx=some od∧∀name,PySem.W.lookIn name od=some (mA name):=by
 obtain⟨o,es,ep,ho,hd,hk,_,hm⟩:=n
 refine⟨o,ho,fun name=>?_⟩
 have e:=hm name
 unfold nsFind findBy at e
 rw[←Array.find?_toList] at e
 unfold PySem.W.lookIn
 rw[hd]
 dsimp only
 split
 ·rename_i y q
  rw[q] at e
  exact congrArg some e
 ·rename_i q
  rw[q] at e
  have a:es.toList.any (·.refKey)=false:=by
   rw[List.any_eq_false]
   intro y hy
   obtain⟨z,t,hkey⟩:=hk y (Array.mem_toList_iff.mp hy)
   simp[DictEntry.refKey,hkey]
  have a':¬es.toList.any (·.refKey)=true:=by rw[a];exact Bool.false_ne_true
  rw[if_neg a']
  exact congrArg some e
theorem DA.look {h:Heap} {x dx C:Addr} {mA:Str→Option Value} (I:DA h x dx C mA):∃od,PySem.W.InstAt h x (PySem.W.instObj C dx) C (some od)∧∀name,PySem.W.lookIn name od=some (mA name):=
 let ⟨od,ho,hl⟩:=BK I.ns
 ⟨od,⟨I.obj,rfl,rfl,ho⟩,hl⟩
theorem iI.some_of {v:V} {o:Option Value} (r:iI (some v) o):∃u,o=some u∧RelV v u:=by
 cases o with
 | none=>exact(show False from r).elim
 | some u=>exact⟨u,rfl,r⟩
theorem iI.none_of {o:Option Value} (r:iI none o):o=none:=by
 cases o with
 | none=>rfl
 | some u=>exact(show False from r).elim
section
variable {P:Program} {w:World} {H H':Hp} {h h':Heap} {a C dx:Addr} {fs fs':List (Str×V)}
theorem GC (hok:dZ P w H h) (e:H a=some (.ins C dx fs)):∃mA,DA h a dx C mA∧(∀f,iI (fs.lookup f) (mA f))∧PySem.Within mA (fs.map (·.1))∧fs.length≤1000∧H dx=some (.own a):=by
 obtain⟨d,z,ne,ob,mA,n,r,q⟩:=(show b_ P w H h a (.ins C dx fs) from hok a _ e)
 exact⟨mA,⟨ob,n,ne⟩,r,q,z,d⟩
end
structure Cls (K:PySem.W.Frag) (C:Addr):Prop where
 pg:PySem.W.plainGet K C Str.empty=true
 hd:PySem.W.hasDictIn K C=true
 po:PySem.W.plainOver K C=true
 sa:PySem.W.findIn K (.ref C) "__setattr__"=some (some (.builtin "object.__setattr__"))
theorem Cls.get {K:PySem.W.Frag} {C:Addr} (c:Cls K C) (f:Str):PySem.W.plainGet K C f=true:=c.pg
section
variable {X:Cx} {pins:List (Addr×Obj)} {σ:St} {H:Hp} {s:Shared} {A:Around} {E:Value→Shared→Prop} {Q:Value→Shared→Prop} {c:Value} {b:Bool}
inductive il (K:PySem.W.Frag) (H:Hp):V→Value→Prop where
 | non:il K H .non (.type "NoneType")
 | bl (x:Bool):il K H (.bl x) (.type "bool")
 | int (i:Int):il K H (.int i) (.type "int")
 | str (x:Str):il K H (.str x) (.type "str")
 | flt (x:UInt64):il K H (.flt x) (.type "float")
 | lst {a:Addr} {xs:List V} (e:H a=some (.lst xs)):il K H (.ref a) (.type "list")
 | lI {a:Addr} {o:Obj} {xs:List V} (e:H a=some (.lI o (.lst xs))):il K H (.ref a) (.type "list")
 | tup {a:Addr} {xs:List V} (e:H a=some (.tup xs)):il K H (.ref a) (.type "tuple")
 | dK {a:Addr} {kvs:List (Key×V)} (e:H a=some (.dK kvs)):il K H (.ref a) (.type "dict")
 | dT {a:Addr} {kvs:List (List Key×V)} (e:H a=some (.dT kvs)):il K H (.ref a) (.type "dict")
 | ins {a C dx:Addr} {fs:List (Str×V)} (e:H a=some (.ins C dx fs)) (cl:Cls K C) (ha:PySem.W.findIn K (.ref C) "__class__"=some (some (.builtin "object.__class__")))
   (hn:PySem.W.specialIn K (.builtin "object.__class__") "__get__"=some (some (.builtin "getset_descriptor.__get__"))) (htk:PySem.W.takesIn K (.builtin "object.__class__")=some true)
   (hm:PySem.W.mroIn K C (.type "object")=some true):il K H (.ref a) (.ref C)
theorem BL {x:V} {u t:Value} (I:Inv X pins σ H s) (rx:RelV x u) (ty:il X.K H x t) (e:PySem.W.kitOne X.K t c=some b) (h:∀tk,Q (.bool b) {s with toks:=tk}):
  wpAny (model X.prog X.w) A (call (.builtin "isinstance") [u,c]) Q E s:=by
 cases ty with
 | non=>cases(show u=Value.none from rx);exact PySem.W.kia_one PySem.W.kitx_none I.fJ True.intro e (fun z=>nomatch z) h
 | bl y=>cases(show u=Value.bool y from rx);exact PySem.W.kia_one PySem.W.kitx_bool I.fJ True.intro e (fun z=>nomatch z) h
 | int i=>obtain⟨t,q⟩:=(show ∃t,u=Value.int i t from rx);cases q;exact PySem.W.kia_one PySem.W.kitx_int I.fJ True.intro e (fun z=>nomatch z) h
 | str y=>obtain⟨t,q⟩:=(show ∃t,u=Value.str y t from rx);cases q;exact PySem.W.kia_one PySem.W.kitx_str I.fJ True.intro e (fun z=>nomatch z) h
 | flt y=>obtain⟨t,q⟩:=(show ∃t,u=Value.float y t from rx);cases q;exact PySem.W.kia_one PySem.W.kitx_float I.fJ True.intro e (fun z=>nomatch z) h
 | @lst a xs ea=>
  cases(show u=Value.ref a from rx)
  obtain⟨_,_,n,_,h1⟩:=(show b_ X.prog X.w H s.heap a (.lst xs) from I.hok a _ ea)
  exact PySem.W.kia_one PySem.W.kitx_list I.fJ ⟨_,h1,rfl⟩ e (fun z=>nomatch z) h
 | @lI a ob xs ea=>
  cases(show u=Value.ref a from rx)
  obtain⟨_,_,_,n,_,h1⟩:=(show b_ X.prog X.w H s.heap a (.lI ob (.lst xs)) from I.hok a _ ea)
  exact PySem.W.kia_one PySem.W.kitx_list I.fJ ⟨_,h1,rfl⟩ e (fun z=>nomatch z) h
 | @tup a xs ea=>
  cases(show u=Value.ref a from rx)
  obtain⟨_,_,_,p⟩:=(show b_ X.prog X.w H s.heap a (.tup xs) from I.hok a _ ea)
  obtain⟨o,h1,h2,_⟩:=p
  exact PySem.W.kia_one PySem.W.kitx_tuple I.fJ ⟨o,h1,h2⟩ e (fun z=>nomatch z) h
 | @dK a kvs ea=>
  cases(show u=Value.ref a from rx)
  obtain⟨_,_,vs,_,p⟩:=(show b_ X.prog X.w H s.heap a (.dK kvs) from I.hok a _ ea)
  obtain⟨o,es,ep,h1,h2,_⟩:=p
  exact PySem.W.kia_one PySem.W.kitx_dict I.fJ ⟨o,h1,h2.1⟩ e (fun z=>nomatch z) h
 | @dT a kvs ea=>
  cases(show u=Value.ref a from rx)
  obtain⟨_,_,xs,_,o,es,ep,h1,h2,_⟩:=(show b_ X.prog X.w H s.heap a (.dT kvs) from I.hok a _ ea)
  exact PySem.W.kia_one PySem.W.kitx_dict I.fJ ⟨o,h1,h2.1⟩ e (fun z=>nomatch z) h
 | @ins a C dx fs ea cl ha hn htk hm=>
  cases(show u=Value.ref a from rx)
  obtain⟨mA,O,_⟩:=GC I.hok ea
  obtain⟨od,J,_⟩:=O.look
  exact PySem.W.kia_one (PySem.W.kitx_own (cl.get _) cl.hd ha hn htk hm) I.fJ J e (fun z=>nomatch z) h
end
structure aP (k:Nat) (A:Around):Prop where
 hd:A.handled=none
 dp:A.depth+3*k+5<recursionLimit
 un:A.units+16*k+200<cLine
 gd:A.guards=some []
theorem aP.mono {j k:Nat} {A:Around} (r:aP k A) (h:j≤k):aP j A:=⟨r.hd,by have:=r.dp;omega,by have:=r.un;omega,r.gd⟩
theorem aP.deeper {k:Nat} {A:Around} (r:aP (k+1) A) (env:Env):aP k (A.deeper env):=
 ⟨r.hd,by have:=r.dp;show A.depth+1+3*k+5<_;omega,by have:=r.un;show A.units+3+16*k+200<_;omega,r.gd⟩
theorem Af {A:Around} {C:Addr} {us:List Value} {kw:List (Str×Value)}:(A.under (.builtin "type.__call__" ⟨.ref C::us,kw⟩)).depth=A.depth+1:=by
 first | rfl | simp[Around.under,Code.weight,Code.isCreation,Code.isGuard,Code.isCaller,Code.frames,Code.isFrame,guardIds]
theorem Ag {A:Around} {C:Addr} {us:List Value} {kw:List (Str×Value)}:(A.under (.builtin "type.__call__" ⟨.ref C::us,kw⟩)).units=A.units+1:=by
 first | rfl | simp[Around.under,Code.cUnits,Code.frames,Code.isFrame]
theorem aP.make {k:Nat} {A:Around} (r:aP (k+1) A) (C:Addr) (us:List Value) (kw:List (Str×Value)):aP k (A.under (.builtin "type.__call__" ⟨.ref C::us,kw⟩)):=
 ⟨r.hd,by have:=r.dp;rw[Af];omega,by have:=r.un;rw[Ag];omega,by first | exact r.gd | (show pushGuards _ A.guards=_;rw[r.gd];rfl) | simp[Around.under,r.gd]⟩
theorem aP.depth {k:Nat} {A:Around} (r:aP k A):A.depth<recursionLimit:=by have:=r.dp;omega
theorem aP.units {k:Nat} {A:Around} (r:aP k A):A.units+64<cLine:=by have:=r.un;omega
def iM:TA:=fun _ H Q=>Q [] H
def h8 (ta:TE) (tr:TA):TA:=fun σ H Q=>ta σ H fun x H1=>tr σ H1 fun xs H2=>Q (x::xs) H2
section
variable {X:Cx} {e:Expr} {es:List Expr} {te:TE} {t:TA} {pos:Pos}
theorem af:PA X [] iM:=fun _ _ _ _ H Q I h=>Calls.spliced_nil ⟨[],H,I,.nil,h⟩
theorem ae (ha:PE X e te) (hr:PA X es t) (hs:starEach (e::es) X.env=(false,eval e X.env)::starEach es X.env:=by rfl):PA X (e::es) (h8 te t):=by
 intro pos pins s σ H Q I h
 rw[hs]
 show wpAny _ _ (spliced ((false,eval e X.env)::backTo pos (starEach es X.env))) _ _ s
 refine Calls.spliced_cons (aV (ha pins s σ H _ I h) fun u s1 ⟨x,H1,I1,r1,q1⟩=>?_)
 exact aV (hr pos pins s1 σ H1 _ I1 q1) fun us s2 ⟨xs,H2,I2,r2,q2⟩=>⟨x::xs,H2,I2,.cons r1 r2,q2⟩
def DB (t:TA):TE:=fun σ H Q=>t σ H fun xs H1=>xs.length≤sizeLine∧∀p,H1 p=none→Q (.ref p) (upd H1 p (.tup xs))
def Hv (t:TA):TE:=fun σ H Q=>t σ H fun xs H1=>xs.length≤sizeLine∧∀p,H1 p=none→Q (.ref p) (upd H1 p (.lst xs))
theorem aX {x1} (h:PA X es t):PE X (.Tuple es x1 pos) (DB t):=by
 intro pins s σ H Q I hq
 refine wpAny_Tuple_spliced (aV (h pos pins s σ H _ I hq) fun us s1 ⟨xs,H1,I1,r,z,q⟩=>⟨by rw[←r.length];exact z,?_⟩)
 have hf:H1 s1.heap.objs.size=none:=I1.hok.fresh (Nat.le_refl _)
 refine⟨.ref s1.heap.objs.size,upd H1 s1.heap.objs.size (.tup xs),I1.laid (t':=s1.toks) (fun b u e=>Heap.get?_push_of_some _ e) (Nat.le_refl _) ?_,rfl,q _ hf⟩
 exact⟨⟨z,_,Heap.get?_push_size _ rfl,rfl⟩,us,r,⟨_,Heap.get?_push_size _ rfl,rfl,_,rfl⟩⟩
theorem cx (h:PA X es t):PE X (.List es pos) (Hv t):=by
 intro pins s σ H Q I hq
 refine wpAny_List_spliced (aV (h pos pins s σ H _ I hq) fun us s1 ⟨xs,H1,I1,r,z,q⟩=>⟨by rw[←r.length];exact z,?_⟩)
 have hf:H1 s1.heap.objs.size=none:=I1.hok.fresh (Nat.le_refl _)
 refine⟨.ref s1.heap.objs.size,upd H1 s1.heap.objs.size (.lst xs),I1.laid (t':=s1.toks) (fun b u e=>Heap.get?_push_of_some _ e) (Nat.le_refl _) ?_,rfl,q _ hf⟩
 exact⟨z,us,0,r,Heap.get?_push_size _ rfl⟩
end
abbrev Sp:=List V→Hp→VK→XK→Prop
abbrev oy:=List Env→Hp→Shared→XK→Value→Shared→Prop
structure qG (P:Program) (w:World) (K:PySem.W.Frag) (mg:Str→Option Value) (base:Heap) (A:Around) (outer:List Env) (s:Shared) (H:Hp):Prop where
 frames:A.frames=some outer
 mod:Mod K mg base
 bs:∀b o,base.get? b=some o→s.heap.get? b=some o∧H b=none
 rq:base.objs.size≤s.heap.objs.size
 jX:s.heap.FunFrames base outer
 vm:∀b∈frs outer,H b=none
 hok:dZ P w H s.heap
 bare:AllBare s.gens
def CE (outer:List Env) (P:Program) (w:World) (H:Hp) (s:Shared) (Q:VK) (u:Value) (s':Shared):Prop:=
 ∃v H',s'.os=s.os∧AllBare s'.gens∧Un (frs outer) [] H H' s.heap s'.heap∧dZ P w H' s'.heap∧RelV v u∧Q v H'
def CR (CX:oy) (outer:List Env) (P:Program) (w:World) (H:Hp) (s:Shared) (Q:VK) (E:XK) (r:Result) (s':Shared):Prop:=
 match r with
 | .ok (.ret u)=>CE outer P w H s Q u s'
 | .ok _=>False
 | .error e=>CX outer H s E e s'
structure aR (P:Program) (w:World) (K:PySem.W.Frag) (mg:Str→Option Value) (base:Heap) (CX:oy) (k:Nat) (f:Addr) (fd:FuncData) (ps:List Str) (sp:Sp):Prop where
 len:∀vs H Q E,sp vs H Q E→vs.length=ps.length
 run:∀(A:Around) (outer:List Env) (s:Shared) (H:Hp) (args:Args) (us:List Value) (vs:List V) (Q:VK) (E:XK),aP k A→qG P w K mg base A outer s H→BindsTo s fd args (ps.zip us)→Vals vs us→sp vs H Q E→
  codeAny (model P w) A (.call (.ref f) args) (CR CX outer P w H s Q E) s
theorem qG.make {P:Program} {w:World} {K:PySem.W.Frag} {mg:Str→Option Value} {base:Heap} {A:Around} {outer:List Env} {s:Shared} {H:Hp} (e:qG P w K mg base A outer s H) (C:Addr) (us:List Value) (kw:List (Str×Value)):
  qG P w K mg base (A.under (.builtin "type.__call__" ⟨.ref C::us,kw⟩)) outer s H:=⟨by first | exact e.frames | (simpa[Around.under,Code.envs,Code.isFrame,pushEnvs] using e.frames),e.mod,e.bs,e.rq,e.jX,e.vm,e.hok,e.bare⟩
section
variable {X:Cx} {pins:List (Addr×Obj)} {σ:St} {H:Hp} {s s':Shared}
theorem Inv.env0 (I:Inv X pins σ H s):qG X.prog X.w X.K X.mg X.base X.A X.stack s H:=
 ⟨I.ok.frames,I.ok.mod,I.bs,Nat.le_trans I.ok.rq I.sz,I.stack,I.p8,I.hok,I.bare⟩
theorem Inv.after {Q:VK} {u:Value} (I:Inv X pins σ H s) (h:CE X.stack X.prog X.w H s Q u s'):EP X pins σ Q u s':=by
 obtain⟨v,H',os,bare,un,hok,r,q⟩:=h
 obtain⟨hh,g,d,t,os'⟩:=s'
 obtain rfl:os'=s.os:=os
 exact⟨v,H',I.call (h':=hh) (g':=g) (d':=d) (t':=t) (ch:=[]) un hok bare (fun b z=>absurd z (by simp)),r,q⟩
end
def Fb (sp:Sp) (tX:List V) (E:XK) (t:TA):TE:=fun σ H Q=>t σ H fun vs H1=>sp (vs++tX) H1 Q E
def Binds (K:PySem.W.Frag) (fd:FuncData) (ps:List Str) (ds:List Value):Prop:=
 ∀(s:Shared) (us:List Value),K.In s.heap→(us++ds).length=ps.length→BindsTo s fd ⟨us,[]⟩ (ps.zip (us++ds))
theorem Binds.all {K:PySem.W.Frag} {fd:FuncData} {ps:List Str} (h:∀us:List Value,us.length=ps.length→bindArgs fd ⟨us,[]⟩=pure (ps.zip us)):Binds K fd ps []:=fun s us _ hl=>by
 rw[List.append_nil] at hl ⊢
 exact .of_eq (h us hl)
def Passes (CX:oy) (X:Cx) (E:XK):Prop:=∀(pins:List (Addr×Obj)) (σ:St) (H:Hp) (s:Shared) (e:Value) (s':Shared),Inv X pins σ H s→CX X.stack H s E e s'→X.xe e s'
section
variable {X:Cx} {CX:oy} {k:Nat} {f C:Addr} {fd:FuncData} {ps:List Str} {sp:Sp} {tX:List V} {ds:List Value} {E:XK} {x m:Str} {p pos apos:Pos} {e o:Expr} {es:List Expr} {ta:TE} {t:TA}
theorem Hw {pins:List (Addr×Obj)} {σ:St} {H:Hp} {s:Shared} {Q:VK} {us:List Value} {vs:List V} (F:aR X.prog X.w X.K X.mg X.base CX k f fd ps sp) (hr:aP k X.A) (hb:Binds X.K fd ps ds) (hd:Vals tX ds) (hx:Passes CX X E)
  (I:Inv X pins σ H s) (r:Vals vs us) (h:sp (vs++tX) H Q E):wpAny (model X.prog X.w) X.A (call (.ref f) us) (EP X pins σ Q) X.xe s:=by
 have r2:Vals (vs++tX) (us++ds):=r.append hd
 have hl:(us++ds).length=ps.length:=by rw[←r2.length];exact F.len _ _ _ _ h
 refine wpAny_call (codeAny_mono (F.run X.A X.stack s H ⟨us,[]⟩ (us++ds) (vs++tX) Q E hr I.env0 (hb s us I.fJ hl) r2 h) fun r s' hq=>?_)
 cases r with
 | error e=>exact hx pins σ H s e s' I hq
 | ok fl=>
  cases fl with
  | ret u=>exact I.after hq
  | next=>exact False.elim hq
  | brk=>exact False.elim hq
  | cont=>exact False.elim hq
theorem av (F:aR X.prog X.w X.K X.mg X.base CX k f fd ps sp) (hr:aP k X.A) (hg:Gl X x) (hm:X.mg x=some (.ref f)) (hk:PySem.W.keepIn X.K (.ref f)=true) (hb:Binds X.K fd ps ds) (hd:Vals tX ds) (hx:Passes CX X E)
  (ha:PA X (e::es) t) (hdb:(x == ("__debug__":Str))=false:=by decide) (he:starEach (e::es) X.env=(false,eval e X.env)::starEach es X.env:=by rfl) (hpl:(backTo pos (starEach es X.env)).any (·.1)=false:=by rfl):
  PE X (.Call (.Name x p) (e::es) [] pos) (Fb sp tX E t):=by
 intro pins s σ H Q I h
 refine wpAny_Call_Name_kw (mF I hg hm ?_ hdb)
 refine PySem.W.callWith_K (h₀:=X.base) I.ok.mod.E_ hk (aV (ha pos pins s σ H _ I h) fun us s1 ⟨vs,H1,I1,r,q⟩=>⟨I1.fJ,?_⟩) he hpl
 exact Hw F hr hb hd hx I1 r q
end
structure aY (N P:List Str) (sc:Scope):Prop where
 kind:sc.kind=.function
 co:sc.isCoroutine=false
 gen:sc.isGenerator=false
 nd:N.Nodup
 pre:N.take P.length=P
 par:∀x∈P,sc.names.lookup x=some .local∨sc.names.lookup x=some .cell
 Hy:∀y∈sc.names,y.2≠.free
theorem tY {kindOf:Str→Option NameKind} {x:Str}:∀{binds:List (Str×Value)} {m:Str→Option Value},(∀v,(x,v) ∉ binds)→bindL kindOf binds m x=m x
 | [],_,_=>rfl
 | (n,v)::r,m,h=>by
  unfold bindL
  rw[tY fun w hw=>h w (List.mem_cons_of_mem _ hw)]
  split
  ·have:x≠n:=by rintro rfl;exact h v List.mem_cons_self
   simp[this]
  ·rfl
theorem tZ {kindOf:Str→Option NameKind} {x:Str}:∀{binds:List (Str×Value)} {m:Str→Option Value},(∀v,(x,v) ∉ binds)→bindC kindOf binds m x=m x
 | [],_,_=>rfl
 | (n,v)::r,m,h=>by
  unfold bindC
  rw[tZ fun w hw=>h w (List.mem_cons_of_mem _ hw)]
  split
  ·rfl
  ·have:x≠n:=by rintro rfl;exact h v List.mem_cons_self
   simp[this]
theorem t_ {kindOf:Str→Option NameKind} {x:Str} {v:Value}:∀{P:List Str} {vs:List Value} {i:Nat} {m:Str→Option Value},P.Nodup→P[i]? =some x→vs[i]? =some v→kindOf x=some .local→
  bindL kindOf (P.zip vs) m x=some v
 | [],_,_,_,_,h,_,_=>by simp at h
 | _::_,[],_,_,_,_,h,_=>by simp at h
 | p::P,w::vs,0,m,nd,h1,h2,hk=>by
  simp at h1 h2;subst h1;subst h2
  show bindL kindOf ((p,w)::P.zip vs) m p=_
  unfold bindL
  rw[tY fun v hv=>(List.nodup_cons.mp nd).1 (List.of_mem_zip hv).1,if_pos hk]
  simp
 | p::P,w::vs,i+1,m,nd,h1,h2,hk=>by
  show bindL kindOf ((p,w)::P.zip vs) m x=_
  unfold bindL
  exact t_ (i:=i) (List.nodup_cons.mp nd).2 (by simpa using h1) (by simpa using h2) hk
theorem t4 {kindOf:Str→Option NameKind} {x:Str} {v:Value}:∀{P:List Str} {vs:List Value} {i:Nat} {m:Str→Option Value},P.Nodup→P[i]? =some x→vs[i]? =some v→kindOf x≠some .local→
  bindC kindOf (P.zip vs) m x=some v
 | [],_,_,_,_,h,_,_=>by simp at h
 | _::_,[],_,_,_,_,h,_=>by simp at h
 | p::P,w::vs,0,m,nd,h1,h2,hk=>by
  simp at h1 h2;subst h1;subst h2
  show bindC kindOf ((p,w)::P.zip vs) m p=_
  unfold bindC
  rw[tZ fun v hv=>(List.nodup_cons.mp nd).1 (List.of_mem_zip hv).1,if_neg hk]
  simp
 | p::P,w::vs,i+1,m,nd,h1,h2,hk=>by
  show bindC kindOf ((p,w)::P.zip vs) m x=_
  unfold bindC
  exact t4 (i:=i) (List.nodup_cons.mp nd).2 (by simpa using h1) (by simpa using h2) hk
def start (N:List Str) (vs:List V):St:=vs.map some++List.replicate (N.length-vs.length) none
def hG (CX:oy) (P:Program) (w:World) (K:PySem.W.Frag) (mg:Str→Option Value) (base:Heap) (N:List Str) (qual:Str) (scope:Scope) (f:Addr) (cd:Value) (A:Around) (outer:List Env) (s:Shared) (H:Hp) (E:XK):Cx where
 prog:=P
 w:=w
 K:=K
 mg:=mg
 base:=base
 A:=A.deeper (envOfC qual scope s.heap.objs.size f cd)
 N:=N
 s₀:=s
 H₀:=H
 env:=envOfC qual scope s.heap.objs.size f cd
 outer:=outer
 stack:=envOfC qual scope s.heap.objs.size f cd::outer
 ex:=[]
 calm:=true
 fn:=fun _=>true
 pn:=[]
 xe:=fun e s'=>wpAny (model P w) (A.deeper (envOfC qual scope s.heap.objs.size f cd)) (leaving (envOfC qual scope s.heap.objs.size f cd) e) (fun _ s''=>CX outer H s E e s'') (fun e' s''=>CX outer H s E e' s'') s'
theorem vG {sc:Scope} {n:Nat} {x:Str} (h:sc.names.lookup x=some .cell):∃c,(cellsFrom n sc.names []).lookup x=some c:=by
 have q:=PySem.W.cellsFrom_some sc.names n [] (.inl h)
 exact Option.isSome_iff_exists.mp q
theorem BM {CX:oy} {P:Program} {w:World} {K:PySem.W.Frag} {mg:Str→Option Value} {base:Heap} {N ps:List Str} {qual:Str} {scope:Scope} {f:Addr} {cd:Value} {A:Around} {outer:List Env} {s s1:Shared} {H:Hp} {E:XK} {us:List Value} {vs:List V}
  (S:aY N ps scope) (hd:A.handled=none) (e0:qG P w K mg base A outer s H) (hl:vs.length=ps.length) (r:Vals vs us)
  (x:InCallC s s.heap.objs.size (bindL (envOfC qual scope s.heap.objs.size f cd).kindOf (ps.zip us) fun _=>none) (cellsFrom (s.heap.objs.size+1) scope.names []) (bindC (envOfC qual scope s.heap.objs.size f cd).kindOf (ps.zip us) fun _=>none) s1):
  Inv (hG CX P w K mg base N qual scope f cd A outer s H E) [] (start N vs) H s1:=by
 have hpl:ps.length≤N.length:=by have:=congrArg List.length S.pre;rw[List.length_take] at this;omega
 obtain⟨h1,tk,rfl,hk⟩:=x.done
 have BN:∀b:Addr,b ∉ (hG CX P w K mg base N qual scope f cd A outer s H E).ex:=fun b z=>absurd (show b∈([]:List Addr) from z) (by simp)
 refine⟨⟨e0.mod,S.kind,rfl,rfl,Nat.le_refl _,fun y z c h1 h2=>?_,fun y hy=>?_,fun y c _ h=>?_,fun _=>hd,Around.frames_deeper e0.frames,.inr ⟨rfl,rfl⟩,fun b z=>absurd z (BN b),e0.bs,e0.rq,fun b _ _=>BN b,fun b z=>absurd z (BN b),e0.jX,e0.vm⟩,
  rfl,e0.bare,Un.kept hk,⟨_,x.toInCall.ns,fun i y v h1 h2 h3=>?_⟩,fun y c h=>⟨_,x.cell y c h⟩,e0.hok.fresh (Nat.le_refl _),fun y c h=>?_,fun p hp=>absurd (show p∈([]:List (Addr×Obj)) from hp) (by simp),e0.hok.kept hk,?_⟩
 ·exact name_of_addr x.apart (PySem.mem_of_lookup h1) (PySem.mem_of_lookup h2)
 ·have hy:scope.names.lookup y=some .cell∨scope.names.lookup y=some .free:=hy
  rcases hy with hy | hy
  ·exact vG hy
  ·exact absurd rfl (S.Hy _ (PySem.mem_of_lookup hy))
 ·exact Nat.le_of_lt (x.above y c (PySem.mem_of_lookup h))
 ·have hi:i<vs.length:=by
   unfold start at h2
   by_cases hi:i<vs.length
   ·exact hi
   ·rw[List.getElem?_append_right (by simpa using hi)] at h2
    rw[List.getElem?_replicate] at h2
    split at h2<;>cases h2
  have ha:vs[i]? =some v:=by
   unfold start at h2
   rw[List.getElem?_append_left (by simpa using hi),List.getElem?_map] at h2
   cases e:vs[i]? with
   | none=>rw[e] at h2;cases h2
   | some a=>rw[e] at h2;cases h2;rfl
  obtain⟨u,hu,rv⟩:=r.get ha
  have hp:ps[i]? =some y:=by
   rw[←S.pre,List.getElem?_take_of_lt (by omega)];exact h1
  have LA:ps.Nodup:=by rw[←S.pre];exact S.nd.sublist (List.take_sublist _ _)
  refine⟨u,rv,?_⟩
  rcases S.par y (List.mem_of_getElem? hp) with k | k
  ·exact .inl ⟨k,t_ LA hp hu k⟩
  ·obtain⟨c,e⟩:=vG (n:=s.heap.objs.size+1) k
   refine .inr ⟨.inl k,c,e,?_⟩
   have q:=x.cell y c e
   rw[t4 LA hp hu (by show scope.names.lookup y≠_;rw[k];decide)] at q
   exact q
 ·exact e0.hok.fresh (Nat.le_of_lt (x.above y c (PySem.mem_of_lookup h)))
 ·unfold start
  show _=N.length
  rw[List.length_append,List.length_map,List.length_replicate]
  omega
theorem Fc {CX:oy} {P:Program} {w:World} {K:PySem.W.Frag} {mg:Str→Option Value} {base:Heap} {k:Nat} {f:Addr} {name qual:Str} {params:Arguments} {body:List Stmt} {scope:Scope} {dV kV doc pm cdv ct oc:Value} {an od:Option Addr}
  {osl:Array (Option Value)} {N ps:List Str} {sp:Sp} (lk:K.lookup f=some ⟨oc,od,.func (PySem.W.fnOf name qual params body scope dV kV doc pm an cdv ct),osl⟩) (hcd:PySem.W.codeIn K cdv qual=true) (S:aY N ps scope)
  (len:∀vs H Q E,sp vs H Q E→vs.length=ps.length)
  (hbody:∀(A:Around) (outer:List Env) (s:Shared) (H:Hp) (vs:List V) (Q:VK) (E:XK),aP k (A.deeper (envOfC qual scope s.heap.objs.size f cdv))→sp vs H Q E→
   ∃t,lJ (hG CX P w K mg base N qual scope f cdv A outer s H E) body t∧t {nx:=fun _ H'=>Q .non H',rt:=Q} (start N vs) H):
  aR P w K mg base CX (k+1) f (PySem.W.fnOf name qual params body scope dV kV doc pm an cdv ct) ps sp:=by
 refine⟨len,fun A outer s H args us vs Q E hr e0 hb r hsp=>?_⟩
 have hl:=len _ _ _ _ hsp
 have KX:K.In s.heap:=e0.mod.E_.keeps fun b o e=>(e0.bs b o e).1
 have lim:s.heap.NoLimit:=e0.mod.nolimit.keeps fun b o e=>(e0.bs b o e).1
 have hkind:∀y∈ps.zip us,scope.names.lookup y.1=some .local∨(scope.names.lookup y.1=some .cell∧((cellsFrom (s.heap.objs.size+1) scope.names []).lookup y.1).isSome=true):=fun⟨n,v⟩ hy=>by
  rcases S.par n (List.of_mem_zip hy).1 with q | q
  ·exact .inl q
  ·exact .inr ⟨q,PySem.W.cellsFrom_some _ _ _ (.inl q)⟩
 refine codeAny_call_function hr.depth (KX _ _ lk) rfl S.co S.gen rfl (PySem.W.codeRec_of KX hcd) (hb _ _ _ _ ?_)
 refine wpAny_newFunctionEnv_cells S.kind hkind fun env he s1 x=>?_
 subst he
 refine⟨lim.keeps x.toInCall.keep,codeAny_func ?_⟩
 obtain⟨t,ht,hq⟩:=hbody A outer s H vs Q E (hr.deeper _) hsp
 have I:Inv (hG CX P w K mg base N qual scope f cdv A outer s H E) [] (start N vs) H s1:=BM S hr.hd e0 hl r x
 refine wpAny_mono (ht [] s1 (start N vs) H _ I hq) (fun fl s' hs=>?_) fun e s' hs=>hs
 have fin:∀{σ':St} {H':Hp} {v:V} {u:Value},Inv (hG CX P w K mg base N qual scope f cdv A outer s H E) [] σ' H' s'→RelV v u→Q v H'→CE outer P w H s Q u s':=
  fun {σ' H' v u} J rv q=>⟨v,H',J.os,J.bare,J.base,J.hok,rv,q⟩
 cases fl with
 | ret u=>
  obtain⟨v,σ',H',J,rv,q⟩:=hs
  exact fin J rv q
 | next=>
  obtain⟨σ',H',J,q⟩:=hs
  exact fin (v:=V.non) (u:=Value.none) J rfl q
 | brk=>
  obtain⟨_,_,_,q⟩:=hs
  exact False.elim q
 | cont=>
  obtain⟨_,_,_,q⟩:=hs
  exact False.elim q
section
variable {X:Cx} {x:Str} {p pos:Pos} {e:Expr} {es:List Expr} {t:TA} {id T:String} {r:List V→Hp→VK→Prop}
def Fd (r:List V→Hp→VK→Prop) (t:TA):TE:=fun σ H Q=>t σ H fun vs H1=>r vs H1 Q
theorem bz (hc:fm X (.builtin id) r) (hg:Gl X x) (hm:X.mg x=none) (hv:bootBuiltins x=some (.builtin id)) (ha:PA X (e::es) t) (hn:x≠"__name__":=by decide) (hdb:(x == ("__debug__":Str))=false:=by decide)
  (he:starEach (e::es) X.env=(false,eval e X.env)::starEach es X.env:=by rfl) (hpl:(backTo pos (starEach es X.env)).any (·.1)=false:=by rfl):PE X (.Call (.Name x p) (e::es) [] pos) (Fd r t):=by
 intro pins s σ H Q I h
 refine wpAny_Call_Name_kw (jK I hg hm hv ?_ hn hdb)
 exact PyProof.Rows.callWith_builtin1 (aV (ha pos pins s σ H _ I h) fun us s1 ⟨vs,H1,I1,r1,q1⟩=>hc pins s1 σ H1 vs us Q I1 r1 q1) he hpl
theorem cL (hc:fm X (.type T) r) (hg:Gl X x) (hm:X.mg x=none) (hv:bootBuiltins x=some (.type T)) (ha:PA X (e::es) t) (hn:x≠"__name__":=by decide) (hdb:(x == ("__debug__":Str))=false:=by decide)
  (he:starEach (e::es) X.env=(false,eval e X.env)::starEach es X.env:=by rfl) (hpl:(backTo pos (starEach es X.env)).any (·.1)=false:=by rfl):PE X (.Call (.Name x p) (e::es) [] pos) (Fd r t):=by
 intro pins s σ H Q I h
 refine wpAny_Call_Name_kw (jK I hg hm hv ?_ hn hdb)
 exact PyProof.Rows.callWith_type1 (aV (ha pos pins s σ H _ I h) fun us s1 ⟨vs,H1,I1,r1,q1⟩=>hc pins s1 σ H1 vs us Q I1 r1 q1) he hpl
end
end L2
namespace HT
open PySem PyProof.Rows
section
variable {prog:Program} {w:World} {A:Around} {E:Value→Shared→Prop} {s:Shared}
theorem GD {t b:Addr} {vs ws:List Value} {Q:Value→Shared→Prop} (ht:IsTup s.heap t vs.toArray) (hb:IsTup s.heap b ws.toArray) (hv:vs≠[])
  (h1:ws=[]→Q (.ref t) s) (h2:ws≠[]→Q (.ref s.heap.objs.size) {s with heap:=s.heap.push {cls:=.type "tuple",data:=.seq (vs++ws).toArray}})
  (hsz:vs.length+ws.length≤sizeLine):wpAny (model prog w) A (binaryOp .Add (.ref t) (.ref b)) Q E s:=by
 obtain⟨⟨cls,dd,data,sl⟩,ho,hc,n,hd⟩:=id ht
 obtain⟨⟨cls2,dd2,data2,sl2⟩,ho2,hc2,n2,hd2⟩:=id hb
 simp only at hc hd hc2 hd2
 subst hc hd hc2 hd2
 have e:vs.toArray++ws.toArray=(vs++ws).toArray:=by simp
 by_cases hw:ws=[]
 ·exact concat_meets ⟨_,ho,rfl⟩ ⟨_,ho2,rfl⟩ noFill_tuple_add seq_tuple_add PySem.F.slot_tuple_add PySem.F.entry_tuple_add (PySem.F.args_tuple_add_2 _ _)
   (tuple_addW1 t b vs.toArray ws.toArray n n2 dd dd2 sl sl2 (by simpa using hv) (by simp[hw])) ⟨ho,ho2,h1 hw⟩
 ·refine concat_meets ⟨_,ho,rfl⟩ ⟨_,ho2,rfl⟩ noFill_tuple_add seq_tuple_add PySem.F.slot_tuple_add PySem.F.entry_tuple_add (PySem.F.args_tuple_add_2 _ _)
   (tuple_addW2 t b vs.toArray ws.toArray n n2 dd dd2 sl sl2 (by simpa using hv) (by simpa using hw) (by rw[List.size_toArray,List.size_toArray];exact hsz)) ⟨ho,ho2,?_⟩
  rw[e]
  exact h2 hw
def cp (n d:Nat):Option Int→Nat
 | none=>d
 | some v=>if v<0 then(v+(n:Int)).toNat else min v.toNat n
theorem vH (n d:Nat):cp n d none=d:=rfl
theorem i' (n d k:Nat):cp n d (some (k:Int))=min k n:=by
 show(if(k:Int)<0 then((k:Int)+(n:Int)).toNat else min (k:Int).toNat n)=min k n
 rw[if_neg (by omega),Int.toNat_natCast]
theorem BO (n d:Nat) (hd:d≤n) (o:Option Int):cp n d o≤n:=by
 cases o with
 | none=>exact hd
 | some v=>
  show(if v<0 then(v+(n:Int)).toNat else min v.toNat n)≤n
  by_cases hv:v<0
  ·rw[if_pos hv];omega
  ·rw[if_neg hv];exact Nat.min_le_right _ _
end
end HT
namespace L2
open PySem PySem.Spec PyProof.Rows
abbrev TO:=St→Hp→(Option Int→Hp→Prop)→Prop
def PO (X:Cx) (e:Option Expr) (t:TO):Prop:=
 ∀(pins:List (Addr×Obj)) (s:Shared) (σ:St) (H:Hp) (Q:Option Int→Hp→Prop),Inv X pins σ H s→t σ H Q→
  wpAny (model X.prog X.w) X.A (evalPart e X.env) (fun u s'=>∃o H',Inv X pins σ H' s'∧IsPart u o∧Q o H') X.xe s
def GF:TO:=fun _ H Q=>Q none H
def KL (t:TE):TO:=fun σ H Q=>t σ H fun x H1=>∃i,x=.int i∧Q (some i) H1
section
variable {X:Cx} {e:Expr} {te:TE} {lo hi:Option Expr} {tl th:TO} {pos p2:Pos}
theorem qa:PO X none GF:=by
 intro pins s σ H Q I h
 rw[evalPart_none]
 exact wpAny_pure ⟨none,H,I,.none,h⟩
theorem dG (h:PE X e te):PO X (some e) (KL te):=by
 intro pins s σ H Q I hw
 rw[evalPart_some]
 refine aV (h pins s σ H _ I hw) fun u s1 ⟨x,H1,I1,r1,q1⟩=>?_
 obtain⟨i,rfl,q⟩:=q1
 obtain⟨t,rfl⟩:=r1
 exact⟨some i,H1,I1,.int i t,q⟩
def Fe (X:Cx) (r:V→Option Int→Option Int→Hp→VK→Prop):Prop:=
 ∀(pins:List (Addr×Obj)) (s:Shared) (σ:St) (H:Hp) (x:V) (v vl vu:Value) (lo hi:Option Int) (sl:Addr) (Q:VK),Inv X pins σ H s→RelV x v→s.heap.IsSliceOf sl vl vu .none→IsPart vl lo→IsPart vu hi→r x lo hi H Q→
  ∃T id,typeLookup (.type T) "__getitem__"=pure (some (.builtin id))∧s.TypeIs v T∧wpAny (model X.prog X.w) X.A (getItem v (.ref sl)) (EP X pins σ Q) X.xe s
def RK (r:V→Option Int→Option Int→Hp→VK→Prop) (te:TE) (tl th:TO):TE:=fun σ H Q=>te σ H fun x H1=>tl σ H1 fun l H2=>th σ H2 fun u H3=>r x l u H3 Q
theorem fN {r:V→Option Int→Option Int→Hp→VK→Prop} (hr:Fe X r) (he:PE X e te) (hl:PO X lo tl) (hu:PO X hi th):PE X (.Subscript e (.Slice lo hi none p2) pos) (RK r te tl th):=by
 intro pins s σ H Q I h
 refine Subscript_ (aV (he pins s σ H _ I h) fun v s1 ⟨x,H1,I1,r1,q1⟩=>?_)
 refine wpAny_Slice (aV (hl pins s1 σ H1 _ I1 q1) fun vl s2 ⟨l,H2,I2,pl,q2⟩=>aV (hu pins s2 σ H2 _ I2 q2) fun vu s3 ⟨u,H3,I3,pu,q3⟩=>?_)
 rw[evalPart_none]
 refine wpAny_pure ?_
 have I4:Inv X pins σ H3 {s3 with heap:=s3.heap.push {cls:=.type "slice",data:=.fields #[vl,vu,.none]}}:=I3.kept (t':=s3.toks) fun b ob q=>Heap.get?_push_of_some _ q
 obtain⟨T,id,hT,ht,hg⟩:=hr pins {s3 with heap:=s3.heap.push {cls:=.type "slice",data:=.fields #[vl,vu,.none]}} σ H3 x v vl vu l u s3.heap.objs.size Q I4 r1 (Heap.IsSliceOf.new ..) pl pu q3
 show wpAny (model X.prog X.w) X.A (subscriptTail e (.Slice lo hi none p2) v (.ref s3.heap.objs.size)) (EP X pins σ Q) X.xe {s3 with heap:=s3.heap.push {cls:=.type "slice",data:=.fields #[vl,vu,.none]}}
 exact tail_any (ops:=[.ref s3.heap.objs.size,v]) ht hT hg (by with_unfolding_all rfl)
def sP (xs:List V) (lo hi:Option Int):List V:=(xs.drop (HT.cp xs.length 0 lo)).take (HT.cp xs.length xs.length hi-HT.cp xs.length 0 lo)
theorem xR (xs:List V) (lo hi:Option Int):(sP xs lo hi).length≤xs.length:=by
 unfold sP
 rw[List.length_take,List.length_drop]
 omega
def KN (K:PySem.W.Frag):R2:=fun x y H Q=>∃a b xs ys,x=.ref a∧y=.ref b∧bY K H a xs∧bY K H b ys∧xs≠[]∧xs.length+ys.length≤sizeLine∧
 (ys=[]→Q (.ref a) H)∧(ys≠[]→∀p,H p=none→Q (.ref p) (upd H p (.tup (xs++ys))))
theorem Vals.sQ {xs:List V} {us:List Value} (r:Vals xs us):us=[]↔xs=[]:=by
 cases r with
 | nil=>simp
 | cons _ _=>simp
theorem y3:cW X (binaryOp .Add) (KN X.K):=by
 intro pins s σ H x y v u Q I rx ry h
 obtain⟨a,b,xs,ys,rfl,rfl,ha,hb,hx,hz,q1,q2⟩:=h
 cases rx
 cases ry
 obtain⟨its,r1,p1,_⟩:=I.tuple ha
 obtain⟨its2,r2,p2,_⟩:=I.tuple hb
 refine HT.GD p1 p2 (fun z=>hx (r1.sQ.mp z)) (fun z=>⟨.ref a,H,I,rfl,q1 (r2.sQ.mp z)⟩) (fun z=>?_) (by rw[←r1.length,←r2.length];exact hz)
 refine⟨.ref s.heap.objs.size,_,I.laid (t':=s.toks) (o:=.tup (xs++ys)) (fun b ob q=>Heap.get?_push_of_some _ q) (Nat.le_refl _) ?_,rfl,q2 (fun w=>z (r2.sQ.mpr w)) _ (I.hok.fresh (Nat.le_refl _))⟩
 exact⟨⟨by rw[List.length_append];exact hz,_,Heap.get?_push_size _ rfl,rfl⟩,_,r1.append r2,IsTup.new _ _⟩
end
def qu (n:Nat) (i:Int):Option Nat:=if 0≤i then(if i<n then some i.toNat else none) else if-(n:Int)≤i then some (i+n).toNat else none
def j2 {α:Type} (xs:List α) (i:Int):Option α:=(qu xs.length i).bind fun j=>xs[j]?
theorem y6 {n:Nat} {i:Int} {j:Nat} (h:qu n i=some j):seqIndex? i n=some j∧j<n∧ -(n:Int)≤i∧i<n:=by
 unfold qu at h
 by_cases h0:0≤i
 ·rw[if_pos h0] at h
  by_cases h1:i<n
  ·rw[if_pos h1] at h
   have e:i.toNat=j:=Option.some.inj h
   exact⟨by rw[seqIndex_of h0 h1,e],by omega,by omega,h1⟩
  ·rw[if_neg h1] at h;cases h
 ·rw[if_neg h0] at h
  by_cases h1: -(n:Int)≤i
  ·rw[if_pos h1] at h
   have e:(i+n).toNat=j:=Option.some.inj h
   exact⟨by rw[seqIndex_neg (by omega) h1,e],by omega,h1,by omega⟩
  ·rw[if_neg h1] at h;cases h
theorem sR {α:Type} {xs:List α} {i:Int} {v:α} (h:j2 xs i=some v):∃j,seqIndex? i xs.length=some j∧xs[j]? =some v∧j<xs.length∧ -(xs.length:Int)≤i∧i<xs.length:=by
 unfold j2 at h
 cases e:qu xs.length i with
 | none=>rw[e] at h;cases h
 | some j=>
  rw[e] at h
  obtain⟨h1,h2,h3,h4⟩:=y6 e
  exact⟨j,h1,h,h2,h3,h4⟩
theorem aj {α:Type} {xs:List α} {j:Nat} {v:α} (h:xs[j]? =some v):j2 xs (j:Int)=some v:=by
 have hj:j<xs.length:=(List.getElem?_eq_some_iff.mp h).1
 have e:qu xs.length (j:Int)=some j:=by
  unfold qu
  rw[if_pos (by omega),if_pos (by omega)];simp
 unfold j2;rw[e];exact h
theorem DC {α:Type} (xs:List α) (v:α):j2 (xs++[v]) (-1)=some v:=by
 have hl:(xs++[v]).length=xs.length+1:=by simp
 have e:qu (xs++[v]).length (-1)=some xs.length:=by
  unfold qu
  rw[hl,if_neg (by decide),if_pos (by omega)]
  congr 1
  omega
 unfold j2
 rw[e]
 show(xs++[v])[xs.length]? =some v
 simp
def GG (b:Expr):Prop:=∀o i,subscripted b false o i=operate [o,i] (getItem o i)
def y8 (X:Cx) (r:R2):Prop:=
 ∀(value slice:Expr) (pins:List (Addr×Obj)) (s:Shared) (σ:St) (H:Hp) (x y:V) (v u:Value) (Q:VK),Inv X pins σ H s→RelV x v→RelV y u→r x y H Q→
  subscripted slice false v u=operate [v,u] (getItem v u)→wpAny (model X.prog X.w) X.A (subscriptTail value slice v u) (EP X pins σ Q) X.xe s
def LB (X:Cx) (id:String) (r:V→List V→Hp→VK→Prop):Prop:=
 ∀(pins:List (Addr×Obj)) (s:Shared) (σ:St) (H:Hp) (x:V) (xs:List V) (v:Value) (us:List Value) (Q:VK),Inv X pins σ H s→RelV x v→Vals xs us→r x xs H Q→
  wpAny (model X.prog X.w) X.A (call (.builtin id) (v::us)) (EP X pins σ Q) X.xe s
section
variable {X:Cx} {a b:Expr} {ta tb:TE} {pos:Pos}
theorem aB {r:R2} (hr:y8 X r) (ha:PE X a ta) (hb:PE X b tb) (hs:GG b):PE X (.Subscript a b pos) (vD r ta tb):=by
 intro pins s σ H Q I h
 exact Subscript_ (Dw ha hb I h fun v u s2 x y H2 I2 rx ry q=>hr a b pins s2 σ H2 x y v u Q I2 rx ry q (hs _ _))
def DD (K:PySem.W.Frag):R2:=fun x y H Q=>∃p xs i v,x=.ref p∧y=.int i∧bW K H p xs∧j2 xs i=some v∧Q v H
def DE (K:PySem.W.Frag):R2:=fun x y H Q=>∃p xs i v,x=.ref p∧y=.int i∧bY K H p xs∧j2 xs i=some v∧Q v H
def M6:R2:=fun x y H Q=>∃z i c,x=.str z∧y=.int i∧z.length≤sizeLine∧j2 z.cps.toList i=some c∧Q (.str ⟨#[c]⟩) H
theorem GH:y8 X (DD X.K):=by
 intro value slice pins s σ H x y v u Q I rx ry h hs
 obtain⟨p,xs,i,z,rfl,rfl,hq,he,q⟩:=h
 cases rx
 obtain⟨t,rfl⟩:=ry
 obtain⟨its,r,pl,hz⟩:=I.list hq
 obtain⟨j,h1,h2,h3,h4,h5⟩:=sR he
 obtain⟨w,ew,oV⟩:=r.get h2
 have hl:=r.length
 have hn:=mK
 have fin:EP X pins σ Q w s:=⟨z,H,I,oV,q⟩
 by_cases h0:0≤i
 ·have hj:i.toNat=j:=by
   rw[seqIndex_of h0 h5] at h1
   exact Option.some.inj h1
  exact item_listR pl.isList h0 (by omega) (by rw[hj];simpa using ew) fin hs
 ·have hj:(i+(its.toArray.size:Int)).toNat=j:=by
   rw[seqIndex_neg (by omega) h4] at h1
   rw[List.size_toArray,←hl]
   exact Option.some.inj h1
  exact subscriptTail_builtinR (x:=w) pl.isList.typeIs slot_list_getitem.lookup
   (wpAny_getItem_list_neg (Q:=fun r s'=>r=w∧EP X pins σ Q r s') pl.isList (by omega) (by rw[List.size_toArray]<;>omega) (by omega) (by rw[hj];simpa using ew) ⟨rfl,fin⟩) hs
theorem Hz:y8 X (DE X.K):=by
 intro value slice pins s σ H x y v u Q I rx ry h hs
 obtain⟨p,xs,i,z,rfl,rfl,hq,he,q⟩:=h
 cases rx
 obtain⟨t,rfl⟩:=ry
 obtain⟨its,r,pl,hz⟩:=I.tuple hq
 obtain⟨j,h1,h2,h3,h4,h5⟩:=sR he
 obtain⟨w,ew,oV⟩:=r.get h2
 have hl:=r.length
 have hn:=mK
 have fin:EP X pins σ Q w s:=⟨z,H,I,oV,q⟩
 exact subscriptTail_builtinR (x:=w) pl.typeIs slot_tuple_getitem.lookup
  (getItem_tuple (j:=j) (Q:=fun r s'=>r=w∧EP X pins σ Q r s') pl (by omega) (by omega) (by rw[List.size_toArray,←hl];exact h1) (by simpa using ew) ⟨rfl,fin⟩) hs
theorem oW:y8 X M6:=by
 intro value slice pins s σ H x y v u Q I rx ry h hs
 obtain⟨z,i,c,rfl,rfl,hz,he,q⟩:=h
 obtain⟨t,rfl⟩:=rx
 obtain⟨t',rfl⟩:=ry
 obtain⟨j,h1,h2,h3,h4,h5⟩:=sR he
 have hl:z.cps.toList.length=z.length:=by simp[Str.length]
 rw[hl] at h1 h4 h5
 have hn:=mK
 exact tail_any (typeIs_str s z t) slot_str_getitem.lookup (getItem_str (c:=c) (by
  have e1:decide (i< -(2 ^ 63:Int))=false:=decide_eq_false (by omega)
  have e2:decide (i ≥ 2 ^ 63)=false:=decide_eq_false (by omega)
  rw[e1,e2,Bool.or_false]) (by rw[h1];simpa using h2) ⟨.str ⟨#[c]⟩,H,I.tok _,⟨_,rfl⟩,q⟩) hs
theorem Ah (its:List Value) (n j:Nat) (u:Value):Obj.mapSeq (·.setIfInBounds j u) {cls:=.type "list",data:=.seq its.toArray n}={cls:=.type "list",data:=.seq (its.set j u).toArray n}:=by
 simp[Obj.mapSeq]
theorem Inv.lst {pins:List (Addr×Obj)} {σ:St} {H:Hp} {s:Shared} {p:Addr} {xs:List V} (I:Inv X pins σ H s) (h:H p=some (.lst xs)):
  ∃(its:List Value) (n:Nat),Vals xs its∧s.heap.get? p=some {cls:=.type "list",data:=.seq its.toArray n}∧xs.length≤sizeLine:=by
 obtain⟨z,its,n,r,e⟩:=I.hok p _ h
 exact⟨its,n,r,e,z⟩
theorem Inv.HA {pins:List (Addr×Obj)} {σ:St} {H:Hp} {s:Shared} {p:Addr} {xs ys:List V} {its its':List Value} {n n':Nat} {f:Obj→Obj} (I:Inv X pins σ H s) (h:H p=some (.lst xs))
  (ho:s.heap.get? p=some {cls:=.type "list",data:=.seq its.toArray n}) (hf:f {cls:=.type "list",data:=.seq its.toArray n}={cls:=.type "list",data:=.seq its'.toArray n'}) (r:Vals ys its') (hz:ys.length≤sizeLine) (t:Nat):
  Inv X pins σ (upd H p (.lst ys)) {s with heap:=s.heap.update p f,toks:=t}:=by
 have e:(s.heap.update p f).get? p=some {cls:=.type "list",data:=.seq its'.toArray n'}:=by
  rw[Heap.get?_update_self f ho (by rw[hf]<;>rfl),hf]
 refine I.write (x:=p) (e:=p) (by rw[h];trivial) (.inl rfl) (fun b u hb q=>(Heap.get?_update_other _ _ (Ne.symm hb)).trans q) ⟨_,e⟩ ?_
 exact⟨hz,its',n',r,e⟩
def KO:V→V→V→Hp→(Hp→Prop)→Prop:=fun o i v H Q=>∃p xs k j,o=.ref p∧i=.int k∧H p=some (.lst xs)∧qu xs.length k=some j∧Q (upd H p (.lst (xs.set j v)))
theorem set_list:Hk X KO:=by
 intro pins s σ H o i v ov iv u Q I ro ri rv h
 obtain⟨p,xs,k,j,rfl,rfl,hp,hj,q⟩:=h
 cases ro
 obtain⟨t,rfl⟩:=ri
 obtain⟨its,n,r,ho,hz⟩:=I.lst hp
 obtain⟨h1,h2,h3,h4⟩:=y6 hj
 have hl:=r.length
 have hn:=mK
 have I':Inv X pins σ (upd H p (.lst (xs.set j v))) {s with heap:=s.heap.update p (Obj.mapSeq (·.setIfInBounds j u))}:=
  I.HA hp ho (Ah its n j u) (r.set rv j) (by rw[List.length_set];exact hz) s.toks
 by_cases h0:0≤k
 ·have hk:k.toNat=j:=by
   rw[seqIndex_of h0 h4] at h1
   exact Option.some.inj h1
  exact PySem.W.ki_setAt ho h0 (by omega) (by rw[List.size_toArray,←hl];exact h4) (by rw[hk];exact⟨_,I',q⟩)
 ·have hk:(k+(its.toArray.size:Int)).toNat=j:=by
   rw[seqIndex_neg (by omega) h3] at h1
   rw[List.size_toArray,←hl]
   exact Option.some.inj h1
  exact PySem.W.ki_setBack ho (by omega) (by rw[List.size_toArray,←hl];exact h3) (by omega) (by rw[hk];exact⟨_,I',q⟩)
theorem vI (lo hi:Option Int) (n:Nat):(sliceBounds lo hi none n).1=((HT.cp n 0 lo:Nat):Int)∧(sliceBounds lo hi none n).2.1=((HT.cp n n hi:Nat):Int)∧(sliceBounds lo hi none n).2.2=1:=by
 refine⟨?_,?_,rfl⟩
 ·cases lo with
  | none=>simp[sliceBounds,HT.cp]
  | some i=>
   simp only[sliceBounds,HT.cp,Option.getD_none,show(1:Int)>0 by decide,if_true]
   by_cases h:i<0
   ·simp only[h,if_true]<;>omega
   ·simp only[h,if_false]<;>omega
 ·cases hi with
  | none=>simp[sliceBounds,HT.cp]
  | some i=>
   simp only[sliceBounds,HT.cp,Option.getD_none,show(1:Int)>0 by decide,if_true]
   by_cases h:i<0
   ·simp only[h,if_true]<;>omega
   ·simp only[h,if_false]<;>omega
theorem uQ (its:List Value) (lo hi:Option Int):slicePick its.toArray lo hi none=((its.drop (HT.cp its.length 0 lo)).take (HT.cp its.length its.length hi-HT.cp its.length 0 lo)).toArray:=by
 obtain⟨h1,h2,h3⟩:=vI lo hi its.toArray.size
 unfold slicePick
 rw[h1,h2,h3]
 simp only[sliceRange_one,pick_run,List.size_toArray]<;>rfl
def HB (K:PySem.W.Frag):V→Option Int→Option Int→Hp→VK→Prop:=fun x lo hi H Q=>∃a xs,x=.ref a∧bW K H a xs∧∀p,H p=none→Q (.ref p) (upd H p (.lst (sP xs lo hi)))
theorem GI:Fe X (HB X.K):=by
 intro pins s σ H x v vl vu lo hi sl Q I rx hs pl pu h
 obtain⟨a,xs,rfl,hx,q⟩:=h
 cases rx
 obtain⟨its,r,ht,hz⟩:=I.list hx
 have hlen:=r.length
 refine⟨"list",_,slot_list_getitem.lookup,ht.isList.typeIs,?_⟩
 refine wpAny_getItem_list_slice ht.isList hs pl pu .none (by simp) ?_ (by rw[List.size_toArray]<;>omega)
 rw[uQ,←hlen]
 refine⟨.ref s.heap.objs.size,_,I.laid (t':=s.toks) (o:=.lst (sP xs lo hi)) (fun b ob q=>Heap.get?_push_of_some _ q) (Nat.le_refl _) ?_,rfl,q _ (I.hok.fresh (Nat.le_refl _))⟩
 exact⟨Nat.le_trans (xR xs lo hi) hz,_,0,(r.drop (HT.cp xs.length 0 lo)).take (HT.cp xs.length xs.length hi-HT.cp xs.length 0 lo),Heap.get?_push_size _ rfl⟩
def js:V→Bool
 | .non=>true
 | .bl _=>true
 | .int _=>true
 | .str _=>true
 | _=>false
def mL:V→V→Bool
 | .non,.non=>true
 | .bl a,.bl b=>a == b
 | .bl a,.int b=>(if a then 1 else 0) == b
 | .int a,.bl b=>a == (if b then 1 else 0)
 | .int a,.int b=>a == b
 | .str a,.str b=>a == b
 | _,_=>false
theorem BP {A:Around} {s:Shared} {y x:V} {u v:Value} (ry:RelV y u) (rx:RelV x v) (fy:js y=true) (fx:js x=true):SeqAt.EqAt A s u v (mL y x):=by
 cases y with
 | non=>
  cases ry
  cases x with
  | non=>cases rx;exact SeqAt.EqAt.same _
  | bl b=>cases rx;exact SeqAt.EqAt.none_bool b
  | int b=>obtain⟨t,rfl⟩:=rx;exact SeqAt.EqAt.none_int b t
  | str b=>obtain⟨t,rfl⟩:=rx;exact SeqAt.EqAt.none_str b t
  | _=>exact absurd (show false=true from fx) Bool.false_ne_true
 | bl a=>
  cases ry
  cases x with
  | non=>cases rx;exact SeqAt.EqAt.bool_none a
  | bl b=>cases rx;exact SeqAt.EqAt.bool_bool a b
  | int b=>obtain⟨t,rfl⟩:=rx;exact SeqAt.EqAt.bool_int a b t
  | str b=>obtain⟨t,rfl⟩:=rx;exact SeqAt.EqAt.bool_str a b t
  | _=>exact absurd (show false=true from fx) Bool.false_ne_true
 | int a=>
  obtain⟨t',rfl⟩:=ry
  cases x with
  | non=>cases rx;exact SeqAt.EqAt.int_none a t'
  | bl b=>cases rx;exact SeqAt.EqAt.int_bool a t' b
  | int b=>obtain⟨t,rfl⟩:=rx;exact SeqAt.EqAt.int_int a t' b t
  | str b=>obtain⟨t,rfl⟩:=rx;exact SeqAt.EqAt.int_str a t' b t
  | _=>exact absurd (show false=true from fx) Bool.false_ne_true
 | str a=>
  obtain⟨t',rfl⟩:=ry
  cases x with
  | non=>cases rx;exact SeqAt.EqAt.str_none a t'
  | bl b=>cases rx;exact SeqAt.EqAt.str_bool a t' b
  | int b=>obtain⟨t,rfl⟩:=rx;exact SeqAt.EqAt.str_int a t' b t
  | str b=>obtain⟨t,rfl⟩:=rx;exact SeqAt.EqAt.str_str a t' b t
  | _=>exact absurd (show false=true from fx) Bool.false_ne_true
 | _=>exact absurd (show false=true from fy) Bool.false_ne_true
def kz (x:V) (u:Value):Bool:=match u with
 | .none=>mL .non x
 | .bool b=>mL (.bl b) x
 | .int i _=>mL (.int i) x
 | .str z _=>mL (.str z) x
 | _=>false
theorem BQ {x y:V} {u:Value} (r:RelV y u) (f:js y=true):kz x u=mL y x:=by
 cases y with
 | non=>cases r;rfl
 | bl b=>cases r;rfl
 | int i=>obtain⟨t,rfl⟩:=r;rfl
 | str z=>obtain⟨t,rfl⟩:=r;rfl
 | _=>exact absurd (show false=true from f) Bool.false_ne_true
theorem mM {x:V}:∀{xs:List V} {us:List Value},Vals xs us→xs.all js=true→us.any (kz x)=xs.any fun y=>mL y x
 | _,_,.nil,_=>rfl
 | y::xs,u::us,.cons r t,f=>by
  rw[List.all_cons,Bool.and_eq_true] at f
  rw[List.any_cons,List.any_cons,BQ r f.1,mM t f.2]
theorem kA {A:Around} {s:Shared} {x:V} {v:Value} (rx:RelV x v) (fx:js x=true):∀{xs:List V} {us:List Value},Vals xs us→xs.all js=true→∀u∈us,SeqAt.EqAt A s u v (kz x u)
 | _,_,.nil,_=>fun u hu=>by cases hu
 | y::xs,u::us,.cons r t,f=>fun u' hu=>by
  rw[List.all_cons,Bool.and_eq_true] at f
  rcases List.mem_cons.mp hu with rfl | hu
  ·rw[BQ r f.1];exact BP r rx f.1 fx
  ·exact kA rx fx t f.2 u' hu
def inV (x:V) (xs:List V):Bool:=xs.any fun y=>mL y x
def Ff (K:PySem.W.Frag) (neg:Bool):R2:=fun x y H Q=>∃p xs,y=.ref p∧(bW K H p xs∨bY K H p xs)∧js x=true∧xs.all js=true∧Q (.bl (if neg then !inV x xs else inV x xs)) H
theorem BR:cW X (compareOp .In) (Ff X.K false):=by
 intro pins s σ H x y v u Q I rx ry h
 obtain⟨p,xs,rfl,hq,fx,fs,q⟩:=h
 cases ry
 rcases hq with hq | hq
 ·obtain⟨its,r,pl,hz⟩:=I.list hq
  refine SeqAt.in_listAt (kz x) pl.isList (fun w hw=>kA rx fx r fs w (by simpa using hw)) ⟨.bl _,H,I,rfl,?_⟩
  rw[show its.toArray.any (kz x)=its.any (kz x) by simp,mM r fs]
  exact q
 ·obtain⟨its,r,pl,hz⟩:=I.tuple hq
  refine SeqAt.in_tupleAt (kz x) pl (fun w hw=>kA rx fx r fs w (by simpa using hw)) ⟨.bl _,H,I,rfl,?_⟩
  rw[show its.toArray.any (kz x)=its.any (kz x) by simp,mM r fs]
  exact q
theorem vJ:cW X (compareOp .NotIn) (Ff X.K true):=by
 intro pins s σ H x y v u Q I rx ry h
 obtain⟨p,xs,rfl,hq,fx,fs,q⟩:=h
 cases ry
 rcases hq with hq | hq
 ·obtain⟨its,r,pl,hz⟩:=I.list hq
  refine SeqAt.notIn_listAt (kz x) pl.isList (fun w hw=>kA rx fx r fs w (by simpa using hw)) ⟨.bl _,H,I,rfl,?_⟩
  rw[show its.toArray.any (kz x)=its.any (kz x) by simp,mM r fs]
  exact q
 ·obtain⟨its,r,pl,hz⟩:=I.tuple hq
  refine SeqAt.notIn_tupleAt (kz x) pl (fun w hw=>kA rx fx r fs w (by simpa using hw)) ⟨.bl _,H,I,rfl,?_⟩
  rw[show its.toArray.any (kz x)=its.any (kz x) by simp,mM r fs]
  exact q
theorem uR:fm X (.type "tuple") (fun xs H Q=>∃p ys,xs=[.ref p]∧((bW X.K H p ys∧∀l,H l=none→Q (.ref l) (upd H l (.tup ys)))∨(bY X.K H p ys∧Q (.ref p) H))):=by
 intro pins s σ H xs us Q I r h
 obtain⟨p,ys,rfl,h⟩:=h
 obtain⟨u,rfl,rx⟩:=vals1 r
 cases rx
 rcases h with⟨hq,q⟩ | ⟨hq,q⟩
 ·obtain⟨its,r',pl,hz⟩:=I.list hq
  have hlen:=r'.length
  refine call_tuple_list pl.isList (fun h' kp=>?_) (by simp only[List.size_toArray]<;>omega)
  have I1:Inv X pins σ H {s with heap:=h'}:=I.kept (t':=s.toks) kp
  have I2:Inv X pins σ (upd H h'.objs.size (.tup ys)) {s with heap:=h'.push {cls:=.type "tuple",data:=.seq its.toArray}}:=
   I1.laid (t':=s.toks) (fun b o e=>Heap.get?_push_of_some _ e) (Nat.le_refl _) (show b_ X.prog X.w _ _ _ (.tup ys) from⟨⟨hz,_,Heap.get?_push_size _ rfl,rfl⟩,its,r',IsTup.new _ _⟩)
  exact⟨.ref h'.objs.size,_,I2,rfl,q _ (I1.hok.fresh (Nat.le_refl _))⟩
 ·obtain⟨its,r',pl,hz⟩:=I.tuple hq
  exact call_tuple_same pl ⟨.ref p,H,I,rfl,q⟩
def HC (K:PySem.W.Frag) (T:String) (x:V) (H:Hp):Prop:=match x with
 | .str _=>T="str"
 | .int _=>T="int"
 | .ref p=>(T="list"∧∃xs,bW K H p xs)∨(T="tuple"∧∃o,K.lookup p=some o∧o.cls=.type "tuple"∧o.dict=none)∨
   (T="dict"∧((∃kvs,H p=some (.dK kvs))∨∃kvs,H p=some (.dT kvs)))∨(T="set"∧∃S n,H p=some (.set S n))
 | _=>False
theorem BS {pins:List (Addr×Obj)} {σ:St} {H:Hp} {s:Shared} {T:String} {x:V} {v:Value} (I:Inv X pins σ H s) (r:RelV x v) (ty:HC X.K T x H):
  s.TypeIs v T∧∀a,v=.ref a→∃ob,s.heap.get? a=some ob∧ob.dict=none:=by
 cases x with
 | str z=>
  obtain⟨t,rfl⟩:=r
  cases(show T="str" from ty)
  exact⟨typeIs_str s z t,fun _ e=>nomatch e⟩
 | int i=>
  obtain⟨t,rfl⟩:=r
  cases(show T="int" from ty)
  exact⟨typeIs_int s i t,fun _ e=>nomatch e⟩
 | ref p=>
  cases r
  rcases ty with⟨rfl,xs,hq⟩ | ⟨rfl,o,hk,hc,hd⟩ | ⟨rfl,hk⟩ | ⟨rfl,S,n,hk⟩
  ·obtain⟨its,_,pl,_⟩:=I.list hq
   refine⟨pl.isList.typeIs,fun a e=>?_⟩
   cases e
   obtain⟨o,n,e,c,hd,_⟩:=pl
   exact⟨o,e,hd⟩
  ·refine⟨⟨o,I.fJ p o hk,hc⟩,fun a e=>?_⟩
   cases e
   exact⟨o,I.fJ _ o hk,hd⟩
  ·have z:∃o,s.heap.get? p=some o∧o.ExactDict:=by
    rcases hk with⟨kvs,hk⟩ | ⟨kvs,hk⟩
    ·obtain⟨_,_,_,_,o,_,_,e,ex,_⟩:=I.hok p _ hk
     exact⟨o,e,ex⟩
    ·obtain⟨_,_,_,_,o,_,_,e,ex,_⟩:=I.hok p _ hk
     exact⟨o,e,ex⟩
   obtain⟨o,e,ex⟩:=z
   refine⟨⟨o,e,ex.1⟩,fun a e2=>?_⟩
   cases e2
   exact⟨o,e,ex.2.1⟩
  ·obtain⟨o,_,_,_,e,ex,_⟩:=I.hok p _ hk
   refine⟨⟨o,e,ex.1⟩,fun a e2=>?_⟩
   cases e2
   exact⟨o,e,ex.2.1⟩
 | _=>exact False.elim ty
def HD (K:PySem.W.Frag) (T:String) (r:V→List V→Hp→VK→Prop) (to:TE):TE:=fun σ H Q=>to σ H fun x H1=>HC K T x H1∧r x [] H1 Q
def LC (K:PySem.W.Frag) (T:String) (r:V→List V→Hp→VK→Prop) (to:TE) (t:TA):TE:=fun σ H Q=>to σ H fun x H1=>HC K T x H1∧t σ H1 fun xs H2=>r x xs H2 Q
variable {o e:Expr} {es:List Expr} {to:TE} {t:TA} {name:Str} {apos cpos:Pos} {T id:String} {r:V→List V→Hp→VK→Prop}
theorem oX (pa:PlainAttrs T) (slot:Slot T name id) (hty:typeOf (.builtin id)=pure (.type "method_descriptor")) (hm:LB X id r) (ho:PE X o to)
  (hbase:attributeBase o name X.env (eval o X.env)=eval o X.env:=by rfl) (hline:(apos.endLine == cpos.line)=true:=by rfl):PE X (.Call (.Attribute o name apos) [] [] cpos) (HD X.K T r to):=by
 intro pins s σ H Q I h
 refine wpAny_Call_method0_late hbase hline (aV (ho pins s σ H _ I h) fun v s1 ⟨x,H1,I1,r1,ty,q1⟩=>?_)
 obtain⟨h1,h2⟩:=BS I1 r1 ty
 exact⟨T,id,pa,slot,hty,h1,h2,Calls.callWith_builtin rfl (PySem.evalArgs_none (hm pins s1 σ H1 x [] v [] Q I1 r1 .nil q1))⟩
theorem cU (pa:PlainAttrs T) (slot:Slot T name id) (hty:typeOf (.builtin id)=pure (.type "method_descriptor")) (hm:LB X id r) (ho:PE X o to) (ha:PA X (e::es) t)
  (hbase:attributeBase o name X.env (eval o X.env)=eval o X.env:=by rfl)
  (hfew:((backTo cpos (starEach (e::es) X.env)).all (fun x=> !x.1)&&(backToKw cpos (keywordEach [] X.env)).all (fun x=>x.1.isSome)
   &&decide ((e::es).length+([]:List Keyword).length+(if([]:List Keyword).isEmpty then 0 else 1)<30))=true:=by rfl)
  (hline:(apos.endLine == cpos.line)=true:=by rfl) (hs:starEach (e::es) X.env=(false,eval e X.env)::starEach es X.env:=by rfl) (hplain:(backTo cpos (starEach es X.env)).any (·.1)=false:=by rfl):
  PE X (.Call (.Attribute o name apos) (e::es) [] cpos) (LC X.K T r to t):=by
 intro pins s σ H Q I h
 refine wpAny_Call_method_late hbase hfew hline rfl (aV (ho pins s σ H _ I h) fun v s1 ⟨x,H1,I1,r1,ty,q1⟩=>?_)
 obtain⟨h1,h2⟩:=BS I1 r1 ty
 refine⟨T,id,pa,slot,hty,h1,h2,?_⟩
 have hA:=ha cpos pins s1 σ H1 _ I1 q1
 rw[hs] at hA ⊢
 refine Calls.callWith_builtin (by show(false||(backTo cpos (starEach es X.env)).any (·.1))=false;rw[hplain]<;>rfl) (Calls.evalArgs_plain ?_)
 exact aV hA fun us s2 ⟨vs,H2,I2,r2,q2⟩=>hm pins s2 σ H2 x vs v us Q I2 r1 r2 q2
end
def vK (X:Cx) (id:String) (r:V→List V→Hp→VK→Prop):Prop:=
 ∀(pins:List (Addr×Obj)) (s:Shared) (σ:St) (H:Hp) (x:V) (xs:List V) (v:Value) (us:List Value) (Q:VK),Inv X pins σ H s→RelV x v→Vals xs us→r x xs H Q→
  wpAny (model X.prog X.w) X.A (call (.builtin id) (v::us)) (EP X pins σ Q) X.xe s
theorem Vals.one:∀{x:V} {us:List Value},Vals [x] us→∃u,us=[u]∧RelV x u
 | _,_,.cons r .nil=>⟨_,rfl,r⟩
theorem Vals.two:∀{x y:V} {us:List Value},Vals [x,y] us→∃u v,us=[u,v]∧RelV x u∧RelV y v
 | _,_,_,.cons r (.cons q .nil)=>⟨_,_,rfl,r,q⟩
theorem Vals.zero:∀{us:List Value},Vals [] us→us=[]
 | _,.nil=>rfl
theorem Vals.dropLast {xs:List V} {us:List Value} (h:Vals xs us):Vals xs.dropLast us.dropLast:=by
 induction h with
 | nil=>exact .nil
 | cons r t ih=>
  cases t with
  | nil=>exact .nil
  | cons q t'=>exact .cons r ih
theorem Vals.reverse {xs:List V} {us:List Value} (h:Vals xs us):Vals xs.reverse us.reverse:=by
 induction h with
 | nil=>exact .nil
 | cons r t ih=>rw[List.reverse_cons,List.reverse_cons];exact Vals.append ih (.cons r .nil)
theorem Ai {α:Type} (l:List α):l.eraseIdx (l.length-1)=l.dropLast:=by
 induction l with
 | nil=>rfl
 | cons a r ih=>
  cases r with
  | nil=>rfl
  | cons b r=>
   have e:(a::b::r).length-1=((b::r).length-1)+1:=by
    have h1:(a::b::r).length=r.length+2:=rfl
    have h2:(b::r).length=r.length+1:=rfl
    omega
   rw[e,List.eraseIdx_cons_succ,ih]
   all_goals rfl
section
variable {X:Cx} {pins:List (Addr×Obj)} {σ:St} {H:Hp} {s:Shared} {l b:Addr} {xs ys zs:List V}
theorem Inv.Aj {its its':List Value} {n:Nat} {f:Array Value→Array Value} {t':Nat} (I:Inv X pins σ H s) (hH:H l=some (.lst xs))
  (e:s.heap.get? l=some {cls:=.type "list",data:=.seq its.toArray n}) (hf:f its.toArray=its'.toArray) (hv:Vals ys its') (hz:ys.length≤sizeLine):
  Inv X pins σ (upd H l (.lst ys)) {s with heap:=s.heap.update l (Obj.mapSeq f),toks:=t'}:=by
 have q:=PySem.IsL.update e f
 rw[hf] at q
 refine I.write (x:=l) (e:=l) (by rw[hH];exact trivial) (.inl rfl) (fun b' u hb hu=>(Heap.get?_update_other s.heap (Obj.mapSeq f) (Ne.symm hb)).trans hu) ⟨_,q⟩ ?_
 exact⟨hz,its',_,hv,q⟩
theorem Inv.DF {its:List Value} {t':Nat} (I:Inv X pins σ H s) (hv:Vals ys its) (hz:ys.length≤sizeLine):
  Inv X pins σ (upd H s.heap.objs.size (.lst ys)) {s with heap:=s.heap.push {cls:=.type "list",data:=.seq its.toArray},toks:=t'}:=
 I.laid (fun _ _ q=>Heap.get?_push_of_some _ q) (Nat.le_refl _) ⟨hz,its,0,hv,Heap.get?_push_size _ rfl⟩
theorem Inv.fresh (I:Inv X pins σ H s):H s.heap.objs.size=none:=I.hok.fresh (Nat.le_refl _)
theorem Inv.vL (I:Inv X pins σ H s) (hH:H l=some (.lst xs)):xs.length≤sizeLine∧∃(its:List Value) (n:Nat),Vals xs its∧xs.length=its.length∧s.heap.get? l=some {cls:=.type "list",data:=.seq its.toArray n}:=by
 obtain⟨z,its,n,r,e⟩:=I.hok l _ hH
 exact⟨z,its,n,r,r.length,e⟩
theorem DG {n:Nat} (h:n≤sizeLine):Builtin.List.listTooLong n=false:=by
 unfold Builtin.List.listTooLong
 exact decide_eq_false (by omega)
end
section
variable {X:Cx}
def y9:V→List V→Hp→VK→Prop:=fun x vs H Q=>∃l xs y,x=.ref l∧vs=[y]∧H l=some (.lst xs)∧xs.length<sizeLine∧Q .non (upd H l (.lst (xs++[y])))
theorem cQ:vK X "list.append" y9:=by
 intro pins s σ H x vs v us Q I rx rv h
 obtain⟨l,xs,y,rfl,rfl,hH,hz,q⟩:=h
 cases rx
 obtain⟨u,rfl,ru⟩:=rv.one
 obtain⟨z,its,n,r,hl,e⟩:=I.vL hH
 refine call_meets F.slot_list_append ⟨_,e,rfl⟩ F.entry_list_append (F.args_list_append_2 _ _) (PySem.list_append l its.toArray n u (by rw[List.size_toArray];omega)) ⟨e,?_⟩
 refine⟨.non,_,I.Aj (its':=its++[u]) hH e (by simp) (r.append (.cons ru .nil)) ?_,rfl,q⟩
 rw[List.length_append,List.length_singleton]
 omega
def GJ:V→List V→Hp→VK→Prop:=fun x vs H Q=>∃l b xs zs,x=.ref l∧vs=[.ref b]∧H l=some (.lst xs)∧H b=some (.lst zs)∧xs.length+zs.length≤sizeLine∧Q .non (upd H l (.lst (xs++zs)))
theorem BU:vK X "list.extend" GJ:=by
 intro pins s σ H x vs v us Q I rx rv h
 obtain⟨l,b,xs,zs,rfl,rfl,hH,hB,hz,q⟩:=h
 cases rx
 obtain⟨u,rfl,ru⟩:=rv.one
 cases ru
 obtain⟨z,its,n,r,hl,e⟩:=I.vL hH
 obtain⟨z2,its2,n2,r2,hl2,e2⟩:=I.vL hB
 have hsz:its.toArray.size+its2.toArray.size≤sizeLine:=by rw[List.size_toArray,List.size_toArray];omega
 have KP:¬(!its.toArray.isEmpty&&Builtin.List.listTooLong (its.toArray.size+its2.toArray.size))=true:=by
  rw[DG hsz,Bool.and_false]
  exact Bool.false_ne_true
 refine call_meets F.slot_list_extend ⟨_,e,rfl⟩ F.entry_list_extend (F.args_list_extend_2 _ _)
  (AutoSeq1.list_extend_list_list_0 l its.toArray n b its2.toArray n2 KP (by rw[List.size_toArray];omega) (by omega)) ⟨e,e2,?_⟩
 refine⟨.non,_,I.Aj (its':=its++its2) hH e (by simp) (r.append r2) ?_,rfl,q⟩
 rw[List.length_append]
 omega
def HE:V→List V→Hp→VK→Prop:=fun x vs H Q=>∃l xs y,x=.ref l∧vs=[]∧H l=some (.lst xs)∧xs[xs.length-1]? =some y∧Q y (upd H l (.lst xs.dropLast))
theorem rC:vK X "list.pop" HE:=by
 intro pins s σ H x vs v us Q I rx rv h
 obtain⟨l,xs,y,rfl,rfl,hH,hy,q⟩:=h
 cases rx
 have hus:=rv.zero
 subst hus
 obtain⟨z,its,n,r,hl,e⟩:=I.vL hH
 obtain⟨u,hu,ru⟩:=r.get hy
 have hy':its.toArray[its.toArray.size-1]? =some u:=by
  show its.toArray[its.length-1]? =some u
  rw[←Array.getElem?_toList,←hl]
  exact hu
 refine call_meets F.slot_list_pop ⟨_,e,rfl⟩ F.entry_list_pop (F.args_list_pop_1 _) (MeetsSeq.list_pop_last l its.toArray n u hy' (by rw[List.size_toArray];omega)) ⟨e,?_⟩
 refine⟨y,_,I.Aj (its':=its.dropLast) hH e ?_ r.dropLast ?_,ru,q⟩
 ·show its.toArray.eraseIdxIfInBounds (its.toArray.size-1)=its.dropLast.toArray
  rw[List.size_toArray,List.eraseIdxIfInBounds_toArray,Ai]
 ·rw[List.length_dropLast]
  omega
def DH:V→List V→Hp→VK→Prop:=fun x vs H Q=>∃l xs,x=.ref l∧vs=[]∧H l=some (.lst xs)∧Q .non (upd H l (.lst xs.reverse))
theorem Ak:vK X "list.reverse" DH:=by
 intro pins s σ H x vs v us Q I rx rv h
 obtain⟨l,xs,rfl,rfl,hH,q⟩:=h
 cases rx
 have hus:=rv.zero
 subst hus
 obtain⟨z,its,n,r,hl,e⟩:=I.vL hH
 refine call_meets F.slot_list_reverse ⟨_,e,rfl⟩ F.entry_list_reverse (F.args_list_reverse_1 _) (AutoSeq1.list_reverse_list_0 l its.toArray n (by rw[List.size_toArray];omega)) ⟨e,?_⟩
 refine⟨.non,_,I.Aj (its':=its.reverse) hH e (by simp) r.reverse ?_,rfl,q⟩
 rw[List.length_reverse]
 omega
end
end L2
namespace LD
open PySem PySem.W PySem.Calls PyProof.Rows
theorem rD {P:Params} {h:Heap}:∀(ns:List Int) (vs:List Value),WellAll P h vs (ns.map WData.int)→IntsAre vs ns:=by
 intro ns
 induction ns with
 | nil=>
  intro vs w
  rw[List.map_nil] at w
  cases w
  exact .nil
 | cons n ns ih=>
  intro vs w
  rw[List.map_cons] at w
  cases w with
  | cons a b=>
   cases a
   exact .cons _ _ (ih _ b)
theorem BV {l:OpenLaw} {n:Nat} (hn:l.most=some n) {P:Params} {h:Heap} {args:List WData} {vals:List Value}
  (hpre:l.row.toRowW.claim.pre args=true) (hwl:WellAll P h vals args):
  ∃a vs ns,vals=[Value.ref a]∧args=[WData.list (ns.map WData.int)]∧h.get? a=some {cls:=.type "list",data:=.seq vs.toArray}∧IntsAre vs ns∧ns.length≤n:=by
 have hsh:WShape.hasAll [] args [.list .int]=true:=(pre_splitW hpre).1
 have hc:l.pre.holds [] {args:=args}=true:=(pre_splitW hpre).2
 obtain⟨d,r,rfl,h1,h2⟩:=hasAllW_cons hsh
 obtain rfl:=hasAllW_nil h2
 obtain⟨xs,rfl,h3⟩:=hasW_list h1
 obtain⟨ns,rfl⟩:=items_int h3
 have hlen:ns.length≤n:=by
  unfold OpenLaw.pre at hc
  have h4:(WTm.not (.lt (.lit (.int (n:Int))) (.len (.arg 0)))).holds [] {args:=[.list (ns.map .int)]}=true:=by
   have h4:=(holds_andW hc).1
   rw[hn] at h4
   exact h4
  have h5:=condW_of h4 (w_not (w_lt w_lit (w_len_list (w_arg rfl))))
  rw[List.length_map] at h5
  refine Nat.le_of_not_lt fun q=>?_
  have q':(n:Int)<((ns.length:Nat):Int):=by omega
  first
   | (rw[decide_eq_true q'] at h5;exact absurd h5 (by decide))
   | (simp at h5;omega)
 cases hwl with
 | cons w1 w2=>
  cases w2
  cases w1 with
  | list ho hall=>exact⟨_,_,ns,rfl,rfl,ho,rD ns _ hall,hlen⟩
theorem BW (l:OpenLaw) (args:List WData):l.row.toRowW.claim.post args (.bool true) args=true:=
 postW_of (r:=l.row.toRowW) (X:=(true == true))
  (show WShape.has [] (.bool true) .bool=true by first | rfl | decide | simp[WShape.has,WShape.arms,WShape.armsAll])
  (show(WTm.eq .res (.lit (.bool true))).value [] {args:=args,res:=some (.bool true),after:=args}=some (.bool (true == true)) from w_eq_bool (w_res rfl) w_lit) rfl
theorem xS {l:OpenLaw} {n:Nat} {q:Program} {loose:List Str} {XP:(Str→Option Value)→Heap→Prop} {YP:World→Heap→Prop} {d:DefRec}
  (hn:l.most=some n) (hdf:d.params.defaults=[])
  (call:∀(w:World) (s₀ s₁:Shared) (mg mb:Str→Option Value) (fa:Addr) (o:Obj) (pm cd doc:Value) (a:Addr) (vs:List Value) (ns:List Int),
   Ground q loose [] XP w s₀ mg mb s₁.heap→YP w s₁.heap→
   s₁.heap.get? fa=some o→o.data=.func (docDef d.name d.params d.body d.scope pm cd doc)→s₁.heap.CodeRec cd d.name→mg d.name=some (.ref fa)→
   s₁.heap.get? a=some {cls:=.type "list",data:=.seq vs.toArray}→IntsAre vs ns→ns.length≤n→s₁.gens= #[]→
   codeAny (model l.prog w) callerA (.call (.ref fa) ⟨[.ref a],[]⟩) (fun r s'=>r=.ok (.ret (.bool true))∧OldK s₁.heap s'.heap∧s'.os=s₁.os∧AllBare s'.gens) s₁):
  WalkO q loose XP YP l.row.toRowW d [] (fun f vs=>PySem.call f vs):=by
 intro w s₀ s₁ mg mb G Y fa o pm cd doc dV kV ho hd hcd hD hmg hg args vals as hpre hlay hrd hwl hlo
 obtain rfl:dV=.none:=Dflts.none hD hdf
 obtain rfl:kV=.none:=Dflts.noKw hD
 obtain⟨a,vs,ns,rfl,rfl,hobj,hints,hlen⟩:=BV hn hpre hwl
 refine enter_call (codeAny_mono (call w s₀ s₁ mg mb fa o pm cd doc a vs ns G Y ho (fd_plain hd) hcd hmg hobj hints hlen hg) fun r s' hq=>?_)
 obtain⟨rfl,h2,h3,h4⟩:=hq
 exact⟨.inl ⟨.bool true,.bool true,[],rfl,fun _=>rfl,.bool true,BW l _,fun _=>⟨List.Pairwise.nil,fun _ hm=>(nomatch hm)⟩⟩,h2,h3,h4⟩
end LD
namespace L2
open PySem PySem.Spec PyProof.Rows
theorem t5:∀{vs:List Value} {ns:List Int},IntsAre vs ns→Vals (ns.map V.int) vs
 | _,_,.nil=>.nil
 | _,_,.cons n t h=>.cons ⟨t,rfl⟩ (t5 h)
def Only (H:Hp):Prop:=∀b,H b=none∨∃o xs,H b=some (.lI o (.lst xs))
theorem DI {P:Program} {w:World} {K:PySem.W.Frag} {mg mb:Str→Option Value} {CX:oy} {k:Nat} {fa a:Addr} {fd:FuncData} {x:Str} {sp:Sp} {s₁:Shared} {vs:List Value} {ns:List Int}
  (KX:K.In s₁.heap) (hns:s₁.heap.Ns mainGlobals mg) (hb:s₁.heap.Ns builtinsNs mb) (hbb:∀x:Str,x≠"__name__"→mb x=bootBuiltins x) (hlim:s₁.heap.NoLimit) (hg:s₁.gens= #[])
  (ha:s₁.heap.get? a=some {cls:=.type "list",data:=.seq vs.toArray}) (hi:IntsAre vs ns) (hl:ns.length≤sizeLine) (hr:aP k callerA)
  (F:∀base:Heap,K.In base→base.Ns mainGlobals mg→aR P w K mg base CX k fa fd [x] sp) (hbind:∀(s:Shared) (u:Value),BindsTo s fd ⟨[u],[]⟩ [(x,u)])
  (hsp:∀H:Hp,Only H→bW K H a (ns.map V.int)→sp [.ref a] H (fun v _=>v=.bl true) fun _ _ _=>False)
  (HF:∀H e s',CX [] H s₁ (fun _ _ _=>False) e s'→False):
  codeAny (model P w) callerA (.call (.ref fa) ⟨[.ref a],[]⟩) (fun r s'=>r=.ok (.ret (.bool true))∧OldK s₁.heap s'.heap∧s'.os=s₁.os∧AllBare s'.gens) s₁:=by
 have rv:=t5 hi
 have lenV:=hi.length
 have core:∀H:Hp,Only H→bW K H a (ns.map V.int)→dZ P w H s₁.heap→(∀b,H b≠none→b=a)→(H a≠none→K.lookup a=none)→
   codeAny (model P w) callerA (.call (.ref fa) ⟨[.ref a],[]⟩) (fun r s'=>r=.ok (.ret (.bool true))∧OldK s₁.heap s'.heap∧s'.os=s₁.os∧AllBare s'.gens) s₁:=by
  intro H hO hS hok hA hK
  have za:∀{b:Addr} {o:Obj},s₁.heap.get? b=some o→H b=none→(m8 s₁.heap H).get? b=some o:=fun e n=>Du e n
  have BN:∀{b:Addr} {o:Obj} {es:Array DictEntry} {ep:Nat},s₁.heap.get? b=some o→o.data=.dict es ep→H b=none:=fun {b o es ep} e d=>by
   cases q:H b with
   | none=>rfl
   | some u=>
    have e':b=a:=hA b (by rw[q];simp)
    subst e'
    rw[ha] at e;cases e
    have d':Data.seq vs.toArray _=Data.dict es ep:=d
    cases d'
  have Fg:∀{b:Addr} {m:Str→Option Value},s₁.heap.Ns b m→(m8 s₁.heap H).Ns b m:=fun {b m} ⟨o,es,ep,e,d,r⟩=>⟨o,es,ep,za e (BN e d),d,r⟩
  have LF:K.In (m8 s₁.heap H):=fun b o e=>za (KX b o e) (by
   cases q:H b with
   | none=>rfl
   | some u=>
    have e':b=a:=hA b (by rw[q];simp)
    subst e'
    rw[hK (by rw[q];simp)] at e;cases e)
  have hM:Mod K mg (m8 s₁.heap H):=⟨LF,Fg hns,⟨mb,Fg hb,hbb⟩,let ⟨mc,h1,h2⟩:=hlim;⟨mc,Fg h1,h2⟩⟩
  have e0:qG P w K mg (m8 s₁.heap H) callerA [] s₁ H:=⟨rfl,hM,fun b o e=>Gy e,Nat.le_of_eq (BB _ _),trivial,fun b hb=>absurd (show b∈([]:List Addr) from hb) (by simp),hok,.of_eq hg⟩
  refine codeAny_mono ((F _ LF (Fg hns)).run callerA [] s₁ H ⟨[.ref a],[]⟩ [.ref a] [.ref a] _ _ hr e0 (hbind s₁ (.ref a)) (.cons rfl .nil) (hsp H hO hS)) fun r s' h=>?_
  cases r with
  | error e=>exact(HF H e s' h).elim
  | ok fl=>
   cases fl with
   | next=>exact False.elim h
   | brk=>exact False.elim h
   | cont=>exact False.elim h
   | ret u=>
    obtain⟨v,H',os,bare,un,hok',r',q⟩:=h
    have q':v=.bl true:=q
    subst q'
    obtain rfl:u=Value.bool true:=r'
    refine⟨rfl,OldK.of_keep fun b o e=>?_,os,bare⟩
    cases q:H b with
    | none=>exact un.keep b o e q (by intro z;exact absurd (show b∈([]:List Addr) from z) (by simp)) (by simp)
    | some u=>
     rcases hO b with z | ⟨ob,xs,z⟩
     ·rw[q] at z;cases z
     ·have z2:=un.m7 b ob _ z
      obtain⟨e1,_⟩:=hok b _ z
      obtain⟨e2,_⟩:=hok' b _ z2
      rw[e] at e1;cases e1
      exact e2
 cases hk:K.lookup a with
 | some o=>
  have e:=KX a o hk
  rw[ha] at e
  cases e
  refine core (fun _=>none) (fun _=>.inl rfl) (.inr ⟨_,vs.toArray,_,hk,rfl,rfl,rfl,by rw[List.size_toArray,lenV];exact hl,by simpa using rv⟩) (fun b u z=>by have z':(none:Option HO)=some u:=z;cases z') (fun b z=>absurd rfl z) fun z=>absurd rfl z
 | none=>
  refine core (fun b=>if b=a then some (.lI {cls:=.type "list",data:=.seq vs.toArray} (.lst (ns.map V.int))) else none) (fun b=>?_) (.inl (.inr ⟨{cls:=.type "list",data:=.seq vs.toArray},if_pos rfl⟩)) (fun b u z=>?_) (fun b z=>?_) fun _=>hk
  ·by_cases hb:b=a
   ·exact .inr ⟨_,_,if_pos hb⟩
   ·exact .inl (if_neg hb)
  ·by_cases hb:b=a
   ·have z':=(if_pos hb).symm.trans z
    cases z'
    subst hb
    exact⟨ha,by rw[List.length_map];exact hl,vs,_,rv,ha⟩
   ·have z':=(if_neg hb).symm.trans z
    cases z'
  ·by_cases hb:b=a
   ·exact hb
   ·exact absurd (if_neg hb) z
theorem GK {l:PySem.W.OpenLaw} {n k:Nat} {q:Program} {loose:List Str} {XP:(Str→Option Value)→Heap→Prop} {YP:World→Heap→Prop} {d:DefRec} {K:Params→PySem.W.Frag} {CX:World→oy} {sp:World→Sp} {x:Str}
  (hn:l.most=some n) (hn2:n≤sizeLine) (hdf:d.params.defaults=[]) (hr:aP k callerA)
  (hY:∀(w:World) (h:Heap),YP w h→(K w.params).In h)
  (F:∀(w:World) (mg:Str→Option Value) (fa:Addr) (h:Heap),(K w.params).In h→h.Ns mainGlobals mg→mg d.name=some (.ref fa)→
   ∃fd:FuncData,(∀(s:Shared) (u:Value),BindsTo s fd ⟨[u],[]⟩ [(x,u)])∧
    ∀base:Heap,(K w.params).In base→base.Ns mainGlobals mg→aR l.prog w (K w.params) mg base (CX w) k fa fd [x] (sp w))
  (hsp:∀(w:World) (H:Hp) (a:Addr) (ns:List Int),ns.length≤n→Only H→bW (K w.params) H a (ns.map V.int)→sp w [.ref a] H (fun v _=>v=.bl true) fun _ _ _=>False)
  (HF:∀(w:World) (H:Hp) (s:Shared) (e:Value) (s':Shared),CX w [] H s (fun _ _ _=>False) e s'→False):
  PySem.W.WalkO q loose XP YP l.row.toRowW d [] (fun f vs=>PySem.call f vs):=by
 refine LD.xS hn hdf fun w s₀ s₁ mg mb fa o pm cd doc a vs ns G Y ho hd hcd hmg hobj hints hlen hg=>?_
 have KX:=hY w _ Y
 obtain⟨fd,hb,hF⟩:=F w mg fa _ KX G.T.g hmg
 exact DI KX G.T.g G.T.b G.T.builtins G.T.nolimit hg hobj hints (Nat.le_trans hlen hn2) hr hF hb (fun H hO hS=>hsp w H a ns hlen hO hS) fun H e s'=>HF w H s₁ e s'
def inClass (s:Stmt) (j:Nat):Stmt:=match s with
 | .ClassDef _ _ _ body _ _ _ _ _ _ _=>body.getD j (.Pass ⟨0,0,0,0⟩)
 | _=>.Pass ⟨0,0,0,0⟩
def aW (s:Stmt):Arguments:=match s with
 | .FunctionDef _ a _ _ _ _ _ _ _ _=>a
 | _=>{posonlyargs:=[],args:=[],vararg:=none,kwonlyargs:=[],kw_defaults:=[],kwarg:=none,defaults:=[]}
def aT (s:Stmt):List Stmt:=match s with
 | .FunctionDef _ _ b _ _ _ _ _ _ _=>b
 | _=>[]
def au (s:Stmt):Scope:=match s with
 | .FunctionDef _ _ _ _ _ _ sc _ _ _=>sc
 | _=>{kind:=.function,names:=[],isGenerator:=false,isCoroutine:=false}
abbrev cX:oy:=fun _ _ _ _ _ _=>False
abbrev E0:XK:=fun _ _ _=>False
theorem aM {X:Cx}:Passes cX X E0:=fun _ _ _ _ _ _ _ h=>h.elim
structure cO (K:PySem.W.Frag) (x qual:Str) (st:Stmt) (f:Addr) (fd:FuncData):Prop where
 ex:∃(oc:Value) (od:Option Addr) (kV doc pm:Value) (an:Option Addr) (cdv ct:Value) (osl:Array (Option Value)),
  fd=PySem.W.fnOf x qual (aW st) (aT st) (au st) .none kV doc pm an cdv ct∧K.lookup f=some ⟨oc,od,.func fd,osl⟩∧PySem.W.codeIn K cdv qual=true
 kp:PySem.W.keepIn K (.ref f)=true
section
variable {P:Program} {w:World} {K:PySem.W.Frag} {mg:Str→Option Value} {base:Heap}
theorem cO.ok {x qual:Str} {st:Stmt} {f:Addr} {fd:FuncData} {N ps:List Str} {k:Nat} {sp:Sp} (F:cO K x qual st f fd) (S:aY N ps (au st)) (len:∀vs H Q E,sp vs H Q E→vs.length=ps.length)
  (hbody:∀(cdv:Value) (A:Around) (outer:List Env) (s:Shared) (H:Hp) (vs:List V) (Q:VK) (E:XK),aP k (A.deeper (envOfC qual (au st) s.heap.objs.size f cdv))→sp vs H Q E→
   ∃t,lJ (hG cX P w K mg base N qual (au st) f cdv A outer s H E).E4 (aT st) t∧t {nx:=fun _ H'=>Q .non H',rt:=Q} (start N vs) H):aR P w K mg base cX (k+1) f fd ps sp:=by
 obtain⟨oc,od,kV,doc,pm,an,cdv,ct,osl,rfl,lk,hcd⟩:=F.ex
 refine Fc lk hcd S len fun A outer s H vs Q E hr hsp=>?_
 obtain⟨t,h,q⟩:=hbody cdv A outer s H vs Q E hr hsp
 exact⟨t,h.E4,q⟩
theorem cO.binds {x qual:Str} {st:Stmt} {f:Addr} {fd:FuncData} {ps:List Str} (F:cO K x qual st f fd)
  (h:∀(kV doc pm:Value) (an:Option Addr) (cdv ct:Value) (us:List Value),us.length=ps.length→bindArgs (PySem.W.fnOf x qual (aW st) (aT st) (au st) .none kV doc pm an cdv ct) ⟨us,[]⟩=pure (ps.zip us)):Binds K fd ps []:=by
 obtain⟨oc,od,kV,doc,pm,an,cdv,ct,osl,rfl,lk,hcd⟩:=F.ex
 exact .all (h kV doc pm an cdv ct)
theorem bC {x qual:Str} {st:Stmt} {f:Addr} {oc:Value} {od an:Option Addr} {osl:Array (Option Value)} {kV doc pm cdv ct:Value} (l:K.lookup f=some ⟨oc,od,.func (PySem.W.fnOf x qual (aW st) (aT st) (au st) .none kV doc pm an cdv ct),osl⟩)
  (c:PySem.W.codeIn K cdv qual=true) (k:PySem.W.keepIn K (.ref f)=true):cO K x qual st f (PySem.W.fnOf x qual (aW st) (aT st) (au st) .none kV doc pm an cdv ct):=⟨⟨oc,od,kV,doc,pm,an,cdv,ct,osl,rfl,l,c⟩,k⟩
end
theorem Al {A:Around} {k:Nat} (hr:aP k A):A.units+1<cLine:=Nat.lt_of_le_of_lt (Nat.add_le_add_left (by decide:1≤64) _) hr.units
section
variable {X:Cx}
theorem pv (i:Nat) {x:Str} {pos:Pos} (hN:X.N[i]? =some x:=by rfl) (hv:BD X.env.scope x:=by first | exact Or.inl rfl | exact Or.inr (Or.inl rfl) | exact Or.inr (Or.inr rfl)) (hd:(x == ("__debug__":Str))=false:=by decide)
  (hcd:(x == ("__classdict__":Str))=false:=by decide):PE X (.Name x pos) (mw i):=Hi hN hv hd hcd
end
theorem aG {A B:Prop} (h:B):if false=true then A else B:=by
 rw[if_neg Bool.false_ne_true]
 exact h
theorem bf {A B:Prop} (h:A):if true=true then A else B:=by
 rw[if_pos rfl]
 exact h
theorem dM {c A B:Prop} [Decidable c] (h1:c→A) (h2:¬c→B):if c then A else B:=by
 by_cases h:c
 ·rw[if_pos h]
  exact h1 h
 ·rw[if_neg h]
  exact h2 h
def Same (H H':Hp):Prop:=∀b o,H b=some o→H' b=some o
theorem Same.refl (H:Hp):Same H H:=fun _ _ h=>h
theorem Same.trans {H H1 H2:Hp} (a:Same H H1) (b:Same H1 H2):Same H H2:=fun c o h=>b c o (a c o h)
theorem Same.free {H H':Hp} (e:Same H H') {l:Addr} (h:H' l=Option.none):H l=Option.none:=by
 cases q:H l with
 | none=>rfl
 | some o=>
  rw[e l o q] at h
  cases h
theorem Same.seq {K:PySem.W.Frag} {H H':Hp} {a:Addr} {xs:List V} (e:Same H H') (h:bW K H a xs):bW K H' a xs:=by
 rcases h with(h | ⟨o,h⟩) | h
 ·exact .inl (.inl (e _ _ h))
 ·exact .inl (.inr ⟨o,e _ _ h⟩)
 ·exact .inr h
section
variable {κ:Type} [DecidableEq κ]
def fg (kvs:List (κ×V)) (k:κ):Option V:=(kvs.find? fun kv=>decide (kv.1=k)).map (·.2)
def putK (kvs:List (κ×V)) (k:κ) (v:V):List (κ×V):=
 if(kvs.any fun kv=>decide (kv.1=k))=true then kvs.map (fun kv=>if kv.1=k then(kv.1,v) else kv) else kvs++[(k,v)]
theorem d_ {p:κ×V} {r:List (κ×V)} {k:κ} (e:p.1=k):fg (p::r) k=some p.2:=by simp[fg,List.find?_cons,e]
theorem eA {p:κ×V} {r:List (κ×V)} {k:κ} (e:¬p.1=k):fg (p::r) k=fg r k:=by simp[fg,List.find?_cons,e]
theorem nu (k:κ):∀kvs:List (κ×V),(kvs.any fun kv=>decide (kv.1=k))=(fg kvs k).isSome
 | []=>rfl
 | p::r=>by
  rw[List.any_cons]
  by_cases e:p.1=k
  ·simp only[d_ e,decide_eq_true e,Bool.true_or,Option.isSome_some]
  ·rw[eA e,decide_eq_false e,Bool.false_or];exact nu k r
theorem vM (k j:κ) (y:V):∀kvs:List (κ×V),fg (kvs.map fun kv=>if kv.1=k then(kv.1,y) else kv) j=(fg kvs j).map fun x=>if j=k then y else x
 | []=>rfl
 | p::r=>by
  have ih:=vM k j y r
  rw[List.map_cons]
  by_cases h:p.1=k
  ·rw[if_pos h]
   by_cases e:p.1=j
   ·rw[d_ (p:=(p.1,y)) e,d_ e,Option.map_some,if_pos (e.symm.trans h)]
   ·rw[eA (p:=(p.1,y)) e,eA e,ih]
  ·rw[if_neg h]
   by_cases e:p.1=j
   ·rw[d_ (p:=p) e,d_ e,Option.map_some,if_neg (fun z=>h (e.trans z))]
   ·rw[eA (p:=p) e,eA e,ih]
theorem t6 (k j:κ) (y:V):∀kvs:List (κ×V),fg kvs k=none→fg (kvs++[(k,y)]) j=if j=k then some y else fg kvs j
 | [],_=>by
  by_cases e:k=j
  ·rw[if_pos e.symm];exact d_ (p:=(k,y)) e
  ·rw[if_neg (fun z=>e z.symm)];exact eA (p:=(k,y)) e
 | p::r,hn=>by
  rw[List.cons_append]
  have hk:¬p.1=k:=fun z=>by rw[d_ z] at hn;cases hn
  rw[eA hk] at hn
  have ih:=t6 k j y r hn
  by_cases e:p.1=j
  ·rw[d_ e,d_ e,if_neg (fun z=>hk (e.trans z))]
  ·rw[eA e,eA e,ih]
theorem vN (kvs:List (κ×V)) (k j:κ) (y:V):fg (putK kvs k y) j=if j=k then some y else fg kvs j:=by
 unfold putK
 by_cases a:(kvs.any fun kv=>decide (kv.1=k))=true
 ·rw[if_pos a,vM]
  rw[nu] at a
  by_cases e:j=k
  ·obtain⟨x,hx⟩:=Option.isSome_iff_exists.mp a
   rw[if_pos e,e,hx,Option.map_some,if_pos rfl]
  ·rw[if_neg e]
   cases fg kvs j with
   | none=>rfl
   | some x=>rw[Option.map_some,if_neg e]
 ·rw[if_neg a]
  refine t6 k j y kvs ?_
  rw[nu] at a
  cases q:fg kvs k with
  | none=>rfl
  | some x=>rw[q] at a;exact(a rfl).elim
theorem my (kvs:List (κ×V)) (k:κ) (v:V):(putK kvs k v).length≤kvs.length+1:=by
 unfold putK
 split
 ·rw[List.length_map];omega
 ·rw[List.length_append,List.length_cons,List.length_nil];omega
theorem iI.BX {o:Option V} {u:Option Value} (r:iI o u):o.isSome=u.isSome:=by
 cases o with
 | none=>cases u with
  | none=>rfl
  | some _=>exact(show False from r).elim
 | some _=>cases u with
  | none=>exact(show False from r).elim
  | some _=>rfl
theorem KV.val {kvs:List (κ×V)} {vs:List (κ×Value)} (r:KV kvs vs) (k:κ):iI (fg kvs k) (valueAt vs k):=by
 unfold KV at r
 induction r with
 | nil=>exact True.intro
 | @cons p q ps qs h t ih=>
  obtain⟨h1,h2⟩:=h
  by_cases e:p.1=k
  ·have e':q.1=k:=h1.symm.trans e
   have b:valueAt (q::qs) k=some q.2:=by simp[valueAt,List.find?_cons,e']
   rw[d_ e,b];exact h2
  ·have e':¬q.1=k:=fun z=>e (h1.trans z)
   have b:valueAt (q::qs) k=valueAt qs k:=by simp[valueAt,List.find?_cons,e']
   rw[eA e,b];exact ih
theorem KV.any {kvs:List (κ×V)} {vs:List (κ×Value)} (r:KV kvs vs) (k:κ):(kvs.any fun kv=>decide (kv.1=k))=vs.any fun kv=>decide (kv.1=k):=by
 unfold KV at r
 induction r with
 | nil=>rfl
 | cons h t ih=>rw[List.any_cons,List.any_cons,ih,h.1]
theorem KV.repl {kvs:List (κ×V)} {vs:List (κ×Value)} (r:KV kvs vs) (k:κ) {y:V} {u:Value} (ry:RelV y u):
  KV (kvs.map fun kv=>if kv.1=k then(kv.1,y) else kv) (vs.map fun kv=>if kv.1=k then(kv.1,u) else kv):=by
 unfold KV at r ⊢
 induction r with
 | nil=>exact .nil
 | @cons p q ps qs h t ih=>
  rw[List.map_cons,List.map_cons]
  refine .cons ?_ ih
  obtain⟨h1,h2⟩:=h
  by_cases e:p.1=k
  ·rw[if_pos e,if_pos (h1.symm.trans e)];exact⟨h1,ry⟩
  ·rw[if_neg e,if_neg (fun z=>e (h1.trans z))];exact⟨h1,h2⟩
theorem KV.put {kvs:List (κ×V)} {vs:List (κ×Value)} (r:KV kvs vs) (k:κ) {y:V} {u:Value} (ry:RelV y u):KV (putK kvs k y) (stored vs k u):=by
 unfold putK stored
 rw[r.any k]
 by_cases e:(vs.any fun kv=>decide (kv.1=k))=true
 ·rw[if_pos e,if_pos e];exact r.repl k ry
 ·rw[if_neg e,if_neg e];exact Paired.snoc r ⟨rfl,ry⟩
theorem KV.length {kvs:List (κ×V)} {vs:List (κ×Value)} (r:KV kvs vs):kvs.length=vs.length:=Paired.length r
end
theorem Am {P:Program} {w:World} {k:Key} {u:Value} (r:RelV (kV k) u):(dE P w).is k u=true:=by
 cases k with
 | inl i=>obtain⟨t,e⟩:=(show ∃t,u=Value.int i t from r);subst e;exact xP P w i t
 | inr x=>obtain⟨t,e⟩:=(show ∃t,u=Value.str x t from r);subst e;exact xQ P w x t
theorem t7 {P:Program} {w:World}:∀{ks:List Key} {us:List Value},Vals (ks.map kV) us→ItemsAre (dE P w) ks us
 | [],_,r=>by rw[List.map_nil] at r;cases r;exact .nil
 | k::ks,_,r=>by
  rw[List.map_cons] at r
  cases r with
  | cons h t=>exact .cons (Am h) (t7 t)
abbrev KT (H:Hp):List (List Key×V)→List (List Key×Addr×Value)→Prop:=Paired fun p q=>p.1=q.1∧H q.2.1=some (.tup (p.1.map kV))∧RelV p.2 q.2.2
theorem KT.val {H:Hp} {kvs:List (List Key×V)} {xs:List (List Key×Addr×Value)} (r:KT H kvs xs) (k:List Key):iI (fg kvs k) ((atKey xs k).map (·.2)):=by
 induction r with
 | nil=>exact True.intro
 | @cons p q ps qs h t ih=>
  obtain⟨h1,_,h2⟩:=h
  by_cases e:p.1=k
  ·have e':q.1=k:=h1.symm.trans e
   have b:atKey (q::qs) k=some q.2:=by simp[atKey,List.find?_cons,e']
   rw[d_ e,b];exact h2
  ·have e':¬q.1=k:=fun z=>e (h1.trans z)
   have b:atKey (q::qs) k=atKey qs k:=by simp[atKey,List.find?_cons,e']
   rw[eA e,b];exact ih
theorem KT.repl {H:Hp} {kvs:List (List Key×V)} {xs:List (List Key×Addr×Value)} (r:KT H kvs xs) (k:List Key) {y:V} {u:Value} (ry:RelV y u):
  KT H (kvs.map fun kv=>if kv.1=k then(kv.1,y) else kv) (xs.map (putAt k u)):=by
 induction r with
 | nil=>exact .nil
 | @cons p q ps qs h t ih=>
  rw[List.map_cons,List.map_cons]
  refine .cons ?_ ih
  obtain⟨h1,h2,h3⟩:=h
  unfold putAt
  by_cases e:p.1=k
  ·rw[if_pos e,if_pos (h1.symm.trans e)];exact⟨h1,h2,ry⟩
  ·rw[if_neg e,if_neg (fun z=>e (h1.trans z))];exact⟨h1,h2,h3⟩
theorem KT.put {H:Hp} {kvs:List (List Key×V)} {xs:List (List Key×Addr×Value)} (r:KT H kvs xs) (k:List Key) {b:Addr} {y:V} {u:Value} (hb:H b=some (.tup (k.map kV))) (ry:RelV y u):
  KT H (putK kvs k y) (storedH xs k b u):=by
 have e:(kvs.any fun kv=>decide (kv.1=k))=(atKey xs k).isSome:=by
  rw[nu,(r.val k).BX,Option.isSome_map]
 unfold putK storedH
 rw[e]
 by_cases q:(atKey xs k).isSome=true
 ·rw[if_pos q,if_pos q];exact r.repl k ry
 ·rw[if_neg q,if_neg q];exact Paired.snoc r ⟨rfl,hb,ry⟩
theorem KT.keeps {H H':Hp} {kvs:List (List Key×V)} {xs:List (List Key×Addr×Value)} (r:KT H kvs xs) (ht:∀b ys,H b=some (.tup ys)→H' b=some (.tup ys)):KT H' kvs xs:=
 Paired.oQ r fun _ _ z=>⟨z.1,ht _ _ z.2.1,z.2.2⟩
section
variable {P:Program} {w:World} {H:Hp} {h:Heap} {a:Addr}
theorem Fh {u:HO} (ok:dZ P w H h) (e:Rd H a u):b_ P w H h a u:=e.ok ok
theorem An {kvs:List (Key×V)} (ok:dZ P w H h) (e:Rd H a (.dK kvs)):kvs.length≤sizeLine∧(a == sysModules)=false∧∃vs,KV kvs vs∧h.DictOf (dE P w) a vs:=
 show b_ P w H h a (.dK kvs) from Fh ok e
theorem KQ {kvs:List (Key×V)} (ok:dZ P w H h) (e:H a=some (.dK kvs)):kvs.length≤sizeLine∧(a == sysModules)=false∧∃vs,KV kvs vs∧h.DictOf (dE P w) a vs:=An ok (.inl e)
theorem vO {ks:List Key} (ok:dZ P w H h) (e:H a=some (.tup (ks.map kV))):(tupleKind (dE P w)).is h ks a:=by
 obtain⟨_,its,r,o,h1,h2,n,h3⟩:=(show b_ P w H h a (.tup (ks.map kV)) from ok a _ e)
 exact⟨o,its.toArray,n,h1,h2,h3,by simpa using t7 r⟩
theorem Ao {kvs:List (List Key×V)} (ok:dZ P w H h) (e:Rd H a (.dT kvs)):kvs.length≤sizeLine∧(a == sysModules)=false∧
  ∃xs,KT H kvs xs∧h.DictOfH (tupleKind (dE P w)) a xs:=by
 obtain⟨z,y,xs,r,o,es,ep,h1,h2,h3,h4,h5⟩:=(show b_ P w H h a (.dT kvs) from Fh ok e)
 refine⟨z,y,xs,r,o,es,ep,h1,h2,h3,h4,fun x hx=>?_,h5⟩
 have all:∀{l:List (List Key×V)} {m:List (List Key×Addr×Value)},KT H l m→∀x∈m,(tupleKind (dE P w)).is h x.1 x.2.1:=by
  intro l m q
  induction q with
  | nil=>intro x hx;exact nomatch hx
  | @cons p q ps qs hq t ih=>
   intro x hx
   rcases List.mem_cons.mp hx with e | hx
   ·subst e
    exact vO ok (by rw[←hq.1];exact hq.2.1)
   ·exact ih x hx
 exact all r x hx
theorem KR {kvs:List (List Key×V)} (ok:dZ P w H h) (e:H a=some (.dT kvs)):kvs.length≤sizeLine∧(a == sysModules)=false∧
  ∃xs,KT H kvs xs∧h.DictOfH (tupleKind (dE P w)) a xs:=Ao ok (.inl e)
end
def Ap (H:Hp) (a:Addr) (y:V) (r:Option V):Prop:=
 (∃kvs k,Rd H a (.dK kvs)∧y=kV k∧r=fg kvs k)∨∃kvs k b,Rd H a (.dT kvs)∧y=.ref b∧H b=some (.tup (k.map kV))∧r=fg kvs k
def vP (H:Hp) (a:Addr) (y v:V) (H':Hp):Prop:=
 (∃kvs k,H a=some (.dK kvs)∧y=kV k∧kvs.length<sizeLine∧H'=upd H a (.dK (putK kvs k v)))∨
 ∃kvs k b,H a=some (.dT kvs)∧y=.ref b∧H b=some (.tup (k.map kV))∧kvs.length<sizeLine∧H'=upd H a (.dT (putK kvs k v))
theorem vP.t {H:Hp} {a b:Addr} {kvs:List (List Key×V)} {k:List Key} {v:V} (e:H a=some (.dT kvs)) (eb:H b=some (.tup (k.map kV))) (hl:kvs.length<sizeLine):
  vP H a (.ref b) v (upd H a (.dT (putK kvs k v))):=.inr ⟨kvs,k,b,e,rfl,eb,hl,rfl⟩
section
variable {X:Cx} {pins:List (Addr×Obj)} {σ:St} {H:Hp} {s:Shared} {a:Addr} {y v:V} {u r:Value} {o:Option V} {A:Around} {E:Value→Shared→Prop}
theorem Inv.big (I:Inv X pins σ H s):sysModules<s.heap.objs.size:=by
 have h:mainGlobals<s.heap.objs.size:=(I.mod.glob.keeps I.bk).lt
 exact Nat.lt_trans (by decide) h
theorem BZ {Q:Value→Shared→Prop} (hu:A.units+1<cLine) (I:Inv X pins σ H s) (g:Ap H a y (some v)) (ry:RelV y u) (h:∀w' s',Inv X pins σ H s'→RelV v w'→Q w' s'):
  wpAny (model X.prog X.w) A (getItem (.ref a) u) Q E s:=by
 rcases g with⟨kvs,k,e,ey,l⟩ | ⟨kvs,k,b,e,ey,eb,l⟩
 ·subst ey
  obtain⟨z,hd,vs,rel,dd⟩:=An I.hok e
  obtain⟨w',hw,oV⟩:=iI.some_of (v:=v) (o:=valueAt vs k) (by rw[l];exact rel.val k)
  exact wpAny_getItem_of (Am ry) dd.mapOf hw (h w' _ (I.tok _) oV)
 ·subst ey
  cases(show u=Value.ref b from ry)
  obtain⟨z,hd,xs,rel,dd⟩:=Ao I.hok e
  obtain⟨w',hw,oV⟩:=iI.some_of (v:=v) (o:=(atKey xs k).map (·.2)) (by rw[l];exact rel.val k)
  obtain⟨p,hp,hp2⟩:=Option.map_eq_some_iff.mp hw
  refine wpAny_getItem_heap (tupleKind_room_in1 hu) (vO I.hok eb) dd hp ?_
  rw[hp2]
  exact h w' _ (I.tok _) oV
theorem zb {h':Heap} {t':Nat} {ob:HO} (I:Inv X pins σ H s) (mu:BA (H a)) (hs:Heap.SameBut a s.heap h') (he:∃q,h'.get? a=some q) (new:b_ X.prog X.w (upd H a ob) h' a ob):
  Inv X pins σ (upd H a ob) {s with heap:=h',toks:=t'}:=
 I.write (x:=a) (e:=a) mu (.inl rfl) (fun b q hb z=>(hs.2 b hb).trans z) he new
theorem HG {P:Program} {w:World} {H':Hp} {h':Heap} {kvs:List (Key×V)} {vs:List (Key×Value)} (z:kvs.length≤sizeLine) (hd:(a == sysModules)=false) (rel:KV kvs vs) (dd:h'.DictOf (dE P w) a vs):
  b_ P w H' h' a (.dK kvs):=⟨z,hd,vs,rel,dd⟩
theorem B_ {H':Hp} {Q:Unit→Shared→Prop} (hu:A.units+1<cLine) (I:Inv X pins σ H s) (g:vP H a y v H') (ry:RelV y u) (rv:RelV v r) (h:∀s',Inv X pins σ H' s'→Q () s'):
  wpAny (model X.prog X.w) A (setItem (.ref a) u r) Q E s:=by
 rcases g with⟨kvs,k,e,ey,l,eH⟩ | ⟨kvs,k,b,e,ey,eb,l,eH⟩
 ·subst ey eH
  obtain⟨z,hd,vs,rel,dd⟩:=KQ I.hok e
  have hz:vs.length≤sizeLine:=by rw[←rel.length];exact z
  have hl:(putK kvs k v).length≤sizeLine:=by have:=my kvs k v;omega
  refine wpAny_setItem_pairs (hsz:=hz) (Am ry) dd fun h' Fi hs=>h _ ?_
  have he:∃q,h'.get? a=some q:=let ⟨q,_,_,hq,_⟩:=Fi;⟨q,hq⟩
  exact zb I (by rw[e];exact True.intro) hs he (HG hl hd (rel.put k rv) Fi)
 ·subst ey eH
  cases(show u=Value.ref b from ry)
  obtain⟨z,hd,xs,rel,dd⟩:=KR I.hok e
  have hz:xs.length≤sizeLine:=by rw[←Paired.length rel];exact z
  have hl:(putK kvs k v).length≤sizeLine:=by have:=my kvs k v;omega
  refine wpAny_setItem_heap (hsz:=hz) (tupleKind_room_in1 hu) (vO I.hok eb) dd fun h' Fi hs=>h _ ?_
  obtain⟨q,es,ep,hq,h2,h3,h4,_,h5⟩:=Fi
  refine zb I (by rw[e];exact True.intro) hs ⟨q,hq⟩ ⟨hl,hd,_,(rel.put k eb rv).keeps fun c ys ec=>?_,q,es,ep,hq,h2,h3,h4,h5⟩
  rw[br (h_ ec e (fun z=>nomatch z))]
  exact ec
end
def HH (i:Expr):Prop:=∀ov iv,subscripted i false ov iv=operate [ov,iv] (getItem ov iv)
theorem GL {prog:Program} {w:World} {A:Around} {E:Value→Shared→Prop} {s:Shared} {env:Env} {value slice:Expr} {pos:Pos} {T id:String} {Q:Value→Shared→Prop}
  (hl:typeLookup (.type T) "__getitem__"=pure (some (.builtin id))) (hs:HH slice)
  (h:wpAny (model prog w) A (eval value env) (fun o s₁=>wpAny (model prog w) A (eval slice env) (fun i s₂=>s₂.TypeIs o T∧wpAny (model prog w) A (getItem o i) Q E s₂) E s₁) E s):
  wpAny (model prog w) A (eval (.Subscript value slice pos) env) Q E s:=by
 refine Subscript_ (wpAny_mono h (fun o s₁ h₁=>wpAny_mono h₁ (fun i s₂ h₂=>?_) fun _ _ x=>x) fun _ _ x=>x)
 obtain⟨hT,h₂⟩:=h₂
 unfold subscriptTail
 refine wpAny_bind ?_
 rw[getitemInPython_of_ne hT.not_modules]
 refine wpAny_bind (wpAny_specialOf hT hl ?_)
 have fin:wpAny (model prog w) A (subscripted slice false o i) (fun r s₃=>wpAny (model prog w) A (letTemporaryGo value o r >>= fun _=>pure r) Q E s₃) E s₂:=by
  rw[hs o i]
  exact wpAny_operating (wpAny_mono h₂ (fun r s₃ h₃=>wpAny_bind (wpAny_letTemporaryGo (wpAny_pure h₃))) fun _ _ x=>x)
 first
  | exact wpAny_pure (wpAny_bind fin)
  | exact wpAny_bind (wpAny_pure (wpAny_bind fin))
  | exact wpAny_bind fin
theorem xT {X:Cx} {pins:List (Addr×Obj)} {σ:St} {H:Hp} {s:Shared} {a:Addr} {y:V} {o:Option V} (I:Inv X pins σ H s) (g:Ap H a y o):s.TypeIs (.ref a) "dict":=by
 rcases g with⟨kvs,k,e,_,_⟩ | ⟨kvs,k,b,e,_,_,_⟩
 ·obtain⟨_,_,vs,_,dd⟩:=An I.hok e
  exact dd.typeIs
 ·obtain⟨_,_,xs,_,dd⟩:=Ao I.hok e
  exact dd.typeIs
def KS (td ty:TE):TE:=fun σ H Q=>td σ H fun x H1=>ty σ H1 fun y H2=>∃a v,x=.ref a∧Ap H2 a y (some v)∧Q v H2
def KU (td ty tv:TE):TS:=fun D σ H=>tv σ H fun v H1=>td σ H1 fun x H2=>ty σ H2 fun y H3=>∃a H4,x=.ref a∧vP H3 a y v H4∧D.nx σ H4
section
variable {X:Cx} {o i e value:Expr} {pos pos' tpos:Pos} {td ty tv:TE}
theorem zf (hu:X.A.units+1<cLine) (ho:PE X o td) (hi:PE X i ty) (hs:HH i):PE X (.Subscript o i pos) (KS td ty):=by
 intro pins s σ H Q I h
 refine GL PySem.F.slot_dict_getitem.lookup hs (aV (ho pins s σ H _ I h) fun u s1 ⟨x,H1,I1,rx,q1⟩=>aV (hi pins s1 σ H1 _ I1 q1) fun iv s2 ⟨y,H2,I2,ry,a,v,ex,g,q2⟩=>?_)
 subst ex
 obtain rfl:u=Value.ref a:=rx
 exact⟨xT I2 g,BZ hu I2 g ry fun w' s3 I3 oV=>⟨v,H2,I3,oV,q2⟩⟩
theorem GN (hu:X.A.units+1<cLine) (ho:PE X o td) (hi:PE X i ty) (hv:PE X value tv) (hs:swapsWith value (some (.Subscript o i pos')) pos.line X.env=pure false):
  PS X (.Assign [.Subscript o i pos'] value pos) (KU td ty tv):=by
 intro pins s σ H D I h
 refine wpAny_Assign_Subscript (aV (hv pins s σ H _ I h) fun r s1 ⟨v,H1,I1,rv,q1⟩=>aV (ho pins s1 σ H1 _ I1 q1) fun u s2 ⟨x,H2,I2,rx,q2⟩=>aV (hi pins s2 σ H2 _ I2 q2) fun iv s3 ⟨y,H3,I3,ry,a,H4,ex,g,q3⟩=>?_) hs
 subst ex
 obtain rfl:u=Value.ref a:=rx
 exact B_ hu I3 g ry rv fun s4 I4=>⟨σ,H4,I4,q3⟩
end
theorem DJ {P:Program} {w:World} {H:Hp} (h:Heap) (hb:sysModules<h.objs.size):b_ P w H (h.push {cls:=.type "dict",data:=.dict #[]}) h.objs.size (.dT []):=
 ⟨Nat.zero_le _,beq_eq_false_iff_ne.mpr (Ne.symm (Nat.ne_of_lt hb)),[],.nil,_, #[],0,Heap.get?_push_size _ rfl,⟨rfl,rfl,rfl⟩,rfl,rfl,List.nodup_nil⟩
def HI:TE:=fun _ H Q=>∀p,H p=none→Q (.ref p) (upd H p (.dT []))
section
variable {X:Cx} {pos:Pos}
theorem DK:PE X (.Dict [] [] pos) HI:=fun pins s σ H Q I h=>
 wpAny_Dict_empty ⟨.ref s.heap.objs.size,_,I.laid (a:=s.heap.objs.size) (o:=.dT []) (t':=s.toks) (fun _ _ q=>Heap.get?_push_of_some _ q) (Nat.le_refl _) (DJ s.heap I.big),rfl,h _ (I.hok.fresh (Nat.le_refl _))⟩
end
structure M2 (X:Cx) (o:Expr) (m:Str) (apos:Pos) (e f:Expr) (cpos:Pos):Prop where
 base:attributeBase o m X.env (eval o X.env)=eval o X.env
 few:((backTo cpos (starEach [e,f] X.env)).all (fun x=> !x.1)&&(backToKw cpos (keywordEach [] X.env)).all (fun x=>x.1.isSome)
  &&decide (([e,f]:List Expr).length+([]:List Keyword).length+(if([]:List Keyword).isEmpty then 0 else 1)<30))=true
 line:(apos.endLine == cpos.line)=true
 trees:backTo cpos (starEach [e,f] X.env)=[(false,eval e X.env),(false,eval f X.env)]
section
variable {X:Cx} {pins:List (Addr×Obj)} {σ:List (Option V)} {H H':Hp} {s:Shared} {h':Heap}
theorem Inv.DL {t':Nat} {ch:List Addr} {p:Addr} {o:HO} (I:Inv X pins σ H s) (hf:∀b∈ch,ik X pins H b)
  (k:∀b u,b ∉ ch→s.heap.get? b=some u→h'.get? b=some u) (hp:s.heap.objs.size≤p) (new:b_ X.prog X.w (upd H p o) h' p o):
  Inv X pins σ (upd H p o) {s with heap:=h',toks:=t'}:=by
 have hn:H p=none:=I.hok.fresh hp
 have tR:∀b u,H b=some u→b ∉ ch:=fun b u e z=>by have q:=(hf b z).1;rw[e] at q;cases q
 have old:∀b u,s.heap.get? b=some u→b≠p:=fun b u e=>Nat.ne_of_lt (Nat.lt_of_lt_of_le (Heap.lt_size e) hp)
 have rE:∀b u,H b=some u→upd H p o b=some u:=fun b u e=>by rw[br (aU e hn)];exact e
 refine I.step (g':=s.gens) (d':=s.drawn) (ch:=ch) (fun b hb=>?_) (fun b o _ _ hc e _=>k b o hc e) (fun b o _ _ hc e _=>⟨o.slots,k b o hc e⟩) (fun b o _ e n=>by rw[br (old b o e)];exact n)
  (fun b o hc e=>⟨o,k b o hc e⟩) (fun b xs e=>rE b _ e) (fun b _ _ e=>rE b _ e) (fun b ps e=>⟨#[],by rw[rE b _ e];simp⟩) (fun m hm=>?_) (fun b u e=>?_) I.bare
 ·obtain⟨f0,f1,f2,f3,f4,f5⟩:=hf b hb
  exact⟨f3,f1,f4,f5⟩
 ·obtain⟨ob,es,ep,ho,r⟩:=hm
  exact⟨ob,es,ep,k _ ob (fun z=>(hf _ z).2.1 rfl) ho,r⟩
 ·by_cases hb:b=p
  ·subst hb;rw[ag] at e;cases e;exact new
  ·rw[br hb] at e
   refine(I.hok b u e).stay (fun c v hc q=>k c v ?_ q) (fun c q=>rE c _ q) fun c xs q=>rE c _ q
   rcases hc with z | z
   ·rw[z];exact tR b u e
   ·exact tR c _ z
end
def B0 (K:PySem.W.Frag) (a:Addr):It:=
 ⟨fun i H=>∃xs x,bW K H a xs∧xs[i]? =some x,
  fun i H x H'=>∃y p,(∀xs,bW K H a xs→xs[i]? =some y)∧H p=none∧x=.ref p∧H'=upd H p (.tup [.int i,y]),
  fun i H=>∃xs,bW K H a xs∧xs.length≤i⟩
theorem B1 {P:Program} {w:World} {K:PySem.W.Frag} {elts:List Expr} {x1} {tpos:Pos} (a e it:Addr) (hne:e≠it):
  Turn P w K (.Tuple elts x1 tpos) (B0 K a) [e,it] e (fun i h=>(∃old,IsEnum h e it i old)∧h.IsListIter it a i) where
 mem:=by simp
 obj:=fun i h st b hb=>by
  obtain⟨⟨old,st1⟩,st2⟩:=st
  rcases List.mem_cons.mp hb with z | z
  ·subst z;exact⟨_,st1,fun v z=>by cases z⟩
  ·have z':b=it:=by simpa using z
   subst z'
   obtain⟨o,e,c,d⟩:=st2
   exact⟨o,e,fun v z=>by rw[d] at z;cases z⟩
 keep:=fun i h h' st k=>by
  obtain⟨⟨old,st1⟩,st2⟩:=st
  exact⟨⟨old,k e (by simp) _ st1⟩,st2.at fun o q=>k it (by simp) o q⟩
 item:=by
  intro X hP hw hK hc i pins s σ H E I hf st hg
  subst hP hw hK
  obtain⟨⟨old,st1⟩,st2⟩:=st
  obtain⟨xs,x,hq,hx⟩:=hg
  obtain⟨its,rv,p,hz⟩:=I.list hq
  obtain⟨u,hu,ru⟩:=rv.get hx
  refine wpAny_pyNext_enum_item st1 st2 p.isList (x:=u) (by simpa using hu) hne fun h1 eo RL ht hsz kk=>?_
  have nn:H s.heap.objs.size=none:=I.hok.fresh (Nat.le_refl _)
  have I1:Inv X pins σ (upd H s.heap.objs.size (.tup [.int i,x])) {s with heap:=h1,toks:=s.toks+1}:=
   I.DL (ch:=[e,it]) hf (fun b o hb q=>kk b o (fun z=>hb (by simp[z])) (fun z=>hb (by simp[z])) q) (Nat.le_refl _)
    ⟨⟨by show 2≤sizeLine;decide,_,ht,rfl⟩,[.int i s.toks,u],.cons ⟨_,rfl⟩ (.cons ru .nil),⟨_,ht,rfl,_,rfl⟩⟩
  have le:e<s.heap.objs.size:=Heap.lt_size st1
  have li:it<s.heap.objs.size:=by obtain⟨o,q,_⟩:=id st2;exact Heap.lt_size q
  refine⟨_,rfl,wpAny_letOwnedTupleGo_enum eo fun h2 e2 sb=>?_⟩
  obtain⟨f0,f1,f2,f3,f4,f5⟩:=hf e (by simp)
  have I2:=I1.turned (h':=h2) (t':=s.toks+1) (it:=e) (fun b o hb q=>(sb.2 b hb).trans q) (by rw[br (Nat.ne_of_lt le)];exact f0) f1 f3 f4 f5
  refine⟨.ref s.heap.objs.size,_,I2,rfl,⟨x,s.heap.objs.size,fun ys hy=>by rw[I.qE hy hq];exact hx,nn,rfl,rfl⟩,⟨⟨u,by simpa using e2⟩,RL.at fun o q=>(sb.2 it (Ne.symm hne)).trans q⟩,fun b hb=>?_⟩
  rcases List.mem_cons.mp hb with z | z
  ·subst z;rw[br (Nat.ne_of_lt le)];exact f0
  ·have z':b=it:=by simpa using z
   subst z';rw[br (Nat.ne_of_lt li)];exact(hf b (by simp)).1
 done:=by
  intro X hP hw hK hc i pins s σ H E I hf st hg
  subst hP hw hK
  obtain⟨⟨old,st1⟩,st2⟩:=st
  obtain⟨xs,hq,hx⟩:=hg
  obtain⟨its,rv,p,hz⟩:=I.list hq
  obtain⟨f0,f1,f2,f3,f4,f5⟩:=hf it (by simp)
  have hl:=rv.length
  exact wpAny_pyNext_enum_end (I.ok.hd hc) st1 st2 p.isList (by simp;omega) fun h' eb=>⟨rfl,I.turned (t':=s.toks) (fun b o hb e=>eb b o hb e) f0 f1 f3 f4 f5⟩
 self:=fun _ _ _ _ _ st h=>by
  obtain⟨⟨old,st1⟩,st2⟩:=st
  exact wpAny_pyIter_enum st1 h
def KW (K:PySem.W.Frag) (ta:TA):TI:=fun σ H R=>ta σ H fun vs H1=>∃a,vs=[.ref a]∧(∃xs,bW K H1 a xs)∧R (B0 K a) H1
theorem GO {X:Cx} {elts:List Expr} {x1} {tpos:Pos} {a:Expr} {ta:TA} {p pos:Pos} (hg:Gl X "enumerate") (hm:X.mg "enumerate"=none) (ha:PA X [a] ta) (hs:starEach [a] X.env=[(false,eval a X.env)]:=by rfl):
  PI X (.Tuple elts x1 tpos) (.Call (.Name "enumerate" p) [a] [] pos) (KW X.K ta):=by
 intro pins s σ H R I h
 refine Call_ (jK I hg hm boot_enumerate (PyProof.Rows.callWith_type1 (aV (ha pos pins s σ H _ I h) fun us s1 ⟨vs,H1,I1,r1,q1⟩=>?_) hs rfl))
 obtain⟨l,e,⟨xs,hq⟩,q⟩:=q1
 subst e
 cases r1 with
 | cons r rr=>
  cases rr
  cases r
  obtain⟨its,rv,pl,hz⟩:=I1.list hq
  refine call_enumerate_list pl.isList fun h' he hit hsz kk=>?_
  have I2:Inv X pins σ H1 {s1 with heap:=h'}:=I1.kept (t':=s1.toks) kk
  refine wpAny_pyIter_enum he ?_
  refine⟨s1.heap.objs.size+1,[s1.heap.objs.size+1,s1.heap.objs.size],_,_,H1,rfl,I2,B1 l _ _ (Nat.succ_ne_self _),⟨⟨_,by simpa using he⟩,hit⟩,fun b hb=>?_,q⟩
  rcases List.mem_cons.mp hb with z | z
  ·subst z;exact I1.mx (Nat.le_succ _) (I1.hok.fresh (Nat.le_succ _))
  ·have z':b=s1.heap.objs.size:=by simpa using z
   subst z';exact I1.mx (Nat.le_refl _) (I1.hok.fresh (Nat.le_refl _))
theorem DM {K:PySem.W.Frag} {a:Addr} {xs:List V} {g:TG} {tb:TS} {D:Ends} {σ:St} {H:Hp} (Pv:Nat→St→Hp→Prop) (h0:Pv 0 σ H) (hl:∀i σ H,i≤xs.length→Pv i σ H→bW K H a xs)
  (hs:∀i x p σ H,xs[i]? =some x→Pv i σ H→H p=none→g (.ref p) σ (upd H p (.tup [.int i,x])) fun σ2 H2=>tb {D with nx:=Pv (i+1),ct:=Pv (i+1),bk:=D.nx} σ2 H2) (hd:∀σ H,Pv xs.length σ H→D.nx σ H):
  ∃W:Nat→Nat→St→Hp→Prop,(∃m,W 0 m σ H)∧∀i m σ H,W i m σ H→
   ((B0 K a).stop i H∧D.nx σ H)∨((B0 K a).go i H∧∃N:St→Hp→Prop,(∀σ' H',N σ' H'→∃m',m'<m∧W (i+1) m' σ' H')∧∀x H',(B0 K a).vy i H x H'→g x σ H' fun σ2 H2=>tb {D with nx:=N,ct:=N,bk:=D.nx} σ2 H2):=by
 refine⟨fun i m σ H=>m=xs.length-i∧i≤xs.length∧Pv i σ H,⟨xs.length,by simp,Nat.zero_le _,h0⟩,?_⟩
 rintro i m σ H ⟨rfl,hi,p⟩
 have q:=hl i σ H hi p
 by_cases hlt:i<xs.length
 ·refine .inr ⟨⟨xs,xs[i],q,by simp[hlt]⟩,Pv (i+1),fun σ' H' p'=>⟨xs.length-(i+1),by omega,rfl,hlt,p'⟩,fun x H' y=>?_⟩
  obtain⟨z,pa,hz,hn,e1,e2⟩:=y
  subst e1 e2
  exact hs i z pa σ H (hz xs q) p hn
 ·have e:i=xs.length:=by omega
  subst e
  exact .inl ⟨⟨xs,q,Nat.le_refl _⟩,hd σ H p⟩
def dN (env:Env):List (Str×NameKind)→List (Str×Addr)→List (Str×Addr)
 | [],cs=>cs
 | (n,k)::r,cs=>dN env r (if k == .free then(n,(env.cells.lookup n).getD 0)::cs else cs)
theorem rF {env:Env}:∀(names:List (Str×NameKind)) (cs:List (Str×Addr)),(∀y∈names,y.2=.free→∃c,env.cells.lookup y.1=some c)→
  (forIn names cs fun(x:Str×NameKind) (r:List (Str×Addr))=>(match x with
   | (name,kind)=>if(kind == NameKind.free)=true then(cellOf env name >>= fun a=>pure (ForInStep.yield ((name,a)::r)):Sem (ForInStep (List (Str×Addr)))) else pure (ForInStep.yield r)))=pure (dN env names cs)
 | [],cs,_=>rfl
 | (n,k)::r,cs,h=>by
  have ih:=fun cs'=>rF r cs' fun y hy=>h y (List.mem_cons_of_mem _ hy)
  rw[List.forIn_cons]
  by_cases hk:k=.free
  ·subst hk
   obtain⟨c,hc⟩:=h (n,.free) List.mem_cons_self rfl
   have e:cellOf env n=pure c:=by unfold cellOf;rw[hc]
   simp only[beq_self_eq_true,if_true,e,pure_bind]
   rw[ih]
   show _=pure (dN env r (if(NameKind.free == NameKind.free)=true then _ else _))
   rw[hc];rfl
  ·have hb:(k == NameKind.free)=false:=by simpa using hk
   simp only[hb,Bool.false_eq_true,if_false,pure_bind]
   rw[ih]
   show _=pure (dN env r (if(k == NameKind.free)=true then _ else _))
   rw[hb];rfl
theorem iN {env:Env} {scope:Scope} (h:∀y∈scope.names,y.2=.free→∃c,env.cells.lookup y.1=some c):closureFor scope env=pure (dN env scope.names []):=by
 unfold closureFor
 have e:=rF (env:=env) scope.names [] h
 show((forIn scope.names [] _:Sem (List (Str×Addr))) >>= fun cs=>pure cs)=_
 rw[bind_pure]
 refine Eq.trans ?_ e
 first
  | rfl
  | (congr 1;funext x r;obtain⟨n,k⟩:=x;dsimp only;split<;>simp)
theorem vQ {env:Env} {x:Str} {c:Addr}:∀(names:List (Str×NameKind)) (cs:List (Str×Addr)),(x,c)∈dN env names cs→(x,c)∈cs∨((x,NameKind.free)∈names∧c=(env.cells.lookup x).getD 0)
 | [],cs,h=>.inl h
 | (n,k)::r,cs,h=>by
  have h':(x,c)∈dN env r (if(k == NameKind.free)=true then(n,(env.cells.lookup n).getD 0)::cs else cs):=h
  rcases vQ r _ h' with z | ⟨z1,z2⟩
  ·by_cases hk:k=.free
   ·subst hk
    simp only[beq_self_eq_true,if_true,List.mem_cons] at z
    rcases z with z | z
    ·cases z;exact .inr ⟨List.mem_cons_self,rfl⟩
    ·exact .inl z
   ·have hb:(k == NameKind.free)=false:=by simpa using hk
    rw[hb] at z
    exact .inl z
  ·exact .inr ⟨List.mem_cons_of_mem _ z1,z2⟩
theorem t8 {env:Env} {p:Str×Addr}:∀(names:List (Str×NameKind)) (cs:List (Str×Addr)),p∈cs→p∈dN env names cs
 | [],cs,h=>h
 | (n,k)::r,cs,h=>by
  show p∈dN env r (if(k == NameKind.free)=true then(n,(env.cells.lookup n).getD 0)::cs else cs)
  refine t8 r _ ?_
  split
  ·exact List.mem_cons_of_mem _ h
  ·exact h
theorem vR {env:Env} {x:Str}:∀(names:List (Str×NameKind)) (cs:List (Str×Addr)),(x,NameKind.free)∈names→(x,(env.cells.lookup x).getD 0)∈dN env names cs
 | [],_,h=>by cases h
 | (n,k)::r,cs,h=>by
  show _∈dN env r (if(k == NameKind.free)=true then(n,(env.cells.lookup n).getD 0)::cs else cs)
  rcases List.mem_cons.mp h with z | z
  ·cases z
   exact t8 r _ (by simp)
  ·exact vR r _ z
theorem mN {α β:Type} [BEq α] [LawfulBEq α] {x:α} {c:β}:∀{l:List (α×β)},l.lookup x=some c→(x,c)∈l
 | [],h=>by simp at h
 | (n,k)::r,h=>by
  rw[List.lookup_cons] at h
  by_cases e:x=n
  ·subst e;simp at h;subst h;exact List.mem_cons_self
  ·have:(x == n)=false:=by simpa using e
   rw[this] at h
   exact List.mem_cons_of_mem _ (mN h)
theorem mO {α β:Type} [BEq α] [LawfulBEq α] {x:α} {c:β}:∀{l:List (α×β)},(x,c)∈l→∃c',l.lookup x=some c'
 | [],h=>by cases h
 | (n,k)::r,h=>by
  rw[List.lookup_cons]
  by_cases e:x=n
  ·subst e;simp
  ·have q:(x == n)=false:=by simpa using e
   rw[q]
   rcases List.mem_cons.mp h with z | z
   ·cases z;exact absurd rfl e
   ·exact mO z
theorem eU {env:Env} {x:Str} {k':NameKind}:∀{names:List (Str×NameKind)},
  (names.map fun(n,k)=>if(k == NameKind.free&&env.scope.kind == .function&&env.kindOf n == some .cell) then(n,NameKind.cell) else(n,k)).lookup x=some k'→
  (x,k')∈names∨(k'=.cell∧(x,NameKind.free)∈names)
 | [],h=>by simp at h
 | (n,k)::r,h=>by
  rw[List.map_cons,List.lookup_cons] at h
  dsimp only at h
  by_cases e:x=n
  ·subst e
   by_cases hc:(k == NameKind.free&&env.scope.kind == .function&&env.kindOf x == some .cell)=true
   ·rw[if_pos hc] at h
    simp at h
    have hk:k=.free:=by
     simp only[Bool.and_eq_true,beq_iff_eq] at hc
     exact hc.1.1
    subst hk
    exact .inr ⟨h.symm,List.mem_cons_self⟩
   ·rw[if_neg hc] at h
    simp at h
    subst h
    exact .inl List.mem_cons_self
  ·have q:(x == (if(k == NameKind.free&&env.scope.kind == .function&&env.kindOf n == some .cell)=true then(n,NameKind.cell) else(n,k)).1)=false:=by
    split<;>simpa using e
   rw[q] at h
   rcases eU h with z | ⟨z1,z2⟩
   ·exact .inl (List.mem_cons_of_mem _ z)
   ·exact .inr ⟨z1,List.mem_cons_of_mem _ z2⟩
structure bF (X:Cx) (scope:Scope) (own bO:List Str) (cy:List Nat):Prop where
 cell:∀y∈scope.names,y.2≠.cell
 kind:scope.kind=.function
 names:∀y∈scope.names,y.2=.local→scope.names.lookup y.1=some .local
 free:∀y∈scope.names,y.2=.free→X.env.scope.names.lookup y.1=some .cell∨X.env.scope.names.lookup y.1=some .free
 RM:cy.length=bO.length
 RN:∀(i j:Nat),cy[i]? =some j→X.N[j]? =bO[i]?
 RO:∀x∈bO,(x,NameKind.free)∈scope.names∧scope.names.lookup x=some .free
def fY (X:Cx) (own bO:List Str) (scope:Scope) (C:Addr) (s₃:Shared) (H₃:Hp) (fp:List Addr):Cx:=
 {X with N:=own++bO,s₀:=s₃,H₀:=H₃,env:=compEnvC scope (dN X.env scope.names []) C X.env,outer:=X.stack,stack:=X.stack,ex:=fp,fn:=fun _=>false,pn:=[],xe:=fun _ _=>False}
def rG (own:List Str) (cy:List Nat) (σ:St):St:=List.replicate own.length none++cy.map fun j=>(σ[j]?).join
section
variable {X:Cx} {pins:List (Addr×Obj)} {σ:List (Option V)} {H:Hp} {s:Shared} {scope:Scope} {own bO:List Str} {cy:List Nat}
theorem bF.cells (sc:bF X scope own bO cy) (ok:X.Ok):∀y∈scope.names,y.2=.free→∃c,X.env.cells.lookup y.1=some c:=fun y hy hf=>by
 rcases sc.free y hy hf with z | z
 ·exact ok.has y.1 (.inl z)
 ·exact ok.has y.1 (.inr z)
theorem bF.look (sc:bF X scope own bO cy) (ok:X.Ok) {x:Str} {c:Addr} (h:(dN X.env scope.names []).lookup x=some c):X.env.cells.lookup x=some c∧(x,NameKind.free)∈scope.names:=by
 rcases vQ _ _ (mN h) with z | ⟨z1,z2⟩
 ·cases z
 ·obtain⟨c',hc⟩:=sc.cells ok (x,.free) z1 rfl
  have hc':X.env.cells.lookup x=some c':=hc
  rw[hc'] at z2
  have z3:c=c':=z2
  subst z3
  exact⟨hc',z1⟩
theorem bF.Fj (sc:bF X scope own bO cy) (ok:X.Ok) {x:Str} (h:(x,NameKind.free)∈scope.names):∃c,(dN X.env scope.names []).lookup x=some c∧X.env.cells.lookup x=some c:=by
 obtain⟨c,hc⟩:=mO (vR (env:=X.env) scope.names [] h)
 exact⟨c,hc,(sc.look ok hc).1⟩
theorem Inv.block {fp:List Addr} {h₄:Heap} {tk:Nat} (I:Inv X pins σ H s) (sc:bF X scope own bO cy) (hfp:∀b∈fp,ik X pins H b) (hfl:∀b∈fp,b<s.heap.objs.size)
  (k:∀b o,s.heap.get? b=some o→h₄.get? b=some o) (hn:h₄.Ns s.heap.objs.size fun _=>none):
  Inv (fY X own bO scope s.heap.objs.size s H fp) [] (rG own cy σ) H {s with heap:=h₄,toks:=tk}:=by
 have ok:=I.ok
 refine⟨⟨ok.mod,by show(relabel scope X.env).kind=_;exact sc.kind,ok.glob,ok.blt,Nat.le_refl _,?_,?_,fun x c h=>(nomatch h),ok.hd,ok.frames,.inl rfl,?_,fun b o e=>I.bs b o e,Nat.le_trans ok.rq I.sz,?_,?_,I.stack,I.p8⟩,rfl,I.bare,Un.kept k,?_,?_,I.fresh,?_,fun p hp=>(nomatch hp),I.hok.kept k,?_⟩
 ·intro x y c e1 e2
  exact ok.inj x y c (sc.look ok e1).1 (sc.look ok e2).1
 ·intro x h
  have mem:(x,NameKind.free)∈scope.names:=by
   rcases h with h | h
   ·rcases eU h with z | ⟨_,z⟩
    ·exact absurd rfl (sc.cell _ z)
    ·exact z
   ·rcases eU h with z | ⟨z,_⟩
    ·exact z
    ·cases z
  obtain⟨c,hc,_⟩:=sc.Fj ok mem
  exact⟨c,hc⟩
 ·intro b hb
  obtain⟨f0,f1,f2,f3,f4,f5⟩:=hfp b hb
  exact⟨Nat.ne_of_lt (hfl b hb),fun x c e=>f4 x c (sc.look ok e).1⟩
 ·intro b o e hb
  rcases(hfp b hb).2.2.2.1 with z | z
  ·exact ok.vk b o e z
  ·exact absurd (Nat.lt_of_lt_of_le (Heap.lt_size e) (Nat.le_trans ok.rq z)) (Nat.lt_irrefl _)
 ·intro b hb hfs
  obtain⟨f0,f1,f2,_⟩:=hfp b hb
  rcases List.mem_cons.mp (I.mE b hfs) with z | z
  ·exact f1 z
  ·exact f2 z
 ·refine⟨_,hn,fun i x v e1 e2 e3=>?_⟩
  have e1':(own++bO)[i]? =some x:=e1
  have e2':(List.replicate own.length none++cy.map fun j=>(σ[j]?).join)[i]? =some (some v):=e2
  by_cases hi:i<own.length
  ·rw[List.getElem?_append_left (by simpa using hi)] at e2'
   rw[List.getElem?_replicate] at e2'
   split at e2'<;>cases e2'
  ·rw[List.getElem?_append_right (by simp;omega),List.length_replicate] at e2'
   rw[List.getElem?_append_right (by omega)] at e1'
   rw[List.getElem?_map] at e2'
   cases ej:cy[i-own.length]? with
   | none=>rw[ej] at e2';cases e2'
   | some j=>
    rw[ej] at e2'
    have Aq:(σ[j]?).join=some v:=by simpa using e2'
    have e4:σ[j]? =some (some v):=by
     cases q:σ[j]? with
     | none=>rw[q] at Aq;cases Aq
     | some o=>rw[q] at Aq;simpa using Aq
    have e5:=(sc.RN _ j ej).trans e1'
    obtain⟨hm,hlk⟩:=sc.RO x (List.mem_of_getElem? e1')
    obtain⟨m,Vr,hl⟩:=I.loc
    have hv:BD X.env.scope x:=by
     rcases sc.free (x,.free) hm rfl with z | z
     ·exact .inr (.inl z)
     ·exact .inr (.inr z)
    obtain⟨u,r,lk⟩:=hl j x v e5 e4 hv
    refine⟨u,r,.inr ?_⟩
    obtain⟨c,hc,hc'⟩:=sc.Fj ok hm
    have HJ:h₄.IsCell c (some u):=by
     rcases lk with⟨z,_⟩ | ⟨_,c',hx,⟨o,ho,hd⟩⟩
     ·exfalso
      have z':X.env.scope.names.lookup x=some .local:=z
      rcases sc.free (x,.free) hm rfl with q | q
      ·rw[show X.env.scope.names.lookup x=some .cell from q] at z';cases z'
      ·rw[show X.env.scope.names.lookup x=some .free from q] at z';cases z'
     ·rw[hc'] at hx;cases hx
      exact⟨o,k _ o ho,hd⟩
    refine⟨?_,c,hc,HJ⟩
    have e3':BD (relabel scope X.env) x:=e3
    rcases e3' with z | z | z
    ·exfalso
     rcases eU z with q | ⟨q,_⟩
     ·have:=sc.names _ q rfl
      rw[show scope.names.lookup x=some .local from this] at hlk
      cases hlk
     ·cases q
    ·exact .inl z
    ·exact .inr z
 ·intro x c e
  obtain⟨v,o,ho,hd⟩:=I.cell x c (sc.look ok e).1
  exact⟨v,o,k _ o ho,hd⟩
 ·intro x c e
  exact I.jr x c (sc.look ok e).1
 ·show(List.replicate own.length none++cy.map fun j=>(σ[j]?).join).length=(own++bO).length
  simp[sc.RM]
end
theorem ny {prog:Program} {w:World} {A:Around} {R:Result→Shared→Prop} {s:Shared} {elt target iter:Expr} {ifs:List Expr} {scope:Scope} {pos:Pos} {it acc:Value} {env:Env} (I:Nat→Shared→Prop)
  (turn:∀n s,I n s→wpAny (model prog w) A (pyNext it) (fun r s₁=>match r with
   | none=>R (.ok .next) s₁
   | some v=>wpAny (model prog w) A (letOwnedTupleGo target it v) (fun _ s₁'=>wpAny (model prog w) A (assign target env v) (fun _ s₂=>
     wpAny (model prog w) A (forIn ifs true fun c r=>if r=true then do let ok ←isTrue c env (eval c env);pure (ForInStep.yield ok) else pure (ForInStep.yield r)) (fun ok s₃=>
      if ok=true then wpAny (model prog w) A (eval elt env) (fun x s₄=>
       wpAny (model prog w) A (call (.builtin "list.append") [acc,x]) (fun _ s₅=>∃m,m<n∧I m s₅) (fun _ _=>False) s₄) (fun _ _=>False) s₃
      else ∃m,m<n∧I m s₃) (fun _ _=>False) s₂) (fun _ _=>False) s₁') (fun _ _=>False) s₁) (fun _ _=>False) s)
  (n:Nat) (h:I n s):
  codeAny (model prog w) A (.compLoop (.ListComp elt [⟨target,iter,ifs,0⟩] scope pos) 0 it acc env) R s:=by
 refine codeAny_loop rfl I (fun n s hI=>?_) n h
 show wpAny _ A ((compTurn (.ListComp elt [⟨target,iter,ifs,0⟩] scope pos) 0 it acc env).onRaise (fun x=>do noteFrame x env;theTreesLotGoes x)) _ _ s
 refine wpAny_noted ?_
 rw[compTurn_list]
 refine wpAny_bind (wpAny_standAt (wpAny_bind (wpAny_mono (turn n s hI) (fun r s₁ h₁=>?_) fun _ _ h'=>h'.elim)))
 cases r with
 | none=>exact wpAny_pure h₁
 | some v=>
  refine wpAny_bind (wpAny_mono h₁ (fun _ s₁' h₁'=>?_) fun _ _ h'=>h'.elim)
  refine wpAny_bind (wpAny_mono h₁' (fun _ s₂ h₂=>wpAny_bind (wpAny_mono h₂ (fun ok s₃ h₃=>?_) fun _ _ h'=>h'.elim)) fun _ _ h'=>h'.elim)
  cases ok with
  | false=>exact wpAny_pure ⟨rfl,h₃⟩
  | true=>
   exact wpAny_bind (wpAny_bind (wpAny_mono h₃ (fun x s₄ h₄=>wpAny_bind (wpAny_mono h₄ (fun _ s₅ h₅=>wpAny_pure (wpAny_pure ⟨rfl,h₅⟩)) fun _ _ h'=>h'.elim)) fun _ _ h'=>h'.elim))
def nz (X:Cx) (ifs:List Expr) (t:TT):Prop:=
 ∀(pins:List (Addr×Obj)) (s:Shared) (σ:St) (H:Hp) (Q:Bool→Hp→Prop),Inv X pins σ H s→t σ H Q→
  wpAny (model X.prog X.w) X.A (forIn ifs true fun c r=>if r=true then do let ok ←isTrue c X.env (eval c X.env);pure (ForInStep.yield ok) else pure (ForInStep.yield r)) (TP X pins σ Q) X.xe s
def KY:TT:=fun _ H Q=>Q true H
theorem gH {X:Cx}:nz X [] KY:=fun _ _ _ H _ I h=>wpAny_tests_nil ⟨H,I,h⟩
theorem DN {X:Cx} {c:Expr} {t:TT} (h:PT X c t):nz X [c] t:=fun pins s σ H Q I hq=>wpAny_tests_one (h pins s σ H Q I hq)
def nB (J:It) (g:TG) (tt:TT) (te:TE) (D:Addr) (σ:St) (H:Hp) (R:Hp→Prop):Prop:=
 ∃W:Nat→Nat→St→Hp→Prop,(∃m,W 0 m σ H)∧∀i m σ H,W i m σ H→(J.stop i H∧R H)∨(J.go i H∧∃N:St→Hp→Prop,(∀σ' H',N σ' H'→∃m',m'<m∧W (i+1) m' σ' H')∧
  ∀x H',J.vy i H x H'→g x σ H' fun σ2 H2=>tt σ2 H2 fun b H3=>if b=true then te σ2 H3 fun y H4=>∃ys,H4 D=some (.lst ys)∧ys.length<sizeLine∧N σ2 (upd H4 D (.lst (ys++[y]))) else N σ2 H3)
section
variable {X:Cx} {scope:Scope} {own bO:List Str} {cy:List Nat} {elt tg iter:Expr} {ifs:List Expr} {pos:Pos} {g:TG} {tt:TT} {te:TE}
theorem rH {pins:List (Addr×Obj)} {σ:St} {H:Hp} {s:Shared} {J:It} {fp:List Addr} {it:Addr} {tn:Nat→Heap→Prop} {R:Addr→Hp→Prop} {RR:Value→Addr→Result→Shared→Prop} {E:Value→Shared→Prop}
  (sc:bF X scope own bO cy) (hc:X.calm=true)
  (hg:∀C s₃ H₃ fp,PG (fY X own bO scope C s₃ H₃ fp) tg g) (ht:∀C s₃ H₃ fp,nz (fY X own bO scope C s₃ H₃ fp) ifs tt) (he:∀C s₃ H₃ fp,PE (fY X own bO scope C s₃ H₃ fp) elt te)
  (I:Inv X pins σ H s) (T:Turn X.prog X.w X.K tg J fp it tn) (st:tn 0 s.heap) (hfp:∀b∈fp,ik X pins H b)
  (h:∀D,H D=none→nB J g tt te D (rG own cy σ) (upd H D (.lst [])) (R D))
  (hRR:∀D C H' s' m,Inv X pins σ H' s'→s.heap.objs.size≤C→s'.heap.Ns C m→H' C=none→R D H'→RR (.ref D) C (.ok .next) s'):
  wpAny (model X.prog X.w) X.A (newList []) (fun acc s₃=>wpAny (model X.prog X.w) X.A (newFunctionEnv scope X.env.globals (dN X.env scope.names []) [] X.env.qual none .none (some X.env)) (fun cenv s₄=>
   codeAny (model X.prog X.w) X.A (.compStart (.ListComp elt [⟨tg,iter,ifs,0⟩] scope pos) 0 (.ref it) acc {cenv with scope:=relabel scope X.env}) (RR acc cenv.locals) s₄) E s₃) E s:=by
 refine wpAny_newObj_type (wpAny_newFunctionEnv sc.cell (by intro y hy;simp at hy) (fun h₁ hns₁ hsb₁=>?_) sc.kind)
 dsimp only at hns₁ hsb₁ ⊢
 have hD:=I.fresh
 have I3:Inv X pins σ (upd H s.heap.objs.size (.lst [])) {s with heap:=s.heap.push {cls:=.type "list",dict:=none,data:=.seq ([]:List Value).toArray}}:=I.DF (its:=[]) (t':=s.toks) .nil (Nat.zero_le _)
 have hsz:(s.heap.push {cls:=.type "list",dict:=none,data:=.seq ([]:List Value).toArray}).objs.size=s.heap.objs.size+1:=Heap.size_push ..
 generalize hs3:({s with heap:=s.heap.push {cls:=.type "list",dict:=none,data:=.seq ([]:List Value).toArray}}:Shared)=s₃ at I3
 have hh3:s.heap.push {cls:=.type "list",dict:=none,data:=.seq ([]:List Value).toArray}=s₃.heap:=by rw[←hs3]
 rw[hh3] at hns₁ hsb₁ hsz ⊢
 have hfl:∀b∈fp,b<s.heap.objs.size:=fun b hb=>by
  obtain⟨o,e,_⟩:=T.obj 0 _ st b hb
  exact Heap.lt_size e
 have kB:∀b∈fp,ik X pins (upd H s.heap.objs.size (.lst [])) b:=fun b hb=>by
  obtain⟨f0,f⟩:=hfp b hb
  exact⟨by rw[br (Nat.ne_of_lt (hfl b hb))];exact f0,f⟩
 have DP:∀b∈fp,b<s₃.heap.objs.size:=fun b hb=>by rw[hsz];exact Nat.lt_succ_of_lt (hfl b hb)
 have k4:∀b o,s₃.heap.get? b=some o→h₁.get? b=some o:=fun b o e=>(hsb₁.2 b (Nat.ne_of_lt (Heap.lt_size e))).trans (Heap.get?_push_of_some _ e)
 have k3:∀b o,s.heap.get? b=some o→s₃.heap.get? b=some o:=fun b o e=>by rw[←hh3];exact Heap.get?_push_of_some _ e
 have hnone:(fun x:Str=>List.lookup x ([]:List (Str×Value)).reverse)=fun _=>none:=by funext x;rfl
 have Ar:h₁.Ns s₃.heap.objs.size fun _=>none:=by
  have q:=hns₁
  first
   | exact q
   | (rw[hnone] at q;exact q)
 have I4:=I3.block (own:=own) (tk:=s.toks+([]:List (Str×Value)).length) sc kB DP k4 Ar
 have vS:tn 0 h₁:=T.keep _ _ _ st fun b hb o e=>k4 b o (k3 b o e)
 generalize hX:fY X own bO scope s₃.heap.objs.size s₃ (upd H s.heap.objs.size (.lst [])) fp=X' at I4
 have zg:X'.prog=X.prog:=by rw[←hX];rfl
 have zh:X'.w=X.w:=by rw[←hX];rfl
 have HK:X'.K=X.K:=by rw[←hX];rfl
 have Fl:X'.A=X.A:=by rw[←hX];rfl
 have B2:X'.calm=true:=by rw[←hX];exact hc
 have HL:X'.xe=fun _ _=>False:=by rw[←hX];rfl
 have Fm:X'.env=compEnvC scope (dN X.env scope.names []) s₃.heap.objs.size X.env:=by rw[←hX];rfl
 have hg':PG X' tg g:=by rw[←hX];exact hg _ _ _ _
 have ht':nz X' ifs tt:=by rw[←hX];exact ht _ _ _ _
 have he':PE X' elt te:=by rw[←hX];exact he _ _ _ _
 have HM:∀{H':Hp} {s':Shared} {σ':St},Inv X' [] σ' H' s'→Inv X pins σ H' s'∧(∃m,s'.heap.Ns s₃.heap.objs.size m)∧H' s₃.heap.objs.size=none:=by
  intro H' s' σ' I'
  subst hX
  refine⟨I3.call' (ch:=fp) I'.os I'.base I'.hok I'.bare fun b hb=>?_,let ⟨m,hn,_⟩:=I'.loc;⟨m,hn⟩,I'.free⟩
  obtain⟨f0,f1,f2,f3,f4,f5⟩:=kB b hb
  exact⟨f3,f1,f4,f5⟩
 have stat:∀{H':Hp},(∀b∈fp,H' b=none)→∀b∈fp,ik X' [] H' b:=by
  intro H' hn b hb
  subst hX
  obtain⟨a1,a2⟩:=I4.ok.E1 b hb
  exact⟨hn b hb,a1,I4.ok.sJ b hb,.inl hb,a2,fun p hp=>by cases hp⟩
 obtain⟨W,⟨m0,w0⟩,turn⟩:=h s.heap.objs.size hD
 have loop:codeAny (model X.prog X.w) X.A (.compLoop (.ListComp elt [⟨tg,iter,ifs,0⟩] scope pos) 0 (.ref it) (.ref s.heap.objs.size) X'.env) (RR (.ref s.heap.objs.size) s₃.heap.objs.size)
   {s₃ with heap:=h₁,toks:=s.toks+([]:List (Str×Value)).length}:=by
  refine ny (fun n s'=>∃i σ' H',Inv X' [] σ' H' s'∧tn i s'.heap∧(∀b∈fp,H' b=none)∧W i n σ' H') ?_ m0 ⟨0,_,_,I4,vS,fun b hb=>(kB b hb).1,w0⟩
  rintro n s5 ⟨i,σ5,H5,I5,rA,vB,w5⟩
  rw[←zg,←zh,←Fl]
  have rJ:∀{α:Type} {t:Sem α} {Q:α→Shared→Prop} {s:Shared},wpAny (model X'.prog X'.w) X'.A t Q X'.xe s→wpAny (model X'.prog X'.w) X'.A t Q (fun _ _=>False) s:=fun h=>by rw[HL] at h;exact h
  have T':Turn X'.prog X'.w X'.K tg J fp it tn:=by rw[zg,zh,HK];exact T
  rcases turn i n σ5 H5 w5 with⟨stop,q⟩ | ⟨go,N,hN,step⟩
  ·refine aV (T'.done X' rfl rfl rfl B2 i [] s5 σ5 H5 _ I5 (stat vB) rA stop) fun r s6 ⟨hr,I6⟩=>?_
   subst hr
   obtain⟨J1,⟨m,J2⟩,J3⟩:=HM I6
   exact hRR _ _ H5 s6 m J1 (by rw[hsz];exact Nat.le_succ _) J2 J3 q
  ·refine aV (T'.item X' rfl rfl rfl B2 i [] s5 σ5 H5 _ I5 (stat vB) rA go) fun r s6 ⟨u,hr,h6⟩=>?_
   subst hr
   refine aV h6 fun _ s7 ⟨x,H7,I7,r7,y7,vT,HN⟩=>?_
   have HP:=I7.pinned (stat HN) (T'.obj _ _ vT)
   have again:∀{s9:Shared} {σ9:St} {H9:Hp},Inv X' ([]++mI fp s7.heap) σ9 H9 s9→N σ9 H9→∃m,m<n∧∃i σ' H',Inv X' [] σ' H' s9∧tn i s9.heap∧(∀b∈fp,H' b=none)∧W i m σ' H':=fun {s9 σ9 H9} I9 n9=>by
    obtain⟨m',hm,w9⟩:=hN σ9 H9 n9
    refine⟨m',hm,i+1,σ9,H9,I9.ky,T'.keep _ _ _ vT fun b hb o e=>(I9.pin (b,o) (List.mem_append_right _ (List.mem_append_right _ (gQ hb e)))).1,fun b hb=>?_,w9⟩
    obtain⟨o,e,d⟩:=T'.obj _ _ vT b hb
    exact(I9.pin (b,o) (List.mem_append_right _ (List.mem_append_right _ (gQ hb e)))).2.1
   refine aV (rJ (hg' _ s7 σ5 H7 x u _ HP r7 (step x H7 y7))) fun _ s8 ⟨σ8,H8,I8,q8⟩=>?_
   refine aV (rJ (ht' _ s8 σ8 H8 _ I8 q8)) fun b s9 ⟨H9,I9,q9⟩=>?_
   cases b with
   | false=>exact again I9 (by simpa using q9)
   | true=>
    rw[if_pos rfl] at q9
    refine aV (rJ (he' _ s9 σ8 H9 _ I9 q9)) fun y zi ⟨v,zj,HQ,r10,HR⟩=>?_
    obtain⟨ys,e10,z10,n10⟩:=HR
    refine aV (rJ (cQ _ zi σ8 zj (.ref s.heap.objs.size) [v] (.ref s.heap.objs.size) [y] (fun _ H'=>H'=upd zj s.heap.objs.size (.lst (ys++[v]))) HQ rfl (.cons r10 .nil) ⟨_,ys,v,rfl,rfl,e10,z10,rfl⟩)) fun u HS ⟨v',Fn,HU,_,HV⟩=>?_
    subst HV
    exact again HU n10
 rw[Fm] at loop
 have e4:({s with heap:=h₁,toks:=s.toks+([]:List (Str×Value)).length}:Shared)={s₃ with heap:=h₁,toks:=s.toks+([]:List (Str×Value)).length}:=by rw[←hs3]
 rw[e4]
 exact codeAny_compStart_list loop (T.self _ 0 _ _ _ vS loop)
end
def As (own:List Str) (cy:List Nat) (wi:TI) (g:TG) (tt:TT) (te:TE):TE:=fun σ H Q=>wi σ H fun J H1=>∀D,H1 D=none→nB J g tt te D (rG own cy σ) (upd H1 D (.lst [])) fun H'=>Q (.ref D) H'
section
variable {X:Cx} {scope:Scope} {own bO:List Str} {cy:List Nat} {elt tg iter:Expr} {ifs:List Expr} {pos:Pos} {wi:TI} {g:TG} {tt:TT} {te:TE}
theorem mP (sc:bF X scope own bO cy) (hc:X.calm=true) (hi:PI X tg iter wi)
  (hg:∀C s₃ H₃ fp,PG (fY X own bO scope C s₃ H₃ fp) tg g) (ht:∀C s₃ H₃ fp,nz (fY X own bO scope C s₃ H₃ fp) ifs tt) (he:∀C s₃ H₃ fp,PE (fY X own bO scope C s₃ H₃ fp) elt te)
  (hs:∀x,foldedSetIterable iter X.env x=pure x:=by intro _;rfl):PE X (.ListComp elt [⟨tg,iter,ifs,0⟩] scope pos) (As own cy wi g tt te):=by
 intro pins s σ H Q I h
 rw[eval_ListComp]
 refine wpAny_comprehension_free (use:=none) rfl hs (iN (sc.cells I.ok)) sc.kind sc.names (aV (hi pins s σ H _ I h) fun v s1 h1=>aV h1 fun itv s2 h2=>?_)
 obtain⟨it,fp,tn,J,H2,e,I2,T,st2,f2,q⟩:=h2
 subst e
 refine rH (RR:=fun acc C=>compPost (model X.prog X.w) X.A X.xe none (EP X pins σ Q) acc C) (R:=fun D H'=>Q (.ref D) H') sc hc hg ht he I2 T st2 f2 q ?_
 intro D C H' s' m I' hC hn hf hq
 refine⟨m,hn,fun h' sb=>?_⟩
 obtain⟨f0,f1,f2,f3,f4,f5⟩:=I2.mx (H':=H') hC hf
 exact⟨.ref D,H',I'.turned (t':=s'.toks) (it:=C) (fun b o hb e=>(sb.2 b hb).trans e) f0 f1 f3 f4 f5,rfl,hq⟩
theorem nC {i:Nat} {y:Str} {py spos:Pos} (sc:bF X scope own bO cy) (hc:X.calm=true) (hi:PI X tg iter wi)
  (hg:∀C s₃ H₃ fp,PG (fY X own bO scope C s₃ H₃ fp) tg g) (ht:∀C s₃ H₃ fp,nz (fY X own bO scope C s₃ H₃ fp) ifs tt) (he:∀C s₃ H₃ fp,PE (fY X own bO scope C s₃ H₃ fp) elt te)
  (hN:X.N.Nodup) (hi':X.N[i]? =some y) (hx:X.env.scope.names.lookup y=some .local)
  (hsw:swapsWith (.ListComp elt [⟨tg,iter,ifs,0⟩] scope pos) (some (.Name y py)) spos.line X.env=pure true:=by rfl)
  (hs:∀x,foldedSetIterable iter X.env x=pure x:=by intro _;rfl):PS X (.Assign [.Name y py] (.ListComp elt [⟨tg,iter,ifs,0⟩] scope pos) spos) (nh (As own cy wi g tt te) (iJ i)):=by
 intro pins s σ H D I h
 rw[exec_Assign_Name_used _ _ _ _ hsw]
 refine wpAny_bind (wpAny_standAt (wpAny_bind ?_))
 show wpAny _ X.A (do let _ ←comprehension (.ListComp elt [⟨tg,iter,ifs,0⟩] scope pos) scope X.env _ (newList []) false (eval iter X.env) (some (assign (.Name y py) X.env))) _ _ s
 refine wpAny_bind (wpAny_mono (wpAny_comprehension_free (use:=some (assign (.Name y py) X.env)) (Q:=fun _ s'=>SP X pins D .next s') rfl hs (iN (sc.cells I.ok)) sc.kind sc.names
  (aV (hi pins s σ H _ I h) fun v s1 h1=>aV h1 fun itv s2 h2=>?_)) (fun _ s' hq=>wpAny_pure (wpAny_pure hq)) fun _ _ e=>e)
 obtain⟨it,fp,tn,J,H2,e,I2,T,st2,f2,q⟩:=h2
 subst e
 refine rH (RR:=fun acc C=>compPost (model X.prog X.w) X.A X.xe (some (assign (.Name y py) X.env)) (fun _ s'=>SP X pins D .next s') acc C) (R:=fun E H'=>D.nx (σ.set i (some (.ref E))) H') sc hc hg ht he I2 T st2 f2 q ?_
 intro E C H' s' m I' hC hn hf hq
 show wpAny _ X.A (assign (.Name y py) X.env (.ref E)) _ _ _
 obtain⟨f0,f1,f2,f3,f4,f5⟩:=I2.mx (H':=H') hC hf
 refine wpAny_assign_Name (oS I' hN hi' (.inl hx) (v:=.ref E) (u:=.ref E) rfl (fun s3 I3 ⟨a,sb,ha⟩=>?_) (.inr hx))
 have HW:C≠a:=by
  rcases ha with z | z
  ·rw[z];exact f1
  ·exact(f4 y a z).symm
 refine⟨m,hn.sameBut sb HW,fun h' HX=>?_⟩
 exact⟨_,H',I3.turned (t':=s3.toks) (it:=C) (fun b o hb e=>(HX.2 b hb).trans e) f0 f1 f3 f4 f5,hq⟩
end
theorem nE {lo:Int} {n:Nat} {g:TG} {tt:TT} {te:TE} {D:Addr} {σ:St} {H:Hp} {R:Hp→Prop} (Pv:Nat→St→Hp→Prop) (h0:Pv 0 σ H)
  (hs:∀i σ H,i<n→Pv i σ H→g (.int (lo+i)) σ H fun σ2 H2=>tt σ2 H2 fun b H3=>if b=true then te σ2 H3 fun y H4=>∃ys,H4 D=some (.lst ys)∧ys.length<sizeLine∧Pv (i+1) σ2 (upd H4 D (.lst (ys++[y]))) else Pv (i+1) σ2 H3)
  (hd:∀σ H,Pv n σ H→R H):nB (tT lo n) g tt te D σ H R:=by
 refine⟨fun i m σ H=>m=n-i∧i≤n∧Pv i σ H,⟨n,by simp,Nat.zero_le _,h0⟩,?_⟩
 rintro i m σ H ⟨rfl,hi,p⟩
 by_cases hlt:i<n
 ·refine .inr ⟨hlt,Pv (i+1),fun σ' H' p'=>⟨n-(i+1),by omega,rfl,hlt,p'⟩,fun x H' y=>?_⟩
  obtain⟨e,y⟩:=y
  subst e y
  exact hs i σ _ hlt p
 ·have e:i=n:=by omega
  subst e
  exact .inl ⟨Nat.le_refl _,hd σ H p⟩
theorem oY {K:PySem.W.Frag} {a:Addr} {xs:List V} {g:TG} {tt:TT} {te:TE} {D:Addr} {σ:St} {H:Hp} {R:Hp→Prop} (Pv:Nat→St→Hp→Prop) (h0:Pv 0 σ H) (hl:∀i σ H,i≤xs.length→Pv i σ H→bW K H a xs)
  (hs:∀i x σ H,xs[i]? =some x→Pv i σ H→g x σ H fun σ2 H2=>tt σ2 H2 fun b H3=>if b=true then te σ2 H3 fun y H4=>∃ys,H4 D=some (.lst ys)∧ys.length<sizeLine∧Pv (i+1) σ2 (upd H4 D (.lst (ys++[y]))) else Pv (i+1) σ2 H3)
  (hd:∀σ H,Pv xs.length σ H→R H):nB (yW K a) g tt te D σ H R:=by
 refine⟨fun i m σ H=>m=xs.length-i∧i≤xs.length∧Pv i σ H,⟨xs.length,by simp,Nat.zero_le _,h0⟩,?_⟩
 rintro i m σ H ⟨rfl,hi,p⟩
 have q:=hl i σ H hi p
 by_cases hlt:i<xs.length
 ·refine .inr ⟨⟨xs,xs[i],q,by simp[hlt]⟩,Pv (i+1),fun σ' H' p'=>⟨xs.length-(i+1),by omega,rfl,hlt,p'⟩,fun x H' y=>?_⟩
  obtain⟨e,y⟩:=y
  subst e
  exact hs i x σ _ (y xs q) p
 ·have e:i=xs.length:=by omega
  subst e
  exact .inl ⟨⟨xs,q,Nat.le_refl _⟩,hd σ H p⟩
theorem vU {K:PySem.W.Frag} {a:Addr} {xs:List V} {g:TG} {tt:TT} {te:TE} {D:Addr} {σ:St} {H:Hp} {R:Hp→Prop} (Pv:Nat→St→Hp→Prop) (h0:Pv 0 σ H) (hl:∀i σ H,i≤xs.length→Pv i σ H→bY K H a xs)
  (hs:∀i x σ H,xs[i]? =some x→Pv i σ H→g x σ H fun σ2 H2=>tt σ2 H2 fun b H3=>if b=true then te σ2 H3 fun y H4=>∃ys,H4 D=some (.lst ys)∧ys.length<sizeLine∧Pv (i+1) σ2 (upd H4 D (.lst (ys++[y]))) else Pv (i+1) σ2 H3)
  (hd:∀σ H,Pv xs.length σ H→R H):nB (yX K a) g tt te D σ H R:=by
 refine⟨fun i m σ H=>m=xs.length-i∧i≤xs.length∧Pv i σ H,⟨xs.length,by simp,Nat.zero_le _,h0⟩,?_⟩
 rintro i m σ H ⟨rfl,hi,p⟩
 have q:=hl i σ H hi p
 by_cases hlt:i<xs.length
 ·refine .inr ⟨⟨xs,xs[i],q,by simp[hlt]⟩,Pv (i+1),fun σ' H' p'=>⟨xs.length-(i+1),by omega,rfl,hlt,p'⟩,fun x H' y=>?_⟩
  obtain⟨e,y⟩:=y
  subst e
  exact hs i x σ _ (y xs q) p
 ·have e:i=xs.length:=by omega
  subst e
  exact .inl ⟨⟨xs,q,Nat.le_refl _⟩,hd σ H p⟩
section
variable {X:Cx}
def KZ (i j:Int):Prop:=0<j∧j.natAbs.log2<9000
theorem qH:cW X (binaryOp .FloorDiv) (rI KZ fun i j=>.int (i / j)):=E7 fun i j _ _ _ _ _ hc q=>by
 obtain⟨h0,h1⟩:=hc
 refine floordiv_int (by omega) ?_ (.inl (PyProof.noPylong_of_log2 h1))
 rw[Int.fdiv_eq_ediv_of_nonneg _ (by omega)]
 exact q
theorem xU:fm X (.builtin "isinstance") (fun xs H Q=>∃(x:V) (t:Value) (T:String) (b:Bool),xs=[x,.ty T]∧il X.K H x t∧PySem.W.kitOne X.K t (.type T)=some b∧Q (.bl b) H):=by
 intro pins s σ H xs us Q I r h
 obtain⟨x,t,T,b,rfl,ty,e,q⟩:=h
 obtain⟨u,w',rfl,rx,rT⟩:=vals2 r
 cases(show w'=Value.type T from rT)
 exact BL I rx ty e fun tk=>⟨.bl b,H,I.tok tk,rfl,q⟩
theorem zk:cW X (binaryOp .Add) (fun x y H Q=>∃(a b:Addr) (ys:List V),x=.ref a∧y=.ref b∧bY X.K H a []∧bY X.K H b ys∧Q (.ref b) H):=by
 intro pins s σ H x y v u Q I rx ry h
 obtain⟨a,b,ys,rfl,rfl,ha,hb,q⟩:=h
 cases rx
 cases ry
 obtain⟨its,r1,p1,_⟩:=I.tuple ha
 obtain⟨its2,r2,p2,_⟩:=I.tuple hb
 cases r1
 obtain⟨⟨cls,dd,data,sl⟩,ho,hc,n,hd⟩:=id p1
 obtain⟨⟨cls2,dd2,data2,sl2⟩,ho2,hc2,n2,hd2⟩:=id p2
 simp only at hc hd hc2 hd2
 subst hc hd hc2 hd2
 exact concat_meets ⟨_,ho,rfl⟩ ⟨_,ho2,rfl⟩ noFill_tuple_add seq_tuple_add PySem.F.slot_tuple_add PySem.F.entry_tuple_add (PySem.F.args_tuple_add_2 _ _)
  (tuple_addW0 a b #[] its2.toArray n n2 dd dd2 sl sl2 rfl) ⟨ho,ho2,⟨.ref b,H,I,rfl,q⟩⟩
def Fp (K:PySem.W.Frag):R2:=fun x y H Q=>∃(a b:Addr) (xs ys:List V),x=.ref a∧y=.ref b∧bY K H a xs∧bY K H b ys∧ys≠[]∧xs.length+ys.length≤sizeLine∧
 (xs=[]→Q (.ref b) H)∧(xs≠[]→∀p,H p=none→Q (.ref p) (upd H p (.tup (xs++ys))))
theorem GP:cW X (binaryOp .Add) (Fp X.K):=by
 intro pins s σ H x y v u Q I rx ry h
 obtain⟨a,b,xs,ys,rfl,rfl,ha,hb,hy,hz,q1,q2⟩:=h
 by_cases hx:xs=[]
 ·subst hx
  exact zk pins s σ H _ _ v u Q I rx ry ⟨a,b,ys,rfl,rfl,ha,hb,q1 rfl⟩
 ·exact y3 pins s σ H _ _ v u Q I rx ry ⟨a,b,xs,ys,rfl,rfl,ha,hb,hx,hz,fun z=>absurd z hy,fun _=>q2 hx⟩
end
def t9 (scope esc:Scope) (N own bO:List Str) (cy:List Nat):Bool:=
 scope.names.all (fun y=>y.2 != .cell)&&scope.kind == .function&&scope.names.all (fun y=>y.2 != .local||scope.names.lookup y.1 == some .local)
 &&scope.names.all (fun y=>y.2 != .free||(esc.names.lookup y.1 == some .cell||esc.names.lookup y.1 == some .free))
 &&cy.length == bO.length&&(List.range cy.length).all (fun i=>(cy[i]?).bind (fun j=>N[j]?) == bO[i]?)
 &&bO.all (fun x=>scope.names.contains (x,NameKind.free)&&scope.names.lookup x == some .free)
theorem bF.mk' {X:Cx} {scope esc:Scope} {N own bO:List Str} {cy:List Nat} (hs:X.env.scope=esc) (hN:X.N=N) (h:t9 scope esc N own bO cy=true):bF X scope own bO cy:=by
 unfold t9 at h
 simp only[Bool.and_eq_true,List.all_eq_true,bne_iff_ne,beq_iff_eq,Bool.or_eq_true,List.contains_iff_mem] at h
 obtain⟨⟨⟨⟨⟨⟨h1,h2⟩,h3⟩,h4⟩,h5⟩,h6⟩,h7⟩:=h
 refine⟨h1,h2,fun y hy hl=>?_,fun y hy hf=>?_,h5,fun i j e=>?_,fun x hx=>h7 x hx⟩
 ·rcases h3 y hy with z | z
  ·exact absurd hl z
  ·exact z
 ·rw[hs]
  rcases h4 y hy with z | z
  ·exact absurd hf z
  ·exact z
 ·have hi:i<cy.length:=(List.getElem?_eq_some_iff.mp e).1
  have q:=h6 i (List.mem_range.mpr hi)
  rw[e] at q
  rw[hN]
  exact q
def KB (d:Addr) (H H':Hp):Prop:=∀b o,H b=some o→b≠d→H' b=some o
theorem KB.refl (d:Addr) (H:Hp):KB d H H:=fun _ _ h _=>h
theorem KB.trans {d:Addr} {H H1 H2:Hp} (a:KB d H H1) (b:KB d H1 H2):KB d H H2:=fun c o h n=>b c o (a c o h n) n
theorem KB.write {d:Addr} {H:Hp} {o:HO}:KB d H (upd H d o):=fun b o h n=>by rw[br n];exact h
theorem Same.kb {d:Addr} {H H':Hp} (s:Same H H'):KB d H H':=fun b o h _=>s b o h
theorem Same.new {H:Hp} {p:Addr} {o:HO} (h:H p=none):Same H (upd H p o):=fun b u e=>by rw[br (aU e h)];exact e
theorem Same.kbn {d:Addr} {H H1 H2:Hp} (s:Same H H1) (h:H d=none) (k:KB d H1 H2):Same H H2:=fun b o e=>k b o (s b o e) (aU e h)
theorem KB.seq {K:PySem.W.Frag} {d:Addr} {H H':Hp} {a:Addr} {xs:List V} (e:KB d H H') (n:a≠d) (h:bW K H a xs):bW K H' a xs:=by
 rcases h with(h | ⟨o,h⟩) | h
 ·exact .inl (.inl (e _ _ h n))
 ·exact .inl (.inr ⟨o,e _ _ h n⟩)
 ·exact .inr h
theorem Same.dr {K:PySem.W.Frag} {H H':Hp} {a:Addr} {xs:List V} (e:Same H H') (h:bY K H a xs):bY K H' a xs:=by
 rcases h with(h | ⟨o,h⟩) | h
 ·exact .inl (.inl (e _ _ h))
 ·exact .inl (.inr ⟨o,e _ _ h⟩)
 ·exact .inr h
def eB (H H':Hp):Prop:=∀b xs,H b=some (.tup xs)→H' b=some (.tup xs)
theorem eB.trans {H H1 H2:Hp} (a:eB H H1) (b:eB H1 H2):eB H H2:=fun c o h=>b c o (a c o h)
theorem Same.kt {H H':Hp} (s:Same H H'):eB H H':=fun b xs h=>s b _ h
theorem eB.lst {H:Hp} {d:Addr} {xs:List V} {o:HO} (h:H d=some (.lst xs)):eB H (upd H d o):=fun b ys e=>by
 rw[br (h_ e h (fun z=>nomatch z))];exact e
theorem eB.kb {d:Addr} {xs:List V} {H H':Hp} (h:H d=some (.lst xs)) (k:KB d H H'):eB H H':=fun b ys e=>k b _ e (h_ e h (fun z=>nomatch z))
theorem fZ {α β:Type} {F:α→β→Prop}:∀{xs ys:List α} {us ws:List β},Paired F xs us→Paired F ys ws→Paired F (xs++ys) (us++ws)
 | _,_,_,_,.nil,s=>s
 | _,_,_,_,.cons r t,s=>.cons r (fZ t s)
end L2
namespace L2
open PySem
theorem cz:bootBuiltins "len"=some (.builtin "len"):=by decide+kernel
theorem B3:bootBuiltins "min"=some (.builtin "min"):=by decide+kernel
theorem uS:bootBuiltins "isinstance"=some (.builtin "isinstance"):=by decide+kernel
theorem ua:bootBuiltins "sorted"=some (.builtin "sorted"):=by decide+kernel
theorem HY:bootBuiltins "all"=some (.builtin "all"):=by decide+kernel
theorem GQ:bootBuiltins "list"=some (.type "list"):=by decide+kernel
theorem vV:bootBuiltins "tuple"=some (.type "tuple"):=by decide+kernel
theorem kC:bootBuiltins "int"=some (.type "int"):=by decide+kernel
theorem oZ:bootBuiltins "str"=some (.type "str"):=by decide+kernel
theorem HZ:bootBuiltins "set"=some (.type "set"):=by decide+kernel
theorem xV:bootBuiltins "reversed"=some (.type "reversed"):=by decide+kernel
end L2
namespace L2
open PySem PySem.Spec PyProof.Rows
def M7 (K:PySem.W.Frag):List V→Hp→VK→Prop:=fun xs H Q=>∃x n,xs=[x]∧Dy K x H n∧Q (.int n) H
def M8 (K:PySem.W.Frag):List V→Hp→VK→Prop:=fun xs H Q=>∃(x:V) (t:Value) (T:String) (b:Bool),xs=[x,.ty T]∧il K H x t∧PySem.W.kitOne K t (.type T)=some b∧Q (.bl b) H
section
variable {X:Cx}
theorem bJ (K:PySem.W.Frag) (hK:X.K=K:=by rfl):fm X (.builtin "len") (M7 K):=by subst hK;exact Dz
theorem B4 (K:PySem.W.Frag) (hK:X.K=K:=by rfl):fm X (.builtin "isinstance") (M8 K):=by subst hK;exact xU
theorem bH (K:PySem.W.Frag) (hK:X.K=K:=by rfl):y8 X (DD K):=by subst hK;exact GH
theorem aE (K:PySem.W.Frag) (hK:X.K=K:=by rfl):y8 X (DE K):=by subst hK;exact Hz
theorem DQ (K:PySem.W.Frag) (hK:X.K=K:=by rfl):Fe X (HB K):=by subst hK;exact GI
theorem vW (K:PySem.W.Frag) (hK:X.K=K:=by rfl):cW X (binaryOp .Add) (Fp K):=by subst hK;exact GP
theorem mQ (K:PySem.W.Frag) (hK:X.K=K:=by rfl):cW X (compareOp .In) (Ff K false):=by subst hK;exact BR
theorem B5 (K:PySem.W.Frag) (hK:X.K=K:=by rfl):cW X (compareOp .NotIn) (Ff K true):=by subst hK;exact vJ
def H_ (_ j:Int):Prop:=0<j
theorem cpos {i j:Int} (h:0<j):H_ i j:=h
theorem cR:cW X (binaryOp .Mod) (rI H_ fun i j=>.int (i % j)):=Hn
end
end L2
namespace L2
theorem vX {t u:TS} {D:Ends} {σ:St} {H:Hp} (Pv:St→Hp→Prop) (h1:∀σ H,Pv σ H→u D σ H) (h2:(∀σ H,Pv σ H→u D σ H)→t {D with nx:=u D} σ H):qF t u D σ H:=h2 h1
end L2
namespace L2
open PySem PySem.Spec PyProof.Rows
inductive Dt where
 | non | bl (b:Bool) | int (i:Int) | str (x:Str) | tup (xs:List Dt) | lst (xs:List Dt)
mutual
def Dt.beq:Dt→Dt→Bool
 | .non,.non=>true
 | .bl a,.bl b=>a == b
 | .bl a,.int b=>(if a then 1 else 0) == b
 | .int a,.bl b=>a == (if b then 1 else 0)
 | .int a,.int b=>a == b
 | .str a,.str b=>a == b
 | .tup xs,.tup ys=>Dt.dO xs ys
 | .lst xs,.lst ys=>Dt.dO xs ys
 | _,_=>false
def Dt.dO:List Dt→List Dt→Bool
 | [],[]=>true
 | x::xs,y::ys=>x.beq y&&Dt.dO xs ys
 | _,_=>false
end
mutual
def Dt.dep:Dt→Nat
 | .tup xs=>Dt.deps xs+1
 | .lst xs=>Dt.deps xs+1
 | _=>0
def Dt.deps:List Dt→Nat
 | []=>0
 | x::xs=>max x.dep (Dt.deps xs)
end
mutual
def aq (K:PySem.W.Frag) (H:Hp):V→Dt→Prop
 | x,.non=>x=.non
 | x,.bl b=>x=.bl b
 | x,.int i=>x=.int i
 | x,.str z=>x=.str z
 | x,.tup ds=>∃a xs,x=.ref a∧bY K H a xs∧aF K H xs ds
 | x,.lst ds=>∃a xs,x=.ref a∧bW K H a xs∧aF K H xs ds
def aF (K:PySem.W.Frag) (H:Hp):List V→List Dt→Prop
 | [],[]=>True
 | x::xs,d::ds=>aq K H x d∧aF K H xs ds
 | _,_=>False
end
theorem Dt.beq_refl (d:Dt):d.beq d=true:=by
 induction d using Dt.rec (motive_2:=fun xs=>Dt.dO xs xs=true) with
 | non=>simp[Dt.beq]
 | bl b=>simp[Dt.beq]
 | int b=>simp[Dt.beq]
 | str b=>simp[Dt.beq]
 | tup xs ih=>simp[Dt.beq,ih]
 | lst xs ih=>simp[Dt.beq,ih]
 | nil=>simp[Dt.dO]
 | cons x xs h1 h2=>simp[Dt.dO,h1,h2]
theorem aF.length {K:PySem.W.Frag} {H:Hp}:∀{xs:List V} {ds:List Dt},aF K H xs ds→xs.length=ds.length
 | [],[],_=>rfl
 | [],_::_,h=>by simp[aF] at h
 | _::_,[],h=>by simp[aF] at h
 | x::xs,d::ds,h=>by
  rw[aF] at h
  rw[List.length_cons,List.length_cons,aF.length h.2]
theorem aF.get {K:PySem.W.Frag} {H:Hp}:∀{xs:List V} {ds:List Dt} {i:Nat} {x:V},aF K H xs ds→xs[i]? =some x→∃d,ds[i]? =some d∧aq K H x d
 | [],_,_,_,_,e=>by simp at e
 | _::_,[],_,_,h,_=>by simp[aF] at h
 | x::xs,d::ds,0,y,h,e=>by
  rw[aF] at h
  simp at e;subst e
  exact⟨d,rfl,h.1⟩
 | x::xs,d::ds,i+1,y,h,e=>by
  rw[aF] at h
  obtain⟨d',h1,h2⟩:=aF.get (i:=i) (x:=y) h.2 (by simpa using e)
  exact⟨d',by simpa using h1,h2⟩
theorem Dt.fO {d:Dt}:∀{ds:List Dt},d∈ds→d.dep≤Dt.deps ds
 | [],h=>by cases h
 | x::xs,h=>by
  rw[Dt.deps]
  rcases List.mem_cons.mp h with rfl | h
  ·exact Nat.le_max_left ..
  ·exact Nat.le_trans (Dt.fO h) (Nat.le_max_right ..)
def va (xs ys:List Dt) (j:Nat):Bool:=match xs[j]?,ys[j]? with
 | some x,some y=>x.beq y
 | _,_=>false
theorem sS (n:Nat) (e:Nat→Bool):(List.range (n+1)).all e=(e 0&&(List.range n).all fun j=>e (j+1)):=by
 rw[List.range_succ_eq_map,List.all_cons,List.all_map];rfl
theorem ja:∀(xs ys:List Dt),xs.length=ys.length→(List.range xs.length).all (va xs ys)=Dt.dO xs ys
 | [],[],_=>by simp[Dt.dO]
 | x::xs,y::ys,h=>by
  have h':xs.length=ys.length:=by simpa using h
  rw[List.length_cons,sS,Dt.dO,←ja xs ys h']
  rfl
theorem jb:∀(xs ys:List Dt),xs.length≠ys.length→Dt.dO xs ys=false
 | [],[],h=>absurd rfl h
 | [],_::_,_=>by simp[Dt.dO]
 | _::_,[],_=>by simp[Dt.dO]
 | x::xs,y::ys,h=>by
  have h':xs.length≠ys.length:=fun z=>h (by simp[z])
  rw[Dt.dO,jb xs ys h',Bool.and_false]
section
variable {X:Cx} {pins:List (Addr×Obj)} {σ:St} {H:Hp} {s:Shared}
theorem mR {a:Addr} {xs ys:List V} (I:Inv X pins σ H s) (h1:bW X.K H a xs) (h2:bY X.K H a ys):False:=by
 obtain⟨its,_,p,_⟩:=I.list h1
 obtain⟨its2,_,q,_⟩:=I.tuple h2
 exact SeqAt.ne_of_list_tuple p.isList (show s.heap.IsTuple a its2.toArray from q) rfl
theorem sT (I:Inv X pins σ H s) (d:Dt):∀(x:V) (d':Dt),aq X.K H x d→aq X.K H x d'→d=d':=by
 induction d using Dt.rec (motive_2:=fun ds=>∀(xs:List V) (ds':List Dt),aF X.K H xs ds→aF X.K H xs ds'→ds=ds') with
 | non=>intro x d' h h';cases d'<;>simp_all [aq]
 | bl b=>intro x d' h h';cases d'<;>simp_all [aq]
 | int b=>intro x d' h h';cases d'<;>simp_all [aq]
 | str b=>intro x d' h h';cases d'<;>simp_all [aq]
 | tup ds ih=>
  intro x d' h h'
  rw[aq] at h
  obtain⟨a,xs,rfl,hq,hd⟩:=h
  cases d' with
  | tup ds'=>
   rw[aq] at h'
   obtain⟨a',xs',e,hq',hd'⟩:=h'
   cases e
   rw[I.tS hq' hq] at hd'
   rw[ih xs ds' hd hd']
  | lst ds'=>
   rw[aq] at h'
   obtain⟨a',xs',e,hq',hd'⟩:=h'
   cases e
   exact(mR I hq' hq).elim
  | _=>simp[aq] at h'
 | lst ds ih=>
  intro x d' h h'
  rw[aq] at h
  obtain⟨a,xs,rfl,hq,hd⟩:=h
  cases d' with
  | lst ds'=>
   rw[aq] at h'
   obtain⟨a',xs',e,hq',hd'⟩:=h'
   cases e
   rw[I.qE hq' hq] at hd'
   rw[ih xs ds' hd hd']
  | tup ds'=>
   rw[aq] at h'
   obtain⟨a',xs',e,hq',hd'⟩:=h'
   cases e
   exact(mR I hq hq').elim
  | _=>simp[aq] at h'
 | nil=>
  rename_i xs ds' h h'
  cases xs with
  | nil=>cases ds' with
   | nil=>rfl
   | cons _ _=>simp[aF] at h'
  | cons _ _=>simp[aF] at h
 | cons d ds h1 h2=>
  rename_i xs ds' h h'
  cases xs with
  | nil=>simp[aF] at h
  | cons x xs=>cases ds' with
   | nil=>simp[aF] at h'
   | cons d' ds'=>
    rw[aF] at h h'
    rw[h1 x d' h.1 h'.1,h2 xs ds' h.2 h'.2]
theorem kD {A:Around} {xs ys:List V} {ds ds':List Dt} {its its2:List Value} (r1:Vals xs its) (r2:Vals ys its2) (h1:aF X.K H xs ds) (h2:aF X.K H ys ds')
  (ih:∀d∈ds,∀(d':Dt) (x y:V) (u v:Value),aq X.K H x d→aq X.K H y d'→RelV x u→RelV y v→SeqAt.EqAt A s u v (d.beq d')):
  ∀j (a:j<its.toArray.size) (b:j<its2.toArray.size),SeqAt.EqAt A s its.toArray[j] its2.toArray[j] (va ds ds' j):=fun j a b=>by
 have a':j<its.length:=by simpa using a
 have b':j<its2.length:=by simpa using b
 have la:=r1.length
 have lb:=r2.length
 have ex:xs[j]? =some (xs[j]'(by omega)):=List.getElem?_eq_getElem (by omega)
 have ey:ys[j]? =some (ys[j]'(by omega)):=List.getElem?_eq_getElem (by omega)
 obtain⟨u,eu,ru⟩:=r1.get ex
 obtain⟨v,ev,rv⟩:=r2.get ey
 obtain⟨d,ed,hd⟩:=h1.get ex
 obtain⟨d',ed',hd'⟩:=h2.get ey
 have e1:its.toArray[j]=u:=by
  rw[List.getElem?_eq_getElem a'] at eu
  simpa using Option.some.inj eu
 have e2:its2.toArray[j]=v:=by
  rw[List.getElem?_eq_getElem b'] at ev
  simpa using Option.some.inj ev
 rw[e1,e2]
 have e3:va ds ds' j=d.beq d':=by unfold va;rw[ed,ed']
 rw[e3]
 exact ih d (List.mem_of_getElem? ed) d' _ _ u v hd hd' ru rv
theorem vY {A:Around} {a b:Addr} {xs ys:List V} {ds ds':List Dt} (I:Inv X pins σ H s) (q1:bW X.K H a xs) (q2:bW X.K H b ys) (h1:aF X.K H xs ds) (h2:aF X.K H ys ds') (hu:A.units<cLine)
  (ih:∀d∈ds,∀(d':Dt) (x y:V) (u v:Value),aq X.K H x d→aq X.K H y d'→RelV x u→RelV y v→SeqAt.EqAt A.in1 s u v (d.beq d')):SeqAt.RcAt A s (.ref a) (.ref b) (Dt.dO ds ds'):=by
 obtain⟨its,r1,p1,_⟩:=I.list q1
 obtain⟨its2,r2,p2,_⟩:=I.list q2
 have l1:=r1.length
 have l2:=r2.length
 have l3:=h1.length
 have l4:=h2.length
 by_cases hl:ds.length=ds'.length
 ·have:=SeqAt.RcAt.lists p1.isList p2.isList (by simp;omega) hu (kD r1 r2 h1 h2 ih)
  rw[show its.toArray.size=ds.length by simp;omega,ja ds ds' hl] at this
  exact this
 ·rw[jb ds ds' hl]
  exact SeqAt.RcAt.lists_lengths p1.isList p2.isList (by simp;omega) hu
theorem o_ {A:Around} {a b:Addr} {xs ys:List V} {ds ds':List Dt} (I:Inv X pins σ H s) (q1:bY X.K H a xs) (q2:bY X.K H b ys) (h1:aF X.K H xs ds) (h2:aF X.K H ys ds') (hu:A.units<cLine)
  (ih:∀d∈ds,∀(d':Dt) (x y:V) (u v:Value),aq X.K H x d→aq X.K H y d'→RelV x u→RelV y v→SeqAt.EqAt A.in1 s u v (d.beq d')):SeqAt.RcAt A s (.ref a) (.ref b) (Dt.dO ds ds'):=by
 obtain⟨its,r1,p1,_⟩:=I.tuple q1
 obtain⟨its2,r2,p2,_⟩:=I.tuple q2
 have l1:=r1.length
 have l2:=r2.length
 have l3:=h1.length
 have l4:=h2.length
 have:=SeqAt.RcAt.tuples (show s.heap.IsTuple a its.toArray from p1) (show s.heap.IsTuple b its2.toArray from p2) hu (kD r1 r2 h1 h2 ih)
 by_cases hl:ds.length=ds'.length
 ·rw[show min its.toArray.size its2.toArray.size=ds.length by simp;omega,ja ds ds' hl,show(its.toArray.size == its2.toArray.size)=true by simp;omega,Bool.and_true] at this
  exact this
 ·rw[show(its.toArray.size == its2.toArray.size)=false by simp;omega,Bool.and_false] at this
  rw[jb ds ds' hl]
  exact this
theorem jc (I:Inv X pins σ H s) (d:Dt):∀(A:Around) (d':Dt) (x y:V) (u v:Value),A.units+d.dep<cLine→aq X.K H x d→aq X.K H y d'→RelV x u→RelV y v→SeqAt.EqAt A s u v (d.beq d'):=by
 have flat:∀{A:Around} {d d':Dt} {x y:V} {u v:Value},js x=true→js y=true→mL x y=d.beq d'→RelV x u→RelV y v→SeqAt.EqAt A s u v (d.beq d'):=fun fx fy e ru rv=>e▸BP ru rv fx fy
 have zm:∀{a:Addr} {xs:List V},bW X.K H a xs→∃its:Array Value,s.heap.IsList a its:=fun q=>let ⟨its,_,p,_⟩:=I.list q;⟨_,p.isList⟩
 have zo:∀{a:Addr} {xs:List V},bY X.K H a xs→∃its:Array Value,s.heap.IsTuple a its:=fun q=>let ⟨its,_,p,_⟩:=I.tuple q;⟨_,p⟩
 have refs:∀{A:Around} {a b:Addr} {d d':Dt},aq X.K H (.ref a) d→aq X.K H (.ref b) d'→SeqAt.RcAt A s (.ref a) (.ref b) (d.beq d')→SeqAt.EqAt A s (.ref a) (.ref b) (d.beq d'):=by
  intro A a b d d' h h' r
  by_cases e:a=b
  ·subst e
   rw[←sT I d _ _ h h',Dt.beq_refl]
   exact SeqAt.EqAt.same _
  ·exact SeqAt.EqAt.of_refs e r
 induction d using Dt.rec (motive_2:=fun ds=>∀d∈ds,∀(A:Around) (d':Dt) (x y:V) (u v:Value),A.units+d.dep<cLine→aq X.K H x d→aq X.K H y d'→RelV x u→RelV y v→SeqAt.EqAt A s u v (d.beq d')) with
 | non=>
  intro A d' x y u v hu h h' ru rv
  rw[aq] at h
  subst h
  have hu':A.units<cLine:=by omega
  cases d' with
  | tup ds'=>
   rw[aq] at h';obtain⟨b,ys,rfl,q,_⟩:=h'
   cases ru;cases rv
   obtain⟨its,p⟩:=zo q
   exact SeqAt.EqAt.none_tuple p hu'
  | lst ds'=>
   rw[aq] at h';obtain⟨b,ys,rfl,q,_⟩:=h'
   cases ru;cases rv
   obtain⟨its,p⟩:=zm q
   exact SeqAt.EqAt.none_list p hu'
  | _=>rw[aq] at h';subst h';exact flat rfl rfl (by simp[Dt.beq,mL]) ru rv
 | bl b0=>
  intro A d' x y u v hu h h' ru rv
  rw[aq] at h
  subst h
  have hu':A.units<cLine:=by omega
  cases d' with
  | tup ds'=>
   rw[aq] at h';obtain⟨b,ys,rfl,q,_⟩:=h'
   cases ru;cases rv
   obtain⟨its,p⟩:=zo q
   exact SeqAt.EqAt.bool_tuple _ p hu'
  | lst ds'=>
   rw[aq] at h';obtain⟨b,ys,rfl,q,_⟩:=h'
   cases ru;cases rv
   obtain⟨its,p⟩:=zm q
   exact SeqAt.EqAt.bool_list _ p hu'
  | _=>rw[aq] at h';subst h';exact flat rfl rfl (by simp[Dt.beq,mL]) ru rv
 | int i0=>
  intro A d' x y u v hu h h' ru rv
  rw[aq] at h
  subst h
  have hu':A.units<cLine:=by omega
  cases d' with
  | tup ds'=>
   rw[aq] at h';obtain⟨b,ys,rfl,q,_⟩:=h'
   obtain⟨t,rfl⟩:=ru;cases rv
   obtain⟨its,p⟩:=zo q
   exact SeqAt.EqAt.int_tuple _ _ p hu'
  | lst ds'=>
   rw[aq] at h';obtain⟨b,ys,rfl,q,_⟩:=h'
   obtain⟨t,rfl⟩:=ru;cases rv
   obtain⟨its,p⟩:=zm q
   exact SeqAt.EqAt.int_list _ _ p hu'
  | _=>rw[aq] at h';subst h';exact flat rfl rfl (by simp[Dt.beq,mL]) ru rv
 | str z0=>
  intro A d' x y u v hu h h' ru rv
  rw[aq] at h
  subst h
  have hu':A.units<cLine:=by omega
  cases d' with
  | tup ds'=>
   rw[aq] at h';obtain⟨b,ys,rfl,q,_⟩:=h'
   obtain⟨t,rfl⟩:=ru;cases rv
   obtain⟨its,p⟩:=zo q
   exact SeqAt.EqAt.str_tuple _ _ p hu'
  | lst ds'=>
   rw[aq] at h';obtain⟨b,ys,rfl,q,_⟩:=h'
   obtain⟨t,rfl⟩:=ru;cases rv
   obtain⟨its,p⟩:=zm q
   exact SeqAt.EqAt.str_list _ _ p hu'
  | _=>rw[aq] at h';subst h';exact flat rfl rfl (by simp[Dt.beq,mL]) ru rv
 | tup ds ih=>
  intro A d' x y u v hu h h' ru rv
  have hD:=h
  have hD':=h'
  rw[aq] at h
  obtain⟨a,xs,rfl,q,hd⟩:=h
  cases ru
  obtain⟨its,p⟩:=zo q
  have hu':A.units<cLine:=by omega
  cases d' with
  | non=>rw[aq] at h';subst h';cases rv;exact SeqAt.EqAt.tuple_none p hu'
  | bl b=>rw[aq] at h';subst h';cases rv;exact SeqAt.EqAt.tuple_bool _ p hu'
  | int b=>rw[aq] at h';subst h';obtain⟨t,rfl⟩:=rv;exact SeqAt.EqAt.tuple_int _ _ p hu'
  | str b=>rw[aq] at h';subst h';obtain⟨t,rfl⟩:=rv;exact SeqAt.EqAt.tuple_str _ _ p hu'
  | lst ds'=>
   rw[aq] at h';obtain⟨b,ys,rfl,q',_⟩:=h'
   cases rv
   obtain⟨its2,p2⟩:=zm q'
   exact SeqAt.EqAt.tuple_list p p2 hu'
  | tup ds'=>
   rw[aq] at h';obtain⟨b,ys,rfl,q',hd'⟩:=h'
   cases rv
   refine refs hD hD' ?_
   have:=o_ (A:=A) I q q' hd hd' hu' fun d hm d' x y u v h1 h2 r1 r2=>ih d hm A.in1 d' x y u v (by
    have:=Dt.fO hm
    rw[Dt.dep] at hu
    show A.units+1+d.dep<cLine
    omega) h1 h2 r1 r2
   simpa[Dt.beq] using this
 | lst ds ih=>
  intro A d' x y u v hu h h' ru rv
  have hD:=h
  have hD':=h'
  rw[aq] at h
  obtain⟨a,xs,rfl,q,hd⟩:=h
  cases ru
  obtain⟨its,p⟩:=zm q
  have hu':A.units<cLine:=by omega
  cases d' with
  | non=>rw[aq] at h';subst h';cases rv;exact SeqAt.EqAt.list_none p hu'
  | bl b=>rw[aq] at h';subst h';cases rv;exact SeqAt.EqAt.list_bool _ p hu'
  | int b=>rw[aq] at h';subst h';obtain⟨t,rfl⟩:=rv;exact SeqAt.EqAt.list_int _ _ p hu'
  | str b=>rw[aq] at h';subst h';obtain⟨t,rfl⟩:=rv;exact SeqAt.EqAt.list_str _ _ p hu'
  | tup ds'=>
   rw[aq] at h';obtain⟨b,ys,rfl,q',_⟩:=h'
   cases rv
   obtain⟨its2,p2⟩:=zo q'
   exact SeqAt.EqAt.list_tuple p p2 hu'
  | lst ds'=>
   rw[aq] at h';obtain⟨b,ys,rfl,q',hd'⟩:=h'
   cases rv
   refine refs hD hD' ?_
   have:=vY (A:=A) I q q' hd hd' hu' fun d hm d' x y u v h1 h2 r1 r2=>ih d hm A.in1 d' x y u v (by
    have:=Dt.fO hm
    rw[Dt.dep] at hu
    show A.units+1+d.dep<cLine
    omega) h1 h2 r1 r2
   simpa[Dt.beq] using this
 | nil=>
  rename_i d hd A d' x y u v a1 a2 a3 a4 a5
  cases hd
 | cons d ds h1 h2=>
  rename_i d0 hd A d' x y u v a1 a2 a3 a4 a5
  rcases List.mem_cons.mp hd with e | hd
  ·subst e;exact h1 A d' x y u v a1 a2 a3 a4 a5
  ·exact h2 d0 hd A d' x y u v a1 a2 a3 a4 a5
def Dt.Ia:Dt→Bool
 | .tup _=>true
 | .lst _=>true
 | _=>false
def DR (K:PySem.W.Frag) (neg:Bool):R2:=fun x y H Q=>∃d d':Dt,aq K H x d∧aq K H y d'∧d.Ia=true∧d'.Ia=true∧d.dep≤40∧Q (.bl (if neg then !d.beq d' else d.beq d')) H
theorem B6 (K:PySem.W.Frag) (hu:X.A.units+64<cLine) (hK:X.K=K:=by rfl):cW X (compareOp .Eq) (DR K false):=by
 subst hK
 intro pins s σ H x y v u Q I rx ry h
 obtain⟨d,d',h,h',sq,Ib,hd,q⟩:=h
 have hA:∀e:Dt,e.dep≤40→X.A.in1.units+e.dep<cLine:=fun e he=>by show X.A.units+1+e.dep<cLine;omega
 have hu':X.A.units<cLine:=by omega
 cases d with
 | tup ds=>
  rw[aq] at h
  obtain⟨a,xs,rfl,q1,hd1⟩:=h
  cases rx
  have ih:∀d∈ds,∀(d':Dt) (x y:V) (u v:Value),aq X.K H x d→aq X.K H y d'→RelV x u→RelV y v→SeqAt.EqAt X.A.in1 s u v (d.beq d'):=fun d hm d' x y u v h1 h2 r1 r2=>
   jc I d X.A.in1 d' x y u v (hA d (by have:=Dt.fO hm;rw[Dt.dep] at hd;omega)) h1 h2 r1 r2
  cases d' with
  | tup ds'=>
   rw[aq] at h'
   obtain⟨b,ys,rfl,q2,hd2⟩:=h'
   cases ry
   exact o_ I q1 q2 hd1 hd2 hu' ih _ _ _ _ ⟨.bl _,H,I,rfl,by simpa[Dt.beq] using q⟩
  | lst ds'=>
   rw[aq] at h'
   obtain⟨b,ys,rfl,q2,hd2⟩:=h'
   cases ry
   obtain⟨its,_,p,_⟩:=I.tuple q1
   obtain⟨its2,_,p2,_⟩:=I.list q2
   exact SeqAt.RcAt.tuple_list (show s.heap.IsTuple a its.toArray from p) p2.isList hu' _ _ _ _ ⟨.bl _,H,I,rfl,by simpa[Dt.beq] using q⟩
  | _=>cases Ib
 | lst ds=>
  rw[aq] at h
  obtain⟨a,xs,rfl,q1,hd1⟩:=h
  cases rx
  have ih:∀d∈ds,∀(d':Dt) (x y:V) (u v:Value),aq X.K H x d→aq X.K H y d'→RelV x u→RelV y v→SeqAt.EqAt X.A.in1 s u v (d.beq d'):=fun d hm d' x y u v h1 h2 r1 r2=>
   jc I d X.A.in1 d' x y u v (hA d (by have:=Dt.fO hm;rw[Dt.dep] at hd;omega)) h1 h2 r1 r2
  cases d' with
  | lst ds'=>
   rw[aq] at h'
   obtain⟨b,ys,rfl,q2,hd2⟩:=h'
   cases ry
   exact vY I q1 q2 hd1 hd2 hu' ih _ _ _ _ ⟨.bl _,H,I,rfl,by simpa[Dt.beq] using q⟩
  | tup ds'=>
   rw[aq] at h'
   obtain⟨b,ys,rfl,q2,hd2⟩:=h'
   cases ry
   obtain⟨its,_,p,_⟩:=I.list q1
   obtain⟨its2,_,p2,_⟩:=I.tuple q2
   exact SeqAt.RcAt.list_tuple p.isList (show s.heap.IsTuple b its2.toArray from p2) hu' _ _ _ _ ⟨.bl _,H,I,rfl,by simpa[Dt.beq] using q⟩
  | _=>cases Ib
 | _=>cases sq
theorem Ic (K:PySem.W.Frag) (hu:X.A.units+64<cLine) (hK:X.K=K:=by rfl):cW X (compareOp .NotEq) (fun x y H Q=>DR K true x y H Q∧∃d d':Dt,aq K H x d∧aq K H y d'∧((∃ds ds',d=.tup ds∧d'=.tup ds')∨∃ds ds',d=.lst ds∧d'=.lst ds')):=by
 subst hK
 intro pins s σ H x y v u Q I rx ry h
 obtain⟨⟨d,d',h,h',sq,Ib,hd,q⟩,e,e',g,g',hk⟩:=h
 have e1:=sT I d x e h g
 have e2:=sT I d' y e' h' g'
 subst e1 e2
 have hA:∀e:Dt,e.dep≤40→X.A.in1.units+e.dep<cLine:=fun e he=>by show X.A.units+1+e.dep<cLine;omega
 have hu':X.A.units<cLine:=by omega
 rcases hk with⟨ds,ds',rfl,rfl⟩ | ⟨ds,ds',rfl,rfl⟩
 ·rw[aq] at h h'
  obtain⟨a,xs,rfl,q1,h1⟩:=h
  obtain⟨b,ys,rfl,q2,h2⟩:=h'
  cases rx
  cases ry
  have ih:∀d∈ds,∀(d':Dt) (x y:V) (u v:Value),aq X.K H x d→aq X.K H y d'→RelV x u→RelV y v→SeqAt.EqAt X.A.in1 s u v (d.beq d'):=fun d hm d' x y u v h1 h2 r1 r2=>
   jc I d X.A.in1 d' x y u v (hA d (by have:=Dt.fO hm;rw[Dt.dep] at hd;omega)) h1 h2 r1 r2
  obtain⟨its,r1,p1,_⟩:=I.tuple q1
  obtain⟨its2,r2,p2,_⟩:=I.tuple q2
  have l1:=r1.length
  have l2:=r2.length
  have l3:=h1.length
  have l4:=h2.length
  have z:=SeqAt.RcNeAt.tuples (show s.heap.IsTuple a its.toArray from p1) (show s.heap.IsTuple b its2.toArray from p2) hu' (kD r1 r2 h1 h2 ih)
  have fin:SeqAt.RcNeAt X.A s (.ref a) (.ref b) (!Dt.dO ds ds'):=by
   by_cases hl:ds.length=ds'.length
   ·rw[show min its.toArray.size its2.toArray.size=ds.length by simp;omega,ja ds ds' hl,show(its.toArray.size == its2.toArray.size)=true by simp;omega,Bool.and_true] at z
    exact z
   ·rw[show(its.toArray.size == its2.toArray.size)=false by simp;omega,Bool.and_false] at z
    rw[jb ds ds' hl]
    exact z
  exact fin _ _ _ _ ⟨.bl _,H,I,rfl,by simpa[Dt.beq] using q⟩
 ·rw[aq] at h h'
  obtain⟨a,xs,rfl,q1,h1⟩:=h
  obtain⟨b,ys,rfl,q2,h2⟩:=h'
  cases rx
  cases ry
  have ih:∀d∈ds,∀(d':Dt) (x y:V) (u v:Value),aq X.K H x d→aq X.K H y d'→RelV x u→RelV y v→SeqAt.EqAt X.A.in1 s u v (d.beq d'):=fun d hm d' x y u v h1 h2 r1 r2=>
   jc I d X.A.in1 d' x y u v (hA d (by have:=Dt.fO hm;rw[Dt.dep] at hd;omega)) h1 h2 r1 r2
  obtain⟨its,r1,p1,_⟩:=I.list q1
  obtain⟨its2,r2,p2,_⟩:=I.list q2
  have l1:=r1.length
  have l2:=r2.length
  have l3:=h1.length
  have l4:=h2.length
  have fin:SeqAt.RcNeAt X.A s (.ref a) (.ref b) (!Dt.dO ds ds'):=by
   by_cases hl:ds.length=ds'.length
   ·have z:=SeqAt.RcNeAt.lists p1.isList p2.isList (by simp;omega) hu' (kD r1 r2 h1 h2 ih)
    rw[show its.toArray.size=ds.length by simp;omega,ja ds ds' hl] at z
    exact z
   ·rw[jb ds ds' hl]
    exact SeqAt.RcNeAt.lists_lengths p1.isList p2.isList (by simp;omega) hu'
  exact fin _ _ _ _ ⟨.bl _,H,I,rfl,by simpa[Dt.beq] using q⟩
end
section
variable {X:Cx}
def Ie (K:PySem.W.Frag):List V→Hp→VK→Prop:=fun xs H Q=>∃(p:Addr) (ys:List V),xs=[.ref p]∧((bW K H p ys∧∀l,H l=none→Q (.ref l) (upd H l (.tup ys)))∨(bY K H p ys∧Q (.ref p) H))
theorem qv (K:PySem.W.Frag) (hK:X.K=K:=by rfl):fm X (.type "tuple") (Ie K):=by subst hK;exact uR
end
end L2
namespace L2
open PySem
theorem dI {i j:Int} (h:i=j):decide (V.int i=V.int j)=true:=by rw[h];simp
theorem B7 {i j:Int} (h:i≠j):decide (V.int i=V.int j)=false:=by simp[h]
end L2
namespace L2
open PySem PySem.Spec PyProof.Rows
theorem nG {ys:List Str}:∀{us:List Value},Vals (ys.map V.str) us→StrsAre us ys:=by
 induction ys with
 | nil=>intro us r;cases r;exact .nil
 | cons y ys ih=>
  intro us r
  rw[List.map_cons] at r
  cases r with
  | cons a b=>
   obtain⟨t,rfl⟩:=a
   exact .cons y t (ih b)
theorem o3:∀{us:List Value} {ys:List Str},StrsAre us ys→Vals (ys.map V.str) us
 | _,_,.nil=>.nil
 | _,_,.cons y t r=>.cons ⟨t,rfl⟩ (o3 r)
theorem DS (sep:Str) (ys:List Str) (h:(ys.map (·.length)).sum+ys.length*sep.length≤16777216):(Txt.join sep ys).length≤sizeLine:=by
 have hok:=joinOk_of h
 unfold JoinOk at hok
 rw[Bool.not_eq_true'] at hok
 have e:ys=(ys.map fun y=>(y,(0:Tok))).map (·.1):=by rw[List.map_map];exact(List.map_id ys).symm
 rw[e] at hok ⊢
 exact joinFit_length hok
section
variable {X:Cx}
def rJoin (K:PySem.W.Frag):V→List V→Hp→VK→Prop:=fun x vs H Q=>∃(sep:Str) (a:Addr) (ys:List Str),x=.str sep∧vs=[.ref a]∧bW K H a (ys.map V.str)∧(ys.map (·.length)).sum+ys.length*sep.length≤16777216∧∀z:Str,z.length≤sizeLine→z=Txt.join sep ys→Q (.str z) H
theorem qI (K:PySem.W.Frag) (hK:X.K=K:=by rfl):vK X "str.join" (rJoin K):=by
 subst hK
 intro pins s σ H x vs v us Q I rx rv h
 obtain⟨sep,a,ys,rfl,rfl,hq,hz,q⟩:=h
 obtain⟨t,rfl⟩:=rx
 obtain⟨u,rfl,ru⟩:=rv.one
 cases ru
 obtain⟨its,r,p,_⟩:=I.list hq
 exact join_list p.isList (show StrsAre its.toArray.toList ys from nG r) hz fun t' k=>⟨.str _,H,I.tok k,⟨t',rfl⟩,q _ (DS sep ys hz) rfl⟩
def Ig (K:PySem.W.Frag):List V→Hp→VK→Prop:=fun xs H Q=>∃(a:Addr) (ss:List Str),xs=[.ref a]∧bW K H a (ss.map V.str)∧ss.length<64∧
 ∀(p:Addr) (ss':List Str),H p=none→ss'.Perm ss→PyProof.Rows.sortedS ss'=true→Q (.ref p) (upd H p (.lst (ss'.map V.str)))
theorem xW (K:PySem.W.Frag) (hK:X.K=K:=by rfl):fm X (.builtin "sorted") (Ig K):=by
 subst hK
 intro pins s σ H xs us Q I r h
 obtain⟨a,ss,rfl,hq,hl,q⟩:=h
 obtain⟨u,rfl,ru⟩:=vals1 r
 cases ru
 obtain⟨its,rv,p,hz⟩:=I.list hq
 have hlen:=rv.length
 rw[List.length_map] at hlen
 refine sorted_strs p.isList (nG rv) (by omega) fun out ss' a1 a2 a3=>?_
 obtain⟨e,he⟩:=sortedAll_at s.heap its out
 have hp:s.heap.objs.size≤s.heap.objs.size+1:=Nat.le_succ _
 refine⟨.ref (s.heap.objs.size+1),upd H (s.heap.objs.size+1) (.lst (ss'.map V.str)),?_,rfl,q _ ss' (I.hok.fresh hp) a2 a3⟩
 refine I.laid (t':=s.toks) (h':=sortedAll s.heap its out) (fun _ _=>sortedAll_old) hp ⟨?_,out.toList,e,o3 a1,?_⟩
 ·rw[List.length_map,a2.length_eq]
  rw[List.length_map] at hz
  exact hz
 ·rw[he]
  first
   | done
   | rfl
def M9:V→Option Int→Option Int→Hp→VK→Prop:=fun x lo hi H Q=>∃z:Str,x=.str z∧z.length≤sizeLine∧Q (.str (Txt.slice z lo hi)) H
theorem qw {v:Value} {o:Option Int} (p:IsPart v o):∃l:Option (Int×Tok),v=partValue l∧l.map (·.1)=o:=by
 cases p with
 | none=>exact⟨none,rfl,rfl⟩
 | int i t=>exact⟨some (i,t),rfl,rfl⟩
theorem jN:Fe X M9:=by
 intro pins s σ H x v vl vu lo hi sl Q I rx hs pl pu h
 obtain⟨z,rfl,hz,q⟩:=h
 obtain⟨t,rfl⟩:=rx
 obtain⟨l,rfl,hl⟩:=qw pl
 obtain⟨u,rfl,hu⟩:=qw pu
 subst hl hu
 obtain⟨o,ho,hc,hd⟩:=hs
 refine⟨"str",_,PySem.F.slot_str_getitem.lookup,typeIs_str _ _ _,wpAny_getItem_str_slice (l:=l) (u:=u) (st:=none) ⟨o,ho,hc,hd⟩ rfl ?_⟩
 exact post_val_or_str ⟨Nat.le_trans (Txt.slice_le z _ _) hz,fun t' k=>⟨.str _,H,I.tok k,⟨t',rfl⟩,q⟩⟩
structure sU (K:PySem.W.Frag) (P:Params) (a:Addr) (tab:List (Str×Option V)):Prop where
 ex:∃(es:Array DictEntry) (n:Nat),K.lookup a=some ⟨.type "dict",none,.dict es n, #[]⟩∧PySem.W.KeysLit P es.toList∧∀x r,(x,r)∈tab→iI r (findBy Value.isStrOf es x)
 lo:(a == sysModules)=false
def GR (tab:List (Str×Option V)) (ty tx:TE):TE:=fun σ H Q=>ty σ H fun y H1=>tx σ H1 fun z H2=>∃x r,y=.str x∧(x,r)∈tab∧Q (r.getD z) H2
theorem B8 {x:Str} {p apos cpos:Pos} {e f:Expr} {ty tx:TE} {a:Addr} {tab:List (Str×Option V)} (D:sU X.K X.w.params a tab) (hg:Gl X x) (hm:X.mg x=some (.ref a)) (he:PE X e ty) (hf:PE X f tx)
  (m:M2 X (.Name x p) "get" apos e f cpos:=by exact⟨rfl,rfl,rfl,rfl⟩) (hdb:(x == ("__debug__":Str))=false:=by decide):PE X (.Call (.Attribute (.Name x p) "get" apos) [e,f] [] cpos) (GR tab ty tx):=by
 intro pins s σ H Q I h
 obtain⟨es,n,hl,hk,ht⟩:=D.ex
 refine wpAny_Call_method m.base m.few m.line PySem.F.plainAttrs_dict PySem.F.slot_dict_get PySem.F.type_dict_get (mF I hg hm ?_ hdb)
 have hm0:=PySem.W.mapOf_K (prog:=X.prog) I.fJ hl hk
 refine⟨hm0.typeIs,hm0.noDict,?_⟩
 rw[m.trees]
 refine Calls.callWith_builtin rfl (Calls.evalArgs_plain (Calls.spliced_cons (aV (he pins s σ H _ I h) fun iv s2 ⟨y,H2,I2,ry,q2⟩=>
  Calls.spliced_cons (aV (hf pins s2 σ H2 _ I2 q2) fun fv s3 ⟨z,H3,I3,rz,x',r,ey,hmem,q3⟩=>Calls.spliced_nil ?_))))
 subst ey
 obtain⟨t,rfl⟩:=ry
 have LG:=PySem.W.mapOf_K (prog:=X.prog) I3.fJ hl hk
 refine call_meetsIn PySem.F.slot_dict_get LG.typeIs PySem.F.entry_dict_get (PySem.F.args_dict_get_3 _ _ _) (meets_dict_get_default (strKind X.prog X.w) a (strKind_is X.prog X.w x' t) D.lo fv) ⟨_,LG,?_⟩
 refine⟨r.getD z,H3,I3.tok _,?_,q3⟩
 have:=ht x' r hmem
 cases r with
 | none=>
  rw[this.none_of]
  exact rz
 | some v=>
  obtain⟨u,eu,ru⟩:=this.some_of
  rw[eu]
  exact ru
theorem mS {K:PySem.W.Frag} {H:Hp} {a:Addr} {xs:List V} {us:List Value} {n:Nat} (h:K.lookup a=some ⟨.type "tuple",none,.seq us.toArray n, #[]⟩) (r:Vals xs us) (hz:xs.length≤sizeLine):bY K H a xs:=
 .inr ⟨_,us.toArray,n,h,rfl,rfl,by rw[List.size_toArray,←r.length];exact hz,by simpa using r⟩
end
mutual
def Dt.bb:Dt→Bool
 | .lst _=>false
 | .tup xs=>Dt.dP xs
 | _=>true
def Dt.dP:List Dt→Bool
 | []=>true
 | x::xs=>x.bb&&Dt.dP xs
end
def eJ (K:PySem.W.Frag) (H H':Hp):Prop:=∀a xs,bY K H a xs→bY K H' a xs
theorem eJ.trans {K:PySem.W.Frag} {H H1 H2:Hp} (a:eJ K H H1) (b:eJ K H1 H2):eJ K H H2:=fun c o h=>b c o (a c o h)
theorem Same.kts {K:PySem.W.Frag} {H H':Hp} (s:Same H H'):eJ K H H':=fun _ _ h=>s.dr h
theorem KB.kts {K:PySem.W.Frag} {d:Addr} {xs:List V} {H H':Hp} (h:H d=some (.lst xs)) (k:KB d H H'):eJ K H H':=fun a ys e=>by
 rcases e with(e | ⟨o,e⟩) | e
 ·exact .inl (.inl (k _ _ e (h_ e h (fun z=>nomatch z))))
 ·exact .inl (.inr ⟨o,k _ _ e (h_ e h (fun z=>nomatch z))⟩)
 ·exact .inr e
theorem aA {K:PySem.W.Frag} {H H':Hp} (k:eJ K H H') (d:Dt):∀x:V,d.bb=true→aq K H x d→aq K H' x d:=by
 induction d using Dt.rec (motive_2:=fun ds=>∀xs:List V,Dt.dP ds=true→aF K H xs ds→aF K H' xs ds) with
 | non=>intro x _ h;simpa[aq] using h
 | bl b=>intro x _ h;simpa[aq] using h
 | int b=>intro x _ h;simpa[aq] using h
 | str b=>intro x _ h;simpa[aq] using h
 | tup ds ih=>
  intro x hn h
  rw[aq] at h ⊢
  rw[Dt.bb] at hn
  obtain⟨a,xs,e,q,hd⟩:=h
  exact⟨a,xs,e,k _ _ q,ih xs hn hd⟩
 | lst ds ih=>intro x hn;simp[Dt.bb] at hn
 | nil=>
  rename_i xs hn h
  cases xs with
  | nil=>simp[aF]
  | cons _ _=>simp[aF] at h
 | cons d ds h1 h2=>
  rename_i xs hn h
  rw[Dt.dP,Bool.and_eq_true] at hn
  cases xs with
  | nil=>simp[aF] at h
  | cons x xs=>
   rw[aF] at h ⊢
   exact⟨h1 x hn.1 h.1,h2 xs hn.2 h.2⟩
theorem cg {K:PySem.W.Frag} {H H':Hp} (k:eJ K H H'):∀(ds:List Dt) (xs:List V),Dt.dP ds=true→aF K H xs ds→aF K H' xs ds
 | [],xs,_,h=>by
  cases xs with
  | nil=>simp[aF]
  | cons _ _=>simp[aF] at h
 | d::ds,xs,hn,h=>by
  rw[Dt.dP,Bool.and_eq_true] at hn
  cases xs with
  | nil=>simp[aF] at h
  | cons x xs=>
   rw[aF] at h ⊢
   exact⟨aA k d x hn.1 h.1,cg k ds xs hn.2 h.2⟩
theorem jd {K:PySem.W.Frag} {H:Hp} {i:Int}:aq K H (.int i) (.int i):=by rw[aq]
theorem bu {K:PySem.W.Frag} {H:Hp} {z:Str}:aq K H (.str z) (.str z):=by rw[aq]
theorem bP {K:PySem.W.Frag} {H:Hp} {a:Addr} {xs:List V} {ds:List Dt} (h:bY K H a xs) (d:aF K H xs ds):aq K H (.ref a) (.tup ds):=by rw[aq];exact⟨a,xs,rfl,h,d⟩
theorem zp {K:PySem.W.Frag} {H:Hp} {a:Addr} {xs:List V} {ds:List Dt} (h:bW K H a xs) (d:aF K H xs ds):aq K H (.ref a) (.lst ds):=by rw[aq];exact⟨a,xs,rfl,h,d⟩
theorem a_ {K:PySem.W.Frag} {H:Hp}:aF K H [] []:=by simp[aF]
theorem ax {K:PySem.W.Frag} {H:Hp} {x:V} {xs:List V} {d:Dt} {ds:List Dt} (h:aq K H x d) (t:aF K H xs ds):aF K H (x::xs) (d::ds):=by rw[aF];exact⟨h,t⟩
theorem nH {K:PySem.W.Frag} {H:Hp}:∀{xs ys:List V} {ds es:List Dt},aF K H xs ds→aF K H ys es→aF K H (xs++ys) (ds++es)
 | [],_,[],_,_,h=>h
 | [],_,_::_,_,h,_=>by simp[aF] at h
 | _::_,_,[],_,h,_=>by simp[aF] at h
 | x::xs,_,d::ds,_,h,g=>by
  rw[aF] at h
  exact ax h.1 (nH h.2 g)
theorem ub {K:PySem.W.Frag} {H:Hp}:∀(ys:List Str),aF K H (ys.map V.str) (ys.map Dt.str)
 | []=>a_
 | y::ys=>ax bu (ub ys)
theorem vZ:∀(ds es:List Dt),Dt.dP (ds++es)=(Dt.dP ds&&Dt.dP es)
 | [],es=>by simp[Dt.dP]
 | d::ds,es=>by rw[List.cons_append,Dt.dP,Dt.dP,vZ ds es,Bool.and_assoc]
theorem sV {ns:List Str} {i:Nat} {x:V} (h:(ns.map V.str)[i]? =some x):∃f,x=.str f∧ns[i]? =some f:=by
 rw[List.getElem?_map] at h
 cases e:ns[i]? with
 | none=>rw[e] at h;cases h
 | some f=>rw[e] at h;exact⟨f,(Option.some.inj h).symm,rfl⟩
end L2
namespace L2
theorem B9 {v:V} {i:Nat} {u:TS} {D:Ends} {σ:St} {H:Hp} (h:u D (σ.set i (some v)) H):qF (nh (tC v) (iJ i)) u D σ H:=h
end L2
namespace L2
open PySem
def i8 (d e:Addr) (H H':Hp):Prop:=∀b o,H b=some o→b≠d→b≠e→H' b=some o
theorem i8.trans {d e:Addr} {H H1 H2:Hp} (a:i8 d e H H1) (b:i8 d e H1 H2):i8 d e H H2:=fun c o h n m=>b c o (a c o h n m) n m
theorem KB.l {d e:Addr} {H H':Hp} (k:KB d H H'):i8 d e H H':=fun b o h n _=>k b o h n
theorem KB.r {d e:Addr} {H H':Hp} (k:KB e H H'):i8 d e H H':=fun b o h _ n=>k b o h n
theorem Same.kb2 {d e:Addr} {H H':Hp} (s:Same H H'):i8 d e H H':=fun b o h _ _=>s b o h
theorem i8.kts {K:PySem.W.Frag} {d e:Addr} {xs ys:List V} {H H':Hp} (hd:H d=some (.lst xs)) (he:H e=some (.lst ys)) (k:i8 d e H H'):eJ K H H':=fun a zs z=>by
 rcases z with(z | ⟨o,z⟩) | z
 ·exact .inl (.inl (k _ _ z (h_ z hd (fun z=>nomatch z)) (h_ z he (fun z=>nomatch z))))
 ·exact .inl (.inr ⟨o,k _ _ z (h_ z hd (fun z=>nomatch z)) (h_ z he (fun z=>nomatch z))⟩)
 ·exact .inr z
theorem i8.seq {K:PySem.W.Frag} {d e:Addr} {H H':Hp} {a:Addr} {xs:List V} (k:i8 d e H H') (n:a≠d) (m:a≠e) (h:bW K H a xs):bW K H' a xs:=by
 rcases h with(h | ⟨o,h⟩) | h
 ·exact .inl (.inl (k _ _ h n m))
 ·exact .inl (.inr ⟨o,k _ _ h n m⟩)
 ·exact .inr h
theorem aR.none {P:Program} {w:World} {K:PySem.W.Frag} {mg:Str→Option Value} {base:Heap} {CX:oy} {k:Nat} {f:Addr} {fd:FuncData} {ps:List Str} {sp:Sp} (h:∀vs H Q E,¬sp vs H Q E):aR P w K mg base CX k f fd ps sp:=
 ⟨fun vs H Q E q=>(h _ _ _ _ q).elim,fun A outer s H args us vs Q E _ _ _ _ hs=>(h _ _ _ _ hs).elim⟩
end L2
namespace L2
open PySem PySem.Spec PyProof.Rows
theorem DT:typeLookup (.type "list_reverseiterator") "__len__"=pure none:=by rw[typeLookup_type,builtinLookup_eq_fast];kernel_rfl
theorem GS:typeLookup (.type "list_reverseiterator") "__length_hint__"=pure (some (.builtin "list_reverseiterator.__length_hint__")):=by rw[typeLookup_type,builtinLookup_eq_fast];kernel_rfl
section
variable {prog:Program} {w:World} {A:Around} {s:Shared} {R:Result→Shared→Prop}
theorem Au {I l S:Addr} {its:Array Value} {res:Value} {c0:Nat} (hh:A.handled=none) (hlI:l≠I) (hSI:S≠I) (hSl:S≠l) (hit:s.heap.IsRevIter I l ((its.size:Int)-1)) (hl:s.heap.IsList l its) (hz:its.size≤sizeLine)
  (hS:s.heap.get? S=some {cls:=.type "list",data:=.seq #[] c0})
  (hR:∀h' tk acc c,(∀b o,b≠S→b≠I→s.heap.get? b=some o→h'.get? b=some o)→h'.get? S=some {cls:=.type "list",dict:=none,data:=.seq acc c,slots:= #[]}→ItemsOf (fun i v=>its[its.size-1-i]? =some v) acc its.size→
   R (.ok (.ret res)) {s with heap:=h',toks:=tk}):
  wpAny (model prog w) A.in1 (Builtin.List.listExtendWith (.ref S) (.ref I) res) (fun fin s'=>match fin with | .done f=>R (.ok f) s' | .again c'=>c'.quiet=true∧codeAny (model prog w) A c' R s') (fun e s'=>R (.error e) s') s:=by
 have hSf:S ∉ [I,l]:=fun hm=>by
  rcases List.mem_cons.mp hm with z | z
  ·exact hSI z
  ·exact hSl (List.mem_singleton.mp z)
 have W:=(Walks.listRev (prog:=prog) (w:=w) (A:=A.in1) hh I l hlI its).toS
 unfold Builtin.List.listExtendWith
 (refine wpAny_bind (wpAny_typeOf hit.typeIs ?_))
 have g1:Builtin.List.listSameRef (.ref S) (.ref I)=false:=by simp[Builtin.List.listSameRef,hSI]
 rw[if_neg (by rw[g1];decide)];refine wpAny_bind (wpAny_pyIter_revIter hit ?_)
 (refine wpAny_bind (wpAny_holding ?_));unfold Builtin.List.listLengthHint
 refine wpAny_bind (wpAny_specialOf hit.typeIs DT ?_)
 show wpAny _ A.in1 (specialOf (Value.ref I) (Str.ofString "__length_hint__") >>= _) _ _ s
 refine wpAny_bind (wpAny_specialOf hit.typeIs GS ?_)
 generalize hid:("list_reverseiterator.__length_hint__":String)=id0
 wp_delta
 rw[show splitId id0=some ("list_reverseiterator","__length_hint__") from by subst hid;decide+kernel];subst hid
 refine wpAny_bind (wpAny_isInstance (T:="list_reverseiterator") (b:=true) hit.typeIs (by rw[isSubtype_type];kernel_rfl) ?_)
 (refine wpAny_pure ?_);rw[if_neg (by decide)]
 refine wpAny_pure ⟨plainId_quiet F.plain_extend_loop _,codeAny_extend_loopS W hz S hSf res its.size 0 s _ c0 rfl (Nat.zero_le _) ⟨Nat.zero_le _,by simpa using hit,hl⟩ hS (ItemsOf.nil _) fun s' acc c hm hS' ha=>?_⟩
 rw[Moved.eq_with hm]
 refine hR s'.heap s'.toks acc c (fun b o hb hb' e=>hm.heap b o (fun z=>?_) e) hS' ha
 rcases List.mem_cons.mp z with z | z
 ·exact hb z
 ·exact hb' (List.mem_singleton.mp z)
end
section
variable {prog:Program} {w:World} {A:Around} {E:Value→Shared→Prop} {s:Shared}
theorem uT {Q:Value→Shared→Prop} {I l:Addr} {its:Array Value} (hh:A.handled=none) (hlI:l≠I) (hit:s.heap.IsRevIter I l ((its.size:Int)-1)) (hl:s.heap.IsList l its) (hz:its.size≤sizeLine)
  (hQ:∀h' tk acc c,(∀b o,b≠I→s.heap.get? b=some o→h'.get? b=some o)→h'.get? s.heap.objs.size=some {cls:=.type "list",dict:=none,data:=.seq acc c,slots:= #[]}→ItemsOf (fun i v=>its[its.size-1-i]? =some v) acc its.size→
   Q (.ref s.heap.objs.size) {s with heap:=h',toks:=tk}):wpAny (model prog w) A (call (.type "list") [.ref I]) Q E s:=by
 have bI:I<s.heap.objs.size:=by obtain⟨o,e,_⟩:=hit;exact Heap.lt_size e
 have bl:l<s.heap.objs.size:=by obtain⟨o,e,_⟩:=hl;exact Heap.lt_size e
 refine callType_codes (Q₁:=fun obj s1=>obj=.ref s.heap.objs.size∧s1={s with heap:=s.heap.push {cls:=.type "list",data:=.seq #[]}}) F.called_list (F.typeCall_list_1 _) F.entry_list_init (code_list_new _ ⟨rfl,rfl⟩) fun obj s1 e1=>?_
 obtain⟨rfl,rfl⟩:=e1
 have hS:(s.heap.push {cls:=.type "list",data:=.seq #[]}).get? s.heap.objs.size=some {cls:=.type "list",data:=.seq #[]}:=Heap.get?_push_size _ rfl
 have old:∀b o,s.heap.get? b=some o→b≠s.heap.objs.size:=fun b o e=>Nat.ne_of_lt (Heap.lt_size e)
 refine⟨⟨_,hS,rfl⟩,F.args_list_init_2 _ _,?_⟩
 show wpAny _ _ (do let old ←Builtin.List.listItems (.ref s.heap.objs.size);Builtin.List.listUpdate (.ref s.heap.objs.size) (fun _=> #[]);letGo old.toList.reverse;Builtin.List.listExtendWith (.ref s.heap.objs.size) (.ref I) .none) _ _ _
 (refine wpAny_bind ?_);unfold Builtin.List.listItems;refine wpAny_bind (wpAny_seqItems hS rfl (wpAny_pure ?_))
 show wpAny _ _ (updateSeq s.heap.objs.size (fun _=> #[]) >>= fun _=>letGo (#[]:Array Value).toList.reverse >>= fun _=>Builtin.List.listExtendWith (.ref s.heap.objs.size) (.ref I) .none) _ _ _
 refine wpAny_bind (wpAny_updateSeq hS rfl ?_)
 have hS2:=Heap.get?_update_self (Obj.mapSeq (fun _=>(#[]:Array Value))) hS rfl
 have oth:∀b o,s.heap.get? b=some o→((s.heap.push {cls:=.type "list",data:=.seq #[]}).update s.heap.objs.size (Obj.mapSeq (fun _=>(#[]:Array Value)))).get? b=some o:=
  fun b o e=>(Heap.get?_update_other _ _ (Ne.symm (old b o e))).trans (Heap.get?_push_of_some _ e)
 (refine wpAny_bind (wpAny_letGo ?_));refine Au (A:=A.in1) hh hlI (Nat.ne_of_gt bI) (Nat.ne_of_gt bl) (hit.at fun o e=>oth _ o e) (hl.at fun o e=>oth _ o e) hz hS2 fun h' tk acc c k e a=>?_
 exact⟨rfl,hQ h' tk acc c (fun b o hb e=>k b o (old b o e) hb (oth b o e)) e a⟩
end
theorem sX {α β:Type} {r:α→β→Prop} {xs:List α} {ys:List β} (h:Paired r xs ys):Paired r xs.reverse ys.reverse:=by
 induction h with
 | nil=>exact .nil
 | cons a _ ih=>rw[List.reverse_cons,List.reverse_cons];exact fZ ih (.cons a .nil)
theorem B' {its:List Value} {acc:Array Value} (h:ItemsOf (fun i v=>its.toArray[its.toArray.size-1-i]? =some v) acc its.toArray.size):acc.toList=its.reverse:=by
 obtain⟨hs,hv⟩:=h
 simp only[List.size_toArray,List.getElem?_toArray] at hs hv
 apply List.ext_getElem?
 intro j
 by_cases hj:j<its.length
 ·have e1:acc[j]? =some acc[j]:=Array.getElem?_eq_getElem (by omega)
  have e2:=hv j _ e1
  rw[List.getElem?_reverse hj,e2,Array.getElem?_toList,e1]
 ·rw[List.getElem?_eq_none (by rw[Array.length_toList];omega),List.getElem?_eq_none (by rw[List.length_reverse];omega)]
section
variable {X:Cx}
def RP (K:PySem.W.Frag) (ta:TA):TE:=fun σ H Q=>ta σ H fun vs H1=>∃(a:Addr) (xs:List V),vs=[.ref a]∧bW K H1 a xs∧∀l,H1 l=none→Q (.ref l) (upd H1 l (.lst xs.reverse))
theorem Av (K:PySem.W.Frag) {a:Expr} {ta:TA} {p p' pos pos':Pos} (hc:X.calm=true) (hg:Gl X "list") (hm:X.mg "list"=none) (hg':Gl X "reversed") (hm':X.mg "reversed"=none) (ha:PA X [a] ta) (hK:X.K=K:=by rfl)
  (hs:starEach [a] X.env=[(false,eval a X.env)]:=by rfl):PE X (.Call (.Name "list" p) [.Call (.Name "reversed" p') [a] [] pos'] [] pos) (RP K ta):=by
 subst hK
 intro pins s σ H Q I h
 refine wpAny_Call_Name_kw (jK I hg hm GQ ?_)
 refine PyProof.Rows.callWith_type1 ?_ rfl rfl
 rw[show starEach [.Call (.Name "reversed" p') [a] [] pos'] X.env=[(false,eval (.Call (.Name "reversed" p') [a] [] pos') X.env)] from rfl]
 show wpAny _ _ (spliced [(false,eval (.Call (.Name "reversed" p') [a] [] pos') X.env)]) _ _ s
 refine Calls.spliced_cons ?_
 refine Call_ (jK I hg' hm' xV (PyProof.Rows.callWith_type1 (aV (ha pos' pins s σ H _ I h) fun us s1 ⟨vs,H1,I1,r1,q1⟩=>?_) hs rfl))
 obtain⟨l,xs,e,hq,q⟩:=q1
 subst e
 cases r1 with
 | cons r rr=>
  cases rr
  cases r
  obtain⟨its,rv,pl,hz⟩:=I1.list hq
  have hl:=rv.length
  refine call_reversed_list pl.isList (Calls.spliced_nil ?_)
  have bl:l<s1.heap.objs.size:=by obtain⟨o,e,_⟩:=pl.isList;exact Heap.lt_size e
  refine uT (I1.ok.hd hc) (I:=s1.heap.objs.size) (its:=its.toArray) (Nat.ne_of_lt bl) ⟨_,Heap.get?_push_size _ rfl,rfl,rfl⟩ (pl.isList.push _) (by simp only[List.size_toArray];omega) fun h' tk acc c k e it=>?_
  have ei:=B' it
  have kp:∀b u,s1.heap.get? b=some u→h'.get? b=some u:=fun b u e=>k b u (Nat.ne_of_lt (Heap.lt_size e)) (Heap.get?_push_of_some _ e)
  rw[Heap.size_push] at e
  have hp:s1.heap.objs.size≤s1.heap.objs.size+1:=Nat.le_succ _
  refine⟨.ref (s1.heap.objs.size+1),_,I1.laid (t':=tk) kp hp (show b_ X.prog X.w _ h' _ (.lst xs.reverse) from⟨by rw[List.length_reverse];exact hz,acc.toList,c,by rw[ei];exact sX rv,e⟩),?_,q _ (I1.hok.fresh hp)⟩
  show RelV (.ref _) _
  rw[show(s1.heap.push (revObj l ((its.toArray.size:Int)-1))).objs.size=s1.heap.objs.size+1 from Heap.size_push ..]
  rfl
def M' (K:PySem.W.Frag):List V→Hp→VK→Prop:=fun xs H Q=>∃(a:Addr) (bs:List Bool),xs=[.ref a]∧bW K H a (bs.map V.bl)∧Q (.bl (bs.all id)) H
theorem Aw {bs:List Bool} {its:List Value} (r:Vals (bs.map V.bl) its):its=bs.map Value.bool:=by
 induction bs generalizing its with
 | nil=>cases r;rfl
 | cons b bs ih=>
  cases r with
  | cons r1 r2=>
   rw[List.map_cons,ih r2]
   exact congrArg (· ::_) r1
theorem Ca (K:PySem.W.Frag) (hc:X.calm=true) (hK:X.K=K:=by rfl):fm X (.builtin "all") (M' K):=by
 subst hK
 intro pins s σ H xs us Q I r h
 obtain⟨a,bs,rfl,hq,q⟩:=h
 obtain⟨u,rfl,ru⟩:=vals1 r
 cases ru
 obtain⟨its,rv,p,_⟩:=I.list hq
 have e:=Aw rv
 have bl:a<s.heap.objs.size:=by obtain⟨o,e,_⟩:=p.isList;exact Heap.lt_size e
 refine call_all_walk ?_
 refine wpAny_pyIter_list p.isList ?_
 refine⟨s.heap.objs.size,_,_,_,_,_,fun i=>(bs.getD i false),rfl,Walks.list (A:=X.A.in1) (I.ok.hd hc) _ a (Nat.ne_of_lt bl) its.toArray,⟨⟨_,Heap.get?_push_size _ rfl,rfl,rfl⟩,p.isList.push _⟩,?_,fun h' tk k=>?_⟩
 ·intro i v s' Q' E' hv hQ'
  have:v=.bool (bs.getD i false):=by
   rw[List.getElem?_toArray,e,List.getElem?_map] at hv
   rw[List.getD_eq_getElem?_getD]
   cases eb:bs[i]? with
   | none=>rw[eb] at hv;cases hv
   | some b=>rw[eb] at hv;exact(Option.some.inj hv).symm
  rw[this]
  exact wpAny_truthy_bool hQ'
 ·refine⟨.bl (bs.all id),H,I.kept fun b o eo=>k b o (fun z=>Nat.ne_of_lt (Heap.lt_size eo) (List.mem_singleton.mp z)) (Heap.get?_push_of_some _ eo),?_,q⟩
  have hl:its.toArray.size=bs.length:=by simp[e]
  have ea:∀cs:List Bool,(List.range cs.length).all (fun i=>cs.getD i false)=cs.all id:=fun cs=>by
   induction cs with
   | nil=>rfl
   | cons c cs ih=>
    rw[List.length_cons,List.range_succ_eq_map,List.all_cons,List.all_map,List.all_cons,←ih]
    rfl
  show _=Value.bool _
  rw[hl,ea]
theorem rK:∀{vs:List Value} {ss:List Str},vs.length=ss.length→(∀(i:Nat) (v:Value) (x:Str),vs[i]? =some v→ss[i]? =some x→∃t,v=.str x t)→StrsAre vs ss
 | [],[],_,_=>.nil
 | [],_::_,h,_=>by cases h
 | _::_,[],h,_=>by cases h
 | v::vs,x::ss,h,k=>by
  obtain⟨t,rfl⟩:=k 0 v x rfl rfl
  exact .cons x t (rK (Nat.succ.inj h) fun i v y e1 e2=>k (i+1) v y e1 e2)
end
theorem GU (t:SetTable) (es:Array (Int×Value)) (h:Int) (x:Value):(layNew t es h x).2.1.led=t.led:=by
 unfold layNew
 split
 ·unfold SetTable.put SetTable.orStandIn SetTable.standIn
  dsimp only
  repeat' split
  all_goals rfl
 ·rfl
theorem Cb (t:SetTable) (es:Array (Int×Value)) (n:Nat):(relayAll t es n).2.1.led=t.led:=by
 unfold relayAll
 split
 ·rename_i q r e
  unfold SetTable.relaid SetTable.laid at e
  dsimp only
  split
  ·simp only[Option.bind_eq_bind,Option.bind_eq_some_iff,Option.pure_def,Option.some.injEq,Prod.mk.injEq] at e
   obtain⟨_,_,e1,_⟩:=e
   rw[←e1]
  ·rfl
 ·rfl
theorem xX {t:SetTable} (es:Array (Int×Value)) (n:Nat) (hp:t.plain=false):(relayAll t es n).2.1.plain=false:=by
 unfold relayAll
 split
 ·rename_i q r e
  unfold SetTable.relaid SetTable.laid at e
  dsimp only
  split
  ·simp only[Option.bind_eq_bind,Option.bind_eq_some_iff,Option.pure_def,Option.some.injEq,Prod.mk.injEq] at e
   obtain⟨_,_,e1,_⟩:=e
   rw[←e1]
   exact hp
  ·rfl
 ·rfl
structure dk (P:Program) (w:World) (h:Heap) (a:Addr) (es:Array (Int×Value)) (ep:Nat) (t:SetTable) (ks:List Str):Prop where
 obj:∃o,h.get? a=some o∧o.ExactSet∧o.data=.set es ep t
 elems:ElemsOf (strKind P w) es.toList
 small:es.size<scanBound
 fits:t.fits es.size=true
 led:t.led= !w.params.followText "set-order"
 plain:es.size≠0→t.plain=false
 vals:StrsAre (es.toList.map (·.2)) ks
 once:ks.Nodup
theorem dk.at {P:Program} {w:World} {h h':Heap} {a:Addr} {es:Array (Int×Value)} {ep:Nat} {t:SetTable} {ks:List Str} (s:dk P w h a es ep t ks) (k:∀o,h.get? a=some o→h'.get? a=some o):dk P w h' a es ep t ks:=by
 obtain⟨o,e,r⟩:=s.obj
 exact⟨⟨o,k o e,r⟩,s.elems,s.small,s.fits,s.led,s.plain,s.vals,s.once⟩
theorem dk.len {P:Program} {w:World} {h:Heap} {a:Addr} {es:Array (Int×Value)} {ep:Nat} {t:SetTable} {ks:List Str} (s:dk P w h a es ep t ks):es.size=ks.length:=by
 have:=s.vals.length
 rw[List.length_map,Array.length_toList] at this
 exact this
theorem lL {vs us:List Value} (p:vs.Perm us):∀{ks:List Str},StrsAre us ks→∃ks',StrsAre vs ks'∧ks'.Perm ks:=by
 induction p with
 | nil=>intro ks h;cases h;exact⟨[],.nil,.refl _⟩
 | cons x _ ih=>
  intro ks h
  cases h with
  | cons y tk r=>
   obtain⟨k',a,b⟩:=ih r
   exact⟨y::k',.cons y tk a,b.cons y⟩
 | swap x y l=>
  intro ks h
  cases h with
  | cons a ta r=>
   cases r with
   | cons b tb r=>exact⟨b::a::_,.cons b tb (.cons a ta r),.swap a b _⟩
 | trans _ _ ih1 ih2=>
  intro ks h
  obtain⟨k1,a1,b1⟩:=ih2 h
  obtain⟨k2,a2,b2⟩:=ih1 a1
  exact⟨k2,a2,b2.trans b1⟩
theorem DU {us vs:List Value} {ks ls:List Str} (h1:StrsAre us ks) (h2:StrsAre vs ls):StrsAre (us++vs) (ks++ls):=by
 induction h1 with
 | nil=>exact h2
 | cons x tk _ ih=>exact .cons x tk ih
theorem DV {us:List Value} {ks:List Str} (h:StrsAre us ks) {x:Str}:x∈ks↔∃tk,Value.str x tk∈us:=by
 induction h with
 | nil=>simp
 | cons y tk _ ih=>
  constructor
  ·intro m
   rcases List.mem_cons.mp m with e | m
   ·exact⟨tk,by rw[e];exact List.mem_cons_self⟩
   ·obtain⟨t',m'⟩:=ih.mp m
    exact⟨t',List.mem_cons_of_mem _ m'⟩
  ·rintro⟨t',m⟩
   rcases List.mem_cons.mp m with e | m
   ·injection e with e1 _
    rw[e1];exact List.mem_cons_self
   ·exact List.mem_cons_of_mem _ (ih.mpr ⟨t',m⟩)
section
variable {P:Program} {w:World} {A:Around} {E:Value→Shared→Prop} {s:Shared}
theorem DW {a:Addr} {es:Array (Int×Value)} {ep:Nat} {t:SetTable} {ks:List Str} {x:Str} {tk:Tok} {Q:Bool→Shared→Prop} (S:dk P w s.heap a es ep t ks) (room:ks.length+1<scanBound)
  (hold:x∈ks→Q false s)
  (hnew:x ∉ ks→∀h' es' ep' t' ks',Heap.SameBut a s.heap h'→dk P w h' a es' ep' t' ks'→(∀y,y∈ks'↔y∈ks∨y=x)→ks'.length=ks.length+1→Q true {s with heap:=h'}):
  wpAny (model P w) A (setAddHashed a (.str x tk) (hashStr w x)) Q E s:=by
 obtain⟨o,ho,hex,hd⟩:=S.obj
 have LH:=S.len
 have LI:(strKind P w).is x (.str x tk)=true:=strKind_is P w x tk
 have Ih:(Value.str x tk).scannable=true:=rfl
 have hhash:hashStr w x=(strKind P w).hash x:=rfl
 rw[hhash]
 unfold setAddHashed setAddHashedIn
 refine wpAny_holding (wpAny_bind (wpAny_setState_of ho hd S.fits ?_))
 dsimp only
 rw[byScan_of Ih S.small S.elems,if_pos rfl]
 unfold setAddByScan
 refine wpAny_bind (wpAny_bind (wpAny_rule (wpAny_bind (wpAny_setScan_of LI ho hd S.fits S.elems ?_))))
 have Ii:x∈ks↔∃e∈es.toList,(strKind P w).is x e.2=true:=by
  rw[DV S.vals]
  constructor
  ·rintro⟨t',m⟩
   obtain⟨e,he,e2⟩:=List.mem_map.mp m
   exact⟨e,he,by rw[e2];exact strKind_is P w x t'⟩
  ·rintro⟨e,he,hi⟩
   obtain⟨t',e2⟩:=Value.isStrOf_shape (x:=x) (v:=e.2) hi
   exact⟨t',by rw[←e2];exact List.mem_map.mpr ⟨e,he,rfl⟩⟩
 cases hr:List.findIdx? (fun e=>(strKind P w).is x e.2) es.toList with
 | some j=>
  dsimp only
  obtain⟨hj,hpj,_⟩:=List.findIdx?_eq_some_iff_getElem.mp hr
  exact wpAny_pure (wpAny_pure (hold (Ii.mpr ⟨_,List.getElem_mem hj,hpj⟩)))
 | none=>
  dsimp only
  have nk:x ∉ ks:=fun m=>by
   obtain⟨e,he,hp⟩:=Ii.mp m
   have:=List.findIdx?_eq_none_iff.mp hr e he
   rw[hp] at this
   cases this
  have hperm:=layNew_perm t es ((strKind P w).hash x) (.str x tk)
  have hfits:=layNew_fits t es ((strKind P w).hash x) (.str x tk)
  have Ax:=GU t es ((strKind P w).hash x) (.str x tk)
  generalize layNew t es ((strKind P w).hash x) (.str x tk)=L at hperm hfits Ax ⊢
  obtain⟨es1,t1,wasDummy,gave⟩:=L
  dsimp only at hperm hfits Ax ⊢
  rw[Array.toList_push] at hperm
  have el1:ElemsOf (strKind P w) es1.toList:=(S.elems.push LI Ih).perm hperm
  have Vs:es1.size=es.size+1:=by rw[←Array.length_toList,hperm.length_eq,List.length_append,Array.length_toList];rfl
  have LJ:es1.size<scanBound:=by omega
  obtain⟨uc,v1,p1⟩:=lL (hperm.map (·.2)) (ks:=ks++[x]) (by rw[List.map_append];exact DU S.vals (.cons x tk .nil))
  have LK:uc.Nodup:=p1.nodup_iff.mpr (List.nodup_append.mpr ⟨S.once,by simp,fun y hy z hz=>by rw[List.mem_singleton.mp hz];exact fun e=>nk (e▸hy)⟩)
  have Ij:∀y,y∈uc↔y∈ks∨y=x:=fun y=>by rw[p1.mem_iff,List.mem_append,List.mem_singleton]
  have jO:uc.length=ks.length+1:=by rw[p1.length_eq,List.length_append];rfl
  have fin:∀t2:SetTable,t2.fits es1.size=true→t2.led=t.led→t2.plain=false→
    wpAny (model P w) A (do
     storeSet a es1 t2
     if(!wasDummy&&t2.tooFull)=true then do
       (match (relayAll t2 es1 (SetTable.grown es1.size)).2.2 with | true=>rule "set.scan.the-table-gave-way" | false=>pure ())
       storeSet a (relayAll t2 es1 (SetTable.grown es1.size)).1 (relayAll t2 es1 (SetTable.grown es1.size)).2.1
       pure (some true)
      else pure (some true)) (fun r s'=>r=some true∧Q true s') E s:=fun t2 f2 l2 p2=>by
   refine wpAny_bind (wpAny_storeSet_of ho hd ?_ (fits_of_scanBound LJ))
   have hg:(s.heap.update a (Obj.putSet es1 t2)).get? a=some {o with data:=.set es1 (ep+1) t2}:=by
    have q:=Heap.get?_update_self (Obj.putSet es1 t2) ho (by rw[putSet_of es1 t2 hd];rfl)
    rw[putSet_of es1 t2 hd] at q
    exact q
   have Cc:=Heap.SameBut.update s.heap a (Obj.putSet es1 t2)
   have S1:dk P w (s.heap.update a (Obj.putSet es1 t2)) a es1 (ep+1) t2 uc:=⟨⟨_,hg,hex,rfl⟩,el1,LJ,f2,by rw[l2];exact S.led,fun _=>p2,v1,LK⟩
   split
   ·have pr:=relayAll_perm t2 es1 (SetTable.grown es1.size)
    have fr:=relayAll_fits t2 es1 (SetTable.grown es1.size)
    have lr:=Cb t2 es1 (SetTable.grown es1.size)
    have Ik:=xX es1 (SetTable.grown es1.size) p2
    generalize relayAll t2 es1 (SetTable.grown es1.size)=Rl at pr fr lr Ik ⊢
    obtain⟨es2,t3,gv⟩:=Rl
    dsimp only at pr fr lr Ik ⊢
    have RQ:es2.size=es1.size:=by rw[←Array.length_toList,pr.length_eq,Array.length_toList]
    have LL:es2.size<scanBound:=by omega
    obtain⟨Cd,v2,p2'⟩:=lL (pr.map (·.2)) v1
    refine wpAny_bind ?_
    have rest:wpAny (model P w) A (do storeSet a es2 t3;pure (some true)) (fun r s'=>r=some true∧Q true s') E {s with heap:=s.heap.update a (Obj.putSet es1 t2)}:=by
     refine wpAny_bind (wpAny_storeSet_of hg rfl (wpAny_pure ⟨rfl,?_⟩) (fits_of_scanBound LL))
     have hg2:=Heap.get?_update_self (Obj.putSet es2 t3) hg (by rw[putSet_of es2 t3 rfl];rfl)
     rw[putSet_of es2 t3 rfl] at hg2
     exact hnew nk _ es2 (ep+1+1) t3 Cd (Cc.trans (Heap.SameBut.update _ a _)) ⟨⟨_,hg2,hex,rfl⟩,el1.perm pr,LL,by rw[RQ] at fr ⊢;exact fr,by rw[lr,l2];exact S.led,fun _=>Ik,v2,p2'.nodup_iff.mpr LK⟩
      (fun y=>by rw[p2'.mem_iff];exact Ij y) (by rw[p2'.length_eq];exact jO)
    cases gv
    ·exact wpAny_pure rest
    ·exact wpAny_rule rest
   ·exact wpAny_pure ⟨rfl,hnew nk _ es1 (ep+1) t2 uc Cc S1 Ij jO⟩
  refine wpAny_bind ?_
  have rest:wpAny (model P w) A (do
    let byValue ←if t1.plain=true then hashByValue 8 (.str x tk) else pure true
    storeSet a es1 (if byValue=true then t1 else {t1 with plain:=false})
    if(!wasDummy&&(if byValue=true then t1 else {t1 with plain:=false}).tooFull)=true then do
      (match (relayAll (if byValue=true then t1 else {t1 with plain:=false}) es1 (SetTable.grown es1.size)).2.2 with | true=>rule "set.scan.the-table-gave-way" | false=>pure ())
      storeSet a (relayAll (if byValue=true then t1 else {t1 with plain:=false}) es1 (SetTable.grown es1.size)).1 (relayAll (if byValue=true then t1 else {t1 with plain:=false}) es1 (SetTable.grown es1.size)).2.1
      pure (some true)
     else pure (some true)) (fun r s'=>r=some true∧Q true s') E s:=by
   cases hpl:t1.plain with
   | true=>
    rw[if_pos rfl,hashByValue_scannable 8 Ih]
    refine wpAny_bind (wpAny_pure ?_)
    exact fin {t1 with plain:=false} (SetTable.fits_plain_off hfits) Ax rfl
   | false=>
    rw[if_neg (by decide)]
    refine wpAny_bind (wpAny_pure ?_)
    exact fin t1 hfits Ax hpl
  have go:∀r s',(r=some true∧Q true s')→wpAny (model P w) A (match r with | some added=>pure added | none=>setAddHashedIn a (.str x tk) ((strKind P w).hash x) 99999) Q E s':=fun r s' ⟨e,q⟩=>by
   subst e
   exact wpAny_pure q
  cases gave
  ·exact wpAny_pure (aV rest go)
  ·exact wpAny_rule (aV rest go)
end
theorem qb {us:List Value} {xs:List Str} (hi:StrsAre us xs):∀(i:Nat) (v:Value),us[i]? =some v→∃x t,xs[i]? =some x∧v=.str x t:=by
 induction hi with
 | nil=>intro i v hv;simp at hv
 | cons y ty _ ih=>
  intro i v hv
  cases i with
  | zero=>
   have e:Value.str y ty=v:=by simpa using hv
   exact⟨y,ty,rfl,e.symm⟩
  | succ i=>exact ih i v (by simpa using hv)
section
variable {P:Program} {w:World} {A:Around} {R:Result→Shared→Prop} {I S:Addr} {fp wr:List Addr} {G:Array GenState→Array GenState→Prop} {n:Nat} {Pv:Nat→Value→Prop} {St:Nat→Shared→Prop}
theorem DX (W:WalksS P w A.in1 I fp wr G n Pv St) (hSf:S ∉ fp) (xs:List Str) (LM:xs.length=n) (hval:∀i v,Pv i v→∃x t,xs[i]? =some x∧v=.str x t) (hb:n+1<scanBound):
  ∀(k i:Nat) (s:Shared) (es:Array (Int×Value)) (ep:Nat) (t:SetTable) (ks:List Str),n-i=k→i≤n→St i s→dk P w s.heap S es ep t ks→(∀y,y∈ks↔y∈xs.take i)→ks.length≤i→
   (∀s' es' ep' t' ks',Moved (S::wr) G s s'→dk P w s'.heap S es' ep' t' ks'→(∀y,y∈ks'↔y∈xs)→ks'.length≤n→R (.ok (.ret .none)) s')→
   codeAny (model P w) A (.builtin "set.update.loop" ⟨[.ref S,.ref I],[]⟩) R s:=by
 have hSw:S ∉ wr:=fun z=>hSf (W.sub _ z)
 have more:∀b∈wr,b∈S::wr:=fun b z=>List.mem_cons_of_mem _ z
 intro k
 induction k with
 | zero=>
  intro i s es ep t ks hk hi st hS hm hl hR
  have e:i=n:=by omega
  subst e
  refine codeAny_builtin PyProof.Rows.F.entry_set_update_loop ?_
  rw[Around.under_plainId PyProof.Rows.F.plain_set_update_loop]
  show wpAny (model P w) A.in1 (pyNext (.ref I) >>= _) _ _ s
  refine wpAny_bind (W.done s _ _ st fun s' mv=>?_)
  show wpAny (model P w) A.in1 (ret Value.none) _ _ s'
  refine wpAny_pure (hR s' es ep t ks (mv.mono more) (hS.at fun o q=>mv.heap S o hSw q) (fun y=>?_) hl)
  rw[hm y,List.take_of_length_le (by omega)]
 | succ k ih=>
  intro i s es ep t ks hk hi st hS hm hl hR
  have lt:i<n:=by omega
  refine codeAny_builtin PyProof.Rows.F.entry_set_update_loop ?_
  rw[Around.under_plainId PyProof.Rows.F.plain_set_update_loop]
  show wpAny (model P w) A.in1 (pyNext (.ref I) >>= _) _ _ s
  refine wpAny_bind (W.item i s _ _ lt st fun v s' hv st' mv=>?_)
  obtain⟨x,tx,ex,rfl⟩:=hval i v hv
  have hS':dk P w s'.heap S es ep t ks:=hS.at fun o q=>mv.heap S o hSw q
  have tk1:∀y,y∈xs.take (i+1)↔y∈xs.take i∨y=x:=fun y=>by rw[List.take_add_one,ex];simp
  show wpAny (model P w) A.in1 (holding [Value.str x tx] (setAdd S (.str x tx)) >>= _) _ _ s'
  refine wpAny_bind (wpAny_holding ?_)
  unfold setAdd
  refine wpAny_holding (wpAny_bind ((strKind P w).pyHash (k:=x) (strKind_is _ _ _ _) ?_))
  refine DW (s:={s' with toks:=s'.toks+1}) hS' (by omega) (fun hx=>?_) (fun hx h' es' ep' t' ks' sb S2 m2 l2=>?_)
  ·refine wpAny_pure ⟨plainId_quiet PyProof.Rows.F.plain_set_update_loop _,ih (i+1) _ es ep t ks (by omega) lt (W.frame _ s' s'.heap _ st' (Nat.le_succ _) fun b _ o q=>q) hS' (fun y=>?_) (by omega) fun s2 es2 iO t2 Cd mv2 S2 m2 l2=>?_⟩
   ·rw[hm y,tk1 y]
    constructor
    ·exact .inl
    ·rintro(z | z)
     ·exact z
     ·rw[z];exact(hm x).mp hx
   ·exact hR s2 es2 iO t2 Cd (Moved.trans W.gtrans ((mv.mono more).then_heap (Nat.le_succ _) fun b o _ q=>q) mv2) S2 m2 l2
  ·refine wpAny_pure ⟨plainId_quiet PyProof.Rows.F.plain_set_update_loop _,ih (i+1) _ es' ep' t' ks' (by omega) lt (W.frame _ s' h' _ st' (Nat.le_succ _) fun b hb o q=>?_) S2 (fun y=>?_) (by omega) fun s2 es2 iO t2 Cd mv2 S2 m2 l2=>?_⟩
   ·exact(sb.2 b (fun z=>hSf (z▸hb))).trans q
   ·rw[m2 y,hm y,tk1 y]
   ·exact hR s2 es2 iO t2 Cd (Moved.trans W.gtrans ((mv.mono more).then_heap (Nat.le_succ _) fun b o hb q=>(sb.2 b (fun z=>hb (z▸List.mem_cons_self))).trans q) mv2) S2 m2 l2
end
section
variable {P:Program} {w:World} {A:Around} {E:Value→Shared→Prop} {s:Shared}
abbrev fh (w:World):Obj:={cls:=.type "set",dict:=none,data:=.set #[] 0 (.fresh 0 0 (!w.params.followText "set-order"))}
theorem DY (v:Value) {Q:Value→Shared→Prop} (h:Q (.ref s.heap.objs.size) {s with heap:=s.heap.push (fh w)}):
  codeAny (model P w) A (.call (.builtin "set.__new__") ⟨[.type "set",v],[]⟩) (wants Q E) s:=by
 refine codeAny_of_tree ?_
 show wpAny (model P w) A.in1 (do checkBuiltinCall "set.__new__" ⟨[.type "set",v],[]⟩;again (.builtin "set.__new__" ⟨[.type "set",v],[]⟩)) _ _ s
 refine wpAny_bind (wpAny_of_eq (PySem.F.newCall_set_1 v) (wpAny_pure ⟨plainId_quiet PySem.F.plain_set_new _,codeAny_builtin PySem.F.entry_set_new ?_⟩))
 rw[Around.under_plainId PySem.F.plain_set_new]
 unfold Builtin.«set.__new__» Builtin.Frozenset.newClass
 have hsub:=sub_set_self
 obtain⟨hp,g,d,tk,os⟩:=s
 dsimp only
 wp_walk
 refine wpAny_askSetting (wpAny_pure ?_)
 dsimp only
 simp only[newObj]
 exact wpAny_bind (wpAny_alloc (wpAny_pure (wpAny_pure h)))
theorem Ce (h:Heap):dk P w (h.push (fh w)) h.objs.size #[] 0 (.fresh 0 0 (!w.params.followText "set-order")) []:=
 ⟨⟨_,Heap.get?_push_size _ rfl,⟨rfl,rfl,rfl⟩,rfl⟩,fun e he=>(by simp at he),by decide,rfl,rfl,fun z=>absurd rfl z,.nil,by simp⟩
theorem v7 {l:Addr} {its:Array Value} {xs:List Str} {Q:Value→Shared→Prop} (hh:A.handled=none) (hl:s.heap.IsList l its) (hi:StrsAre its.toList xs) (hb:its.size+1<scanBound)
  (h:∀(h':Heap) (tk:Nat) es ep t ks,dk P w h' s.heap.objs.size es ep t ks→(∀y,y∈ks↔y∈xs)→ks.length≤its.size→(∀b o,b<s.heap.objs.size→s.heap.get? b=some o→h'.get? b=some o)→Q (.ref s.heap.objs.size) {s with heap:=h',toks:=tk}):
  wpAny (model P w) A (call (.type "set") [.ref l]) Q E s:=by
 obtain⟨c,tl,hmro⟩:=PySem.F.called_set.mro
 have hmade:=PySem.F.called_set.made
 have hsub:=PySem.F.called_set.sub
 refine wpAny_call (codeAny_of_tree ?_)
 show wpAny _ _ (callAny (.type "set") _) _ _ _
 refine wpAny_pure ⟨Code.quiet_builtin _ (by decide+kernel),codeAny_builtin PySem.F.entry_type_call ?_⟩
 rw[Around.under_plain (weight_type_call_type "set" [.ref l] []) rfl]
 have a1:=PySem.F.called_set.notType
 have a2:=PySem.F.called_set.canCreate
 have a3:=PySem.F.typeCall_set_1 (.ref l)
 repeat (any_goals (first | assumption | wp_step))
 refine codeAny_mono (DY (.ref l) (E:=E) (Q:=fun obj s₁=>obj=.ref s.heap.objs.size∧s₁={s with heap:=s.heap.push (fh w)}) ⟨rfl,rfl⟩) fun r s₁ hr=>?_
 cases r with
 | error e=>exact hr
 | ok fl=>
  cases fl with
  | ret obj=>
   obtain⟨rfl,rfl⟩:=hr
   have gS:(s.heap.push (fh w)).get? s.heap.objs.size=some (fh w):=Heap.get?_push_size _ rfl
   have hT:Shared.TypeIs {s with heap:=s.heap.push (fh w)} (.ref s.heap.objs.size) "set":=⟨_,gS,rfl⟩
   have a4:=PySem.F.called_set.init.lookup
   have a5:=PySem.F.called_set.init.bind (.ref s.heap.objs.size)
   repeat (any_goals (first | assumption | wp_step))
   refine codeAny_mono (codeAny_call_builtin (R:=wants (fun r s₂=>r=.none∧∃h' tk es ep t ks,s₂={s with heap:=h',toks:=tk}∧dk P w h' s.heap.objs.size es ep t ks∧(∀y,y∈ks↔y∈xs)∧ks.length≤its.size∧
     (∀b o,b<s.heap.objs.size→s.heap.get? b=some o→h'.get? b=some o)) E) PySem.F.called_set.init.plain PySem.F.entry_set_init (check_set_init_1 hT ?_)) fun r₂ s₂ hr₂=>?_
   ·obtain⟨ol,hol,hcl,nl,hdl⟩:=hl
    obtain⟨ocls,odict,odata,oslots⟩:=ol
    simp only at hcl hdl
    subst hcl hdl
    have hol':(s.heap.push (fh w)).get? l=some {cls:=.type "list",dict:=odict,data:=.seq its nl,slots:=oslots}:=Heap.get?_push_of_some _ hol
    have b1:=PySem.F.sub_list_set
    have b2:=PySem.F.sub_list_frozenset
    have b3:(Value.type "list" == Value.type "dict")=false:=by decide
    have hl1:(s.heap.push (fh w)).IsList l its:=⟨_,hol',rfl,nl,rfl⟩
    unfold Builtin.«set.__init__» noKeywords Builtin.Frozenset.updateFrom
    generalize hPI:pyIter=PI
    wp_walk
    subst hPI
    refine wpAny_pyIter_list hl1 ?_
    refine wpAny_bind (wpAny_runValue ?_)
    have lS:l<s.heap.objs.size:=Heap.lt_size hol
    have hh3:A.in1.in1.in1.handled=none:=by simp[hh]
    have Fq:l≠(s.heap.push (fh w)).objs.size:=by rw[Heap.size_push];exact Nat.ne_of_lt (Nat.lt_succ_of_lt lS)
    have nf:s.heap.objs.size ∉ [(s.heap.push (fh w)).objs.size,l]:=by
     rw[Heap.size_push]
     simp only[List.mem_cons,List.not_mem_nil,or_false,not_or]
     exact⟨Nat.ne_of_lt (Nat.lt_succ_self _),Nat.ne_of_gt lS⟩
    have LM:xs.length=its.size:=by rw[←hi.length,Array.length_toList]
    have hval:∀(i:Nat) (v:Value),its[i]? =some v→∃x t,xs[i]? =some x∧v=.str x t:=fun i v hv=>qb hi i v (by rw[Array.getElem?_toList];exact hv)
    refine DX ((Walks.list hh3 _ l Fq its).toS) nf xs LM hval hb (its.size-0) 0 _ #[] 0 _ [] (by omega) (Nat.zero_le _) ⟨⟨_,Heap.get?_push_size _ rfl,rfl,rfl⟩,hl1.push _⟩ ((Ce s.heap).at fun o q=>Heap.get?_push_of_some _ q) (fun y=>by simp) (Nat.le_refl _) ?hR
    case hR=>
     intro s' es' ep' t' ks' hm hS' hmem hlen
     obtain⟨h',g',d',tk',os'⟩:=s'
     have eg:g'=s.gens:=hm.gens
     have ed:d'=s.drawn:=hm.drawn
     have eo:os'=s.os:=hm.os
     subst eg ed eo
     show wpAny _ _ _ _ _ _
     refine wpAny_pure ?_
     show wpAny _ _ (ret Value.none) _ _ _
     refine wpAny_pure ⟨rfl,h',tk',es',ep',t',ks',rfl,hS',hmem,hlen,fun b o hb e=>?_⟩
     refine hm.heap b o ?_ (Heap.get?_push_of_some _ (Heap.get?_push_of_some _ e))
     simp only[List.mem_cons,List.not_mem_nil,or_false,not_or]
     rw[Heap.size_push]
     exact⟨Nat.ne_of_lt hb,Nat.ne_of_lt (Nat.lt_succ_of_lt hb)⟩
   ·cases r₂ with
    | error e=>exact hr₂
    | ok fl₂=>
     cases fl₂ with
     | ret r=>
      obtain⟨rfl,h',tk,es,ep,t,ks,rfl,hS',hm,LH,hk'⟩:=hr₂
      repeat (any_goals (first | assumption | wp_step))
      exact h _ _ _ _ _ _ hS' hm LH hk'
     | _=>exact hr₂.elim
  | _=>exact hr.elim
end
namespace SI
theorem Cf:Manifest.owners.lookup (String.ofList ['r', 'o', 't', 'a', 'r', 'e', 't', 'i', '_', 't', 'e', 's'].reverse)=some Manifest.sig_set_iterator:=by kernel_rfl
theorem slot_next:Slot "set_iterator" "__next__" "set_iterator.__next__":=
 .of (owner:="set_iterator") (n:="__next__") (by rw[typeLookup_type,builtinLookup_eq_fast];kernel_rfl) (by decide+kernel) (by decide+kernel) (by decide+kernel)
  (by first | exact .inl (by decide+kernel) | exact .inr (by decide+kernel)) (by rw[isSubtype_type];kernel_rfl)
theorem ud:Slot "set_iterator" "__iter__" "set_iterator.__iter__":=
 .of (owner:="set_iterator") (n:="__iter__") (by rw[typeLookup_type,builtinLookup_eq_fast];kernel_rfl) (by decide+kernel) (by decide+kernel) (by decide+kernel)
  (by first | exact .inl (by decide+kernel) | exact .inr (by decide+kernel)) (by rw[isSubtype_type];kernel_rfl)
theorem entry_next:entryFor table "set_iterator.__next__"=some Builtin.«set_iterator.__next__» :=entryFor_of_tree (by kernel_rfl)
theorem Ay:entryFor table "set_iterator.__iter__"=some Builtin.«dict_keyiterator.__iter__» :=
 entryFor_alias (id':="dict_keyiterator.__iter__") (by kernel_rfl) (by first | rfl | decide+kernel | (unfold String.splitOn;simp+decide [String.splitOnAux])) (by decide+kernel) (by kernel_rfl)
theorem args_next (v:Value):argsOk "set_iterator.__next__" ⟨[v],[]⟩:=by
 unfold argsOk;rw[signature?_of (id:="set_iterator.__next__") (n:=['_', '_', 't', 'x', 'e', 'n', '_', '_']) (o:=['r', 'o', 't', 'a', 'r', 'e', 't', 'i', '_', 't', 'e', 's']) (by kernel_rfl) Cf];kernel_rfl
theorem Cg (v:Value):argsOk "set_iterator.__iter__" ⟨[v],[]⟩:=by
 unfold argsOk;rw[signature?_of (id:="set_iterator.__iter__") (n:=['_', '_', 'r', 'e', 't', 'i', '_', '_']) (o:=['r', 'o', 't', 'a', 'r', 'e', 't', 'i', '_', 't', 'e', 's']) (by kernel_rfl) Cf];kernel_rfl
theorem sY:entryFor table "set.__iter__"=some Builtin.«frozenset.__iter__» :=
 entryFor_alias (id':="frozenset.__iter__") (by kernel_rfl) (by first | rfl | decide+kernel | (unfold String.splitOn;simp+decide [String.splitOnAux])) (by decide+kernel) (by kernel_rfl)
end SI
abbrev kE (h:Heap) (I:Addr) (F:Array Value):Prop:=h.get? I=some {cls:=.type "set_iterator",dict:=none,data:=.fields F,slots:= #[]}
section
variable {P:Program} {w:World} {A:Around} {E:Value→Shared→Prop} {s:Shared}
theorem sZ {I:Addr} {F:Array Value} {Q:Value→Shared→Prop} (hI:kE s.heap I F) (h:Q (.ref I) s):wpAny (model P w) A (pyIter (.ref I)) Q E s:=by
 have hT:s.TypeIs (.ref I) "set_iterator":=⟨_,hI,rfl⟩
 refine wpAny_pyIter_slot hT SI.ud (wpAny_call_entry SI.ud hT SI.Ay ?_ (SI.Cg _))
 show wpAny (model P w) _ (ret (.ref I)) _ _ s
 exact wpAny_pure ⟨_,rfl,"set_iterator",_,hT,SI.slot_next.lookup,h⟩
theorem zq {I a:Addr} {sl i ep':Nat} {es:Array (Int×Value)} {ep:Nat} {t:SetTable} {ks:List Str} {v:Value} {nx:Nat} {Q:Option Value→Shared→Prop} (hI:kE s.heap I #[rawInt sl,rawInt i,.ref a,rawInt es.size,rawInt ep'])
  (S:dk P w s.heap a es ep t ks) (hn:∀(B:Around) (E':Value→Shared→Prop) (Q':Option (Value×Nat)→Shared→Prop),Q' (some (v,nx)) s→wpAny (model P w) B (setNext a sl i ep') Q' E' s)
  (h:∀h',kE h' I #[rawInt nx,rawInt (i+1:Nat),.ref a,rawInt es.size,rawInt ep']→Heap.SameBut I s.heap h'→Q (some v) {s with heap:=h'}):wpAny (model P w) A (pyNext (.ref I)) Q E s:=by
 have hT:s.TypeIs (.ref I) "set_iterator":=⟨_,hI,rfl⟩
 obtain⟨o,ho,hex,hd⟩:=S.obj
 unfold pyNext
 refine wpAny_bind (wpAny_attempt (wpAny_callSpecial?_slot (name:=Str.ofString "__next__") hT SI.slot_next (wpAny_call_entry SI.slot_next hT SI.entry_next ?_ (SI.args_next _))))
 refine wpAny_bind (wpAny_pure ?_)
 refine wpAny_bind (wpAny_fieldsOf hI rfl ?_)
 refine wpAny_bind (wpAny_setEntries_of ho hd S.fits ?_)
 rw[if_neg (by simp[rawInt])]
 dsimp only[rawInt]
 rw[Int.toNat_natCast,Int.toNat_natCast,Int.toNat_natCast]
 refine wpAny_bind (hn _ _ _ ?_)
 dsimp only
 refine wpAny_bind (wpAny_setField_rec hI (by simp) fun h1 e1 b1=>?_)
 refine wpAny_bind (wpAny_setField_rec e1 (by simp) fun h2 e2 b2=>?_)
 refine wpAny_pure ⟨v,rfl,wpAny_pure (h h2 ?_ (b1.trans b2))⟩
 simpa[rawInt] using e2
theorem zr {I:Addr} {F:Array Value} {k0:Option Nat} {Q:Option Value→Shared→Prop} (hh:A.handled=none) (hI:kE s.heap I F) (hk:2<F.size) (h:∀h',Heap.ExtBut I s.heap h'→Q none {s with heap:=h'}):
  wpAny (model P w) A.in1 (do setField (.ref I) 2 .none;raiseNew (←newExc (.type "StopIteration") []))
   (fun fin s'=>∃v,fin=Fin.done (Flow.ret v)∧wpAny (model P w) A (pure (some v)) Q E s')
   (fun e s'=>wpAny (model P w) A (do if ←isInstance e (.type "StopIteration") then pure none else throw e) Q E s') s:=by
 refine wpAny_bind (wpAny_setField_rec hI hk fun h1 e1 b1=>?_)
 refine wpAny_bind ?_
 simp only[newExc,newTuple]
 refine wpAny_bind (wpAny_newObj_type ?_ (by size_fits))
 refine wpAny_bind (m:=firstArgMember _ _) (wpAny_of_eq (a:=Value.none) (by first | rfl | (simp only[firstArgMember];rfl)) ?_)
 refine wpAny_newObj_type ?_ (by size_fits)
 simp only[raiseNew]
 refine wpAny_bind (wpAny_handled ?_)
 rw[show A.in1.handled=none from hh]
 refine wpAny_bind (wpAny_pure (wpAny_throw ?_))
 refine wpAny_bind (wpAny_isInstance (T:="StopIteration") (b:=true) ⟨_,Heap.get?_push_size _ rfl,rfl⟩ isSubtype_stop ?_)
 exact wpAny_pure (h _ ((b1.extBut.push _).push _))
theorem Ci {I a:Addr} {sl i ep':Nat} {es:Array (Int×Value)} {ep:Nat} {t:SetTable} {ks:List Str} {Q:Option Value→Shared→Prop} (hh:A.handled=none) (hI:kE s.heap I #[rawInt sl,rawInt i,.ref a,rawInt es.size,rawInt ep'])
  (S:dk P w s.heap a es ep t ks) (hn:∀(B:Around) (E':Value→Shared→Prop) (Q':Option (Value×Nat)→Shared→Prop),Q' none s→wpAny (model P w) B (setNext a sl i ep') Q' E' s)
  (h:∀h',Heap.ExtBut I s.heap h'→Q none {s with heap:=h'}):wpAny (model P w) A (pyNext (.ref I)) Q E s:=by
 have hT:s.TypeIs (.ref I) "set_iterator":=⟨_,hI,rfl⟩
 obtain⟨o,ho,hex,hd⟩:=S.obj
 unfold pyNext
 refine wpAny_bind (wpAny_attempt (wpAny_callSpecial?_slot (name:=Str.ofString "__next__") hT SI.slot_next (wpAny_call_entry SI.slot_next hT SI.entry_next ?_ (SI.args_next _))))
 refine wpAny_bind (wpAny_pure ?_)
 refine wpAny_bind (wpAny_fieldsOf hI rfl ?_)
 refine wpAny_bind (wpAny_setEntries_of ho hd S.fits ?_)
 rw[if_neg (by simp[rawInt])]
 dsimp only[rawInt]
 rw[Int.toNat_natCast,Int.toNat_natCast,Int.toNat_natCast]
 refine wpAny_bind (hn _ _ _ ?_)
 dsimp only
 exact zr (k0:=none) hh hI (by simp) h
theorem uf {T:Addr} {xs:Array Value} {B:Around} {E':Value→Shared→Prop} {Q':Option (Array Value)→Shared→Prop} (hT:s.heap.get? T=some {cls:=.type "tuple",data:=.seq xs}) (h:Q' (some xs) s):wpAny (model P w) B (seqItems? (.ref T)) Q' E' s:=by
 unfold seqItems?
 dsimp only
 refine wpAny_bind (wpAny_load hT ?_)
 exact wpAny_pure h
theorem GV {I a T:Addr} {i p:Nat} {es:Array (Int×Value)} {ep:Nat} {t:SetTable} {ks:List Str} {hv:Int} {v:Value} {ord:List Nat} {Q:Option Value→Shared→Prop} (hI:kE s.heap I #[.ref T,rawInt i,.ref a,rawInt es.size,rawInt ep])
  (hT':s.heap.get? T=some {cls:=.type "tuple",data:=.seq (ord.map fun(i:Nat)=>rawInt i).toArray}) (S:dk P w s.heap a es ep t ks) (hp:ord[i]? =some p) (he:es[p]? =some (hv,v))
  (h:∀h',kE h' I #[.ref T,rawInt (i+1:Nat),.ref a,rawInt es.size,rawInt ep]→Heap.SameBut I s.heap h'→Q (some v) {s with heap:=h'}):wpAny (model P w) A (pyNext (.ref I)) Q E s:=by
 have hT:s.TypeIs (.ref I) "set_iterator":=⟨_,hI,rfl⟩
 obtain⟨o,ho,hex,hd⟩:=S.obj
 unfold pyNext
 refine wpAny_bind (wpAny_attempt (wpAny_callSpecial?_slot (name:=Str.ofString "__next__") hT SI.slot_next (wpAny_call_entry SI.slot_next hT SI.entry_next ?_ (SI.args_next _))))
 refine wpAny_bind (wpAny_pure ?_)
 refine wpAny_bind (wpAny_fieldsOf hI rfl ?_)
 refine wpAny_bind (wpAny_setEntries_of ho hd S.fits ?_)
 rw[if_neg (by simp[rawInt])]
 dsimp only[rawInt]
 refine wpAny_bind (uf hT' ?_)
 dsimp only
 have e1:(ord.map fun(i:Nat)=>rawInt i).toArray[((i:Nat):Int).toNat]? =some (rawInt p):=by
  rw[Int.toNat_natCast,List.getElem?_toArray,List.getElem?_map,hp];rfl
 rw[e1]
 dsimp only[rawInt]
 refine wpAny_bind ?_
 unfold setNextDrawn
 refine wpAny_bind (wpAny_setState_of ho hd S.fits ?_)
 dsimp only
 rw[Int.toNat_natCast,Int.toNat_natCast,if_neg (by simp),he]
 refine wpAny_pure ?_
 refine wpAny_bind (wpAny_setField_rec hI (by simp) fun h1 e1 b1=>?_)
 refine wpAny_pure ⟨v,rfl,wpAny_pure (h h1 ?_ b1)⟩
 simpa[rawInt] using e1
theorem Il {I a T:Addr} {i:Nat} {es:Array (Int×Value)} {ep:Nat} {t:SetTable} {ks:List Str} {ord:List Nat} {Q:Option Value→Shared→Prop} (hh:A.handled=none) (hI:kE s.heap I #[.ref T,rawInt i,.ref a,rawInt es.size,rawInt ep])
  (hT':s.heap.get? T=some {cls:=.type "tuple",data:=.seq (ord.map fun(i:Nat)=>rawInt i).toArray}) (S:dk P w s.heap a es ep t ks) (hp:ord[i]? =none)
  (h:∀h',Heap.ExtBut I s.heap h'→Q none {s with heap:=h'}):wpAny (model P w) A (pyNext (.ref I)) Q E s:=by
 have hT:s.TypeIs (.ref I) "set_iterator":=⟨_,hI,rfl⟩
 obtain⟨o,ho,hex,hd⟩:=S.obj
 unfold pyNext
 refine wpAny_bind (wpAny_attempt (wpAny_callSpecial?_slot (name:=Str.ofString "__next__") hT SI.slot_next (wpAny_call_entry SI.slot_next hT SI.entry_next ?_ (SI.args_next _))))
 refine wpAny_bind (wpAny_pure ?_)
 refine wpAny_bind (wpAny_fieldsOf hI rfl ?_)
 refine wpAny_bind (wpAny_setEntries_of ho hd S.fits ?_)
 rw[if_neg (by simp[rawInt])]
 dsimp only[rawInt]
 refine wpAny_bind (uf hT' ?_)
 dsimp only
 have e1:(ord.map fun(i:Nat)=>rawInt i).toArray[((i:Nat):Int).toNat]? =none:=by
  rw[Int.toNat_natCast,List.getElem?_toArray,List.getElem?_map,hp];rfl
 rw[e1]
 dsimp only
 refine wpAny_bind (wpAny_setField_rec hI (by simp) fun h1 e1 b1=>?_)
 exact zr (s:={s with heap:=h1}) (k0:=none) hh e1 (by simp) fun h2 x=>h h2 (fun c o hc q=>x c o hc (b1.extBut c o hc q))
theorem qc {a:Addr} {Q:Bool→Shared→Prop} (h:Q (w.params.followText "set-order") s):wpAny (model P w) A setsByText Q E s:=by
 unfold setsByText
 exact wpAny_bind (wpAny_askSetting (wpAny_pure h))
theorem ug {a:Addr} {es:Array (Int×Value)} {ep:Nat} {t:SetTable} {ks:List Str} {sl i:Nat} {Q:Option (Value×Nat)→Shared→Prop} (S:dk P w s.heap a es ep t ks) (hb:w.params.followText "set-order"=true)
  (h:Q (((pickOrder (w.params.setOrder a ep) es)[i]?).map fun e=>(e.2,sl)) s):wpAny (model P w) A (setNext a sl i ep) Q E s:=by
 obtain⟨o,ho,hex,hd⟩:=S.obj
 unfold setNext
 refine wpAny_bind (wpAny_setState_of ho hd S.fits ?_)
 dsimp only
 refine wpAny_bind (qc (a:=a) ?_)
 rw[hb,if_pos rfl,if_neg (by simp)]
 refine wpAny_bind ?_
 unfold setWalk
 refine wpAny_bind (wpAny_setState_of ho hd S.fits ?_)
 dsimp only
 refine wpAny_bind (qc (a:=a) ?_)
 rw[hb,if_pos rfl]
 refine wpAny_bind (wpAny_askSetting (wpAny_pure ?_))
 exact wpAny_pure h
theorem wa {a:Addr} {es:Array (Int×Value)} {ep:Nat} {t:SetTable} {ks:List Str} {sl i:Nat} {Q:Option (Value×Nat)→Shared→Prop} (S:dk P w s.heap a es ep t ks) (hb:w.params.followText "set-order"=false) (h1:es.size≤1)
  (h:Q (match es[SetTable.below t.place sl]?,t.place[SetTable.below t.place sl]? with | some (_,x),some j=>some (x,j+1) | _,_=>none) s):wpAny (model P w) A (setNext a sl i ep) Q E s:=by
 obtain⟨o,ho,hex,hd⟩:=S.obj
 have hl:t.led=true:=by rw[S.led,hb];rfl
 unfold setNext
 refine wpAny_bind (wpAny_setState_of ho hd S.fits ?_)
 dsimp only
 refine wpAny_bind (qc (a:=a) ?_)
 rw[hb,if_neg (by decide)]
 refine wpAny_ite_split (fun hab=>?_) (fun _=>?_)
 ·have hab':(!t.plain&&decide (es.size>1))=true:=hab
  simp at hab'
  omega
 refine wpAny_bind ?_
 show wpAny (model P w) A (if(!t.led&& !es.isEmpty)=true then unsupported _ else pure ()) _ _ s
 rw[hl,if_neg (by simp)]
 exact wpAny_pure (wpAny_pure h)
end
theorem uh {α:Type} (f:Nat→Nat):∀(n k:Nat) (l:List α) (out:Array α),l.length=n→(pickOrder.go f n k l out).toList.Perm (out.toList++l)
 | 0,k,l,out,h=>by
  have:l=[]:=List.length_eq_zero_iff.mp h
  subst this
  unfold pickOrder.go
  rw[List.append_nil]
 | n+1,k,l,out,h=>by
  have lt:f k % l.length<l.length:=Nat.mod_lt _ (by omega)
  unfold pickOrder.go
  rw[List.getElem?_eq_getElem lt]
  dsimp only
  refine(uh f n (k+1) _ _ (by rw[List.length_eraseIdx_of_lt lt];omega)).trans ?_
  rw[Array.toList_push,List.append_assoc]
  refine List.Perm.append_left _ ?_
  have e:l=l.take (f k % l.length)++l[f k % l.length]::l.drop (f k % l.length+1):=by rw[←List.drop_eq_getElem_cons lt,List.take_append_drop]
  rw[List.eraseIdx_eq_take_drop_succ]
  conv=>rhs;rw[e]
  show(l[f k % l.length]::(l.take (f k % l.length)++l.drop (f k % l.length+1))).Perm _
  exact List.perm_middle.symm
section
variable {P:Program} {w:World} {A:Around} {E:Value→Shared→Prop}
theorem ui {α:Type}:∀(n:Nat) (l:List α) (s:Shared) (Q:List α→Shared→Prop),l.length=n→(∀ys d',ys.Perm l→Q ys {s with drawn:=d'})→wpAny (model P w) A (drawOrder n l) Q E s
 | 0,l,s,Q,hl,h=>by
  have:l=[]:=List.length_eq_zero_iff.mp hl
  subst this
  unfold drawOrder
  exact wpAny_pure (h [] s.drawn (.refl _))
 | n+1,[],s,Q,hl,h=>by cases hl
 | n+1,x::l,s,Q,hl,h=>by
  unfold drawOrder
  have go:∀i,i<(x::l).length→wpAny (model P w) A (match (x::l)[i]? with | some y=>do return y::(←drawOrder n ((x::l).eraseIdx i)) | none=>unsupported "internal:drawOrder") Q E {s with drawn:=s.drawn.bump .order}:=fun i hi=>by
   rw[List.getElem?_eq_getElem hi]
   dsimp only
   refine wpAny_bind (ui n _ _ _ (by rw[List.length_eraseIdx_of_lt hi];omega) fun ys d' p=>wpAny_pure ?_)
   refine h _ d' ?_
   have e:(x::l)=(x::l).take i++(x::l)[i]::(x::l).drop (i+1):=by rw[←List.drop_eq_getElem_cons hi,List.take_append_drop]
   refine(p.cons _).trans ?_
   rw[List.eraseIdx_eq_take_drop_succ]
   conv=>rhs;rw[e]
   exact List.perm_middle.symm
  refine wpAny_bind ?_
  exact fun _ _ hΓ=>⟨by simp,go _ (Nat.mod_lt _ (by simp))⟩
end
section
variable {P:Program} {w:World} {A:Around} {E:Value→Shared→Prop} {s:Shared}
abbrev Fs (ks:List Str):Nat→Value→Prop:=fun i v=>∃x tk,ks[i]? =some x∧v=.str x tk
theorem Cj {I a:Addr} {es:Array (Int×Value)} {ep:Nat} {t:SetTable} {ks ks':List Str} (hh:A.handled=none) (hne:a≠I) (hb:w.params.followText "set-order"=true)
  (hv:StrsAre ((pickOrder (w.params.setOrder a ep) es).toList.map (·.2)) ks') (hl:ks'.length=es.size):
  Walks P w A I [I,a] [I] es.size (Fs ks') (fun i h=>kE h I #[rawInt 0,rawInt i,.ref a,rawInt es.size,rawInt ep]∧dk P w h a es ep t ks) where
 sub:=fun b hb=>by simp at hb;simp[hb]
 frame:=fun _ _ _ st hk=>⟨hk I (by simp) _ st.1,st.2.at fun o q=>hk a (by simp) o q⟩
 item:=fun i s Q E hi st hQ=>by
  have hsz:(pickOrder (w.params.setOrder a ep) es).size=es.size:=by rw[←Array.length_toList,←List.length_map (f:=(·.2)),hv.length,hl]
  obtain⟨e,he⟩:∃e,(pickOrder (w.params.setOrder a ep) es)[i]? =some e:=⟨_,Array.getElem?_eq_getElem (by omega)⟩
  refine zq (sl:=0) (v:=e.2) (nx:=0) st.1 st.2 (fun B E' Q' q=>ug st.2 hb (by rw[he];exact q)) fun h' e1 b1=>hQ e.2 h' s.toks ?_ ⟨e1,st.2.at fun o q=>(b1.2 a hne).trans q⟩ fun b o hb q=>(b1.2 b (by simpa using hb)).trans q
  obtain⟨x,tk,ex,ev⟩:=qb hv i e.2 (by rw[List.getElem?_map,Array.getElem?_toList,he];rfl)
  exact⟨x,tk,ex,ev⟩
 done:=fun s Q E st hQ=>by
  have hsz:(pickOrder (w.params.setOrder a ep) es).size=es.size:=by rw[←Array.length_toList,←List.length_map (f:=(·.2)),hv.length,hl]
  have he:(pickOrder (w.params.setOrder a ep) es)[es.size]? =none:=Array.getElem?_eq_none (by omega)
  exact Ci (sl:=0) hh st.1 st.2 (fun B E' Q' q=>ug st.2 hb (by rw[he];exact q)) fun h' x=>hQ h' s.toks fun b o hb q=>x b o (by simpa using hb) q
 self:=fun _ _ _ _ st hQ=>sZ st.1 hQ
theorem Az {I a T:Addr} {es:Array (Int×Value)} {ep:Nat} {t:SetTable} {ks ks':List Str} {ord:List Nat} (hh:A.handled=none) (hne:a≠I) (hTI:T≠I) (hp:ord.Perm (List.range es.size))
  (hv:StrsAre (ord.map fun p=>(es.getD p (0,.none)).2) ks'):
  Walks P w A I [I,a,T] [I] es.size (Fs ks') (fun i h=>kE h I #[.ref T,rawInt i,.ref a,rawInt es.size,rawInt ep]∧dk P w h a es ep t ks∧h.get? T=some {cls:=.type "tuple",data:=.seq (ord.map fun(i:Nat)=>rawInt i).toArray}) where
 sub:=fun b hb=>by simp at hb;simp[hb]
 frame:=fun _ _ _ st hk=>⟨hk I (by simp) _ st.1,st.2.1.at fun o q=>hk a (by simp) o q,hk T (by simp) _ st.2.2⟩
 item:=fun i s Q E hi st hQ=>by
  have lo:ord.length=es.size:=by rw[hp.length_eq,List.length_range]
  obtain⟨p,ho⟩:∃p,ord[i]? =some p:=⟨_,List.getElem?_eq_getElem (by omega)⟩
  have hlt:p<es.size:=List.mem_range.mp (hp.mem_iff.mp (List.mem_of_getElem? ho))
  have he:es[p]? =some ((es.getD p (0,.none)).1,(es.getD p (0,.none)).2):=by
   rw[Array.getElem?_eq_getElem hlt,Array.getD_eq_getD_getElem?,Array.getElem?_eq_getElem hlt];rfl
  refine GV st.1 st.2.2 st.2.1 ho he fun h' e1 b1=>hQ _ h' s.toks ?_ ⟨e1,st.2.1.at fun o q=>(b1.2 a hne).trans q,(b1.2 T hTI).trans st.2.2⟩ fun b o hb q=>(b1.2 b (by simpa using hb)).trans q
  obtain⟨x,tk,ex,ev⟩:=qb hv i _ (by rw[List.getElem?_map,ho];rfl)
  exact⟨x,tk,ex,ev⟩
 done:=fun s Q E st hQ=>by
  have lo:ord.length=es.size:=by rw[hp.length_eq,List.length_range]
  exact Il hh st.1 st.2.2 st.2.1 (List.getElem?_eq_none (by omega)) fun h' x=>hQ h' s.toks fun b o hb q=>x b o (by simpa using hb) q
 self:=fun _ _ _ _ st hQ=>sZ st.1 hQ
theorem AA (p:Nat):SetTable.below #[p] 0=0:=by
 unfold SetTable.below
 simp[SetTable.below.go]
theorem AB (p:Nat):SetTable.below #[p] (p+1)=1:=by
 unfold SetTable.below
 simp[SetTable.below.go]
theorem DZ {I a:Addr} {es:Array (Int×Value)} {ep:Nat} {t:SetTable} {ks:List Str} (hh:A.handled=none) (hne:a≠I) (hb:w.params.followText "set-order"=false) (h1:es.size≤1) (hf:t.fits es.size=true) (hv:StrsAre (es.toList.map (·.2)) ks):
  Walks P w A I [I,a] [I] es.size (Fs ks) (fun i h=>kE h I #[rawInt (if i=0 then 0 else t.place.getD 0 0+1:Nat),rawInt i,.ref a,rawInt es.size,rawInt ep]∧dk P w h a es ep t ks) where
 sub:=fun b hb=>by simp at hb;simp[hb]
 frame:=fun _ _ _ st hk=>⟨hk I (by simp) _ st.1,st.2.at fun o q=>hk a (by simp) o q⟩
 item:=fun i s Q E hi st hQ=>by
  have i0:i=0:=by omega
  subst i0
  have sz:es.size=1:=by omega
  have tp:t.place.size=1:=by
   unfold SetTable.fits at hf
   simp only[Bool.and_eq_true,beq_iff_eq] at hf
   omega
  obtain⟨p,hp⟩:∃p,t.place= #[p]:=Array.size_eq_one_iff.mp tp
  obtain⟨e,he⟩:∃e,es[0]? =some e:=⟨_,Array.getElem?_eq_getElem (by omega)⟩
  refine zq (sl:=0) (v:=e.2) (nx:=p+1) st.1 st.2 (fun B E' Q' q=>wa st.2 hb h1 ?_) fun h' e1 b1=>hQ e.2 h' s.toks ?_ ⟨?_,st.2.at fun o q=>(b1.2 a hne).trans q⟩ fun b o hb q=>(b1.2 b (by simpa using hb)).trans q
  ·rw[hp,AA,he]
   exact q
  ·obtain⟨x,tk,ex,ev⟩:=qb hv 0 e.2 (by rw[List.getElem?_map,Array.getElem?_toList,he];rfl)
   exact⟨x,tk,ex,ev⟩
  ·rw[hp]
   exact e1
 done:=fun s Q E st hQ=>by
  refine Ci hh st.1 st.2 (fun B E' Q' q=>wa st.2 hb h1 ?_) fun h' x=>hQ h' s.toks fun b o hb q=>x b o (by simpa using hb) q
  by_cases z:es.size=0
  ·have ez:es= #[]:=Array.size_eq_zero_iff.mp z
   rw[ez]
   simpa using q
  ·have sz:es.size=1:=by omega
   have tp:t.place.size=1:=by
    unfold SetTable.fits at hf
    simp only[Bool.and_eq_true,beq_iff_eq] at hf
    omega
   obtain⟨p,hp⟩:∃p,t.place= #[p]:=Array.size_eq_one_iff.mp tp
   rw[if_neg z,hp]
   show Q' (match es[SetTable.below #[p] (p+1)]?,(#[p]:Array Nat)[SetTable.below #[p] (p+1)]? with | some (_,x),some j=>some (x,j+1) | _,_=>none) _
   rw[AB,Array.getElem?_eq_none (by omega)]
   exact q
 self:=fun _ _ _ _ st hQ=>sZ st.1 hQ
theorem AE {a:Addr} {es:Array (Int×Value)} {ep:Nat} {t:SetTable} {ks:List Str} {Q:Value→Shared→Prop} (S:dk P w s.heap a es ep t ks)
  (h:∀(I:Addr) (h1:Heap) (d1:Drawn) (fx:List Addr) (ks':List Str) (St:Nat→Heap→Prop),ks'.Perm ks→s.heap.objs.size≤I→I<h1.objs.size→(∀b∈fx,s.heap.objs.size≤b∧b<h1.objs.size)→(∀b o,s.heap.get? b=some o→h1.get? b=some o)→St 0 h1→
   (∀B:Around,B.handled=none→Walks P w B I (I::a::fx) [I] es.size (Fs ks') St)→Q (.ref I) {s with heap:=h1,drawn:=d1}):
  wpAny (model P w) A (pyIter (.ref a)) Q E s:=by
 obtain⟨o,ho,hex,hd⟩:=S.obj
 have hT:s.TypeIs (.ref a) "set":=⟨o,ho,hex.1⟩
 have la:a<s.heap.objs.size:=Heap.lt_size ho
 have hsz:=S.len
 refine wpAny_pyIter_slot hT PySem.F.slot_set_iter (wpAny_call_entry PySem.F.slot_set_iter hT SI.sY ?_ (PySem.F.args_set_iter_1 _))
 unfold Builtin.«frozenset.__iter__» Builtin.Frozenset.slot0 slotArgs
 simp only[List.isEmpty_nil,Bool.not_true,Bool.false_eq_true, ↓reduceIte,bind_assoc,List.length_nil,bne_self_eq_false]
 unfold Builtin.Frozenset.addrOf Builtin.Frozenset.sizeOf
 refine wpAny_bind (wpAny_pure ?_)
 try dsimp only
 refine wpAny_bind (wpAny_pure ?_)
 refine wpAny_bind (wpAny_bind (wpAny_setEntries_of ho hd S.fits (wpAny_pure ?_)))
 unfold setDrawn
 refine wpAny_bind (wpAny_bind (wpAny_setState_of ho hd S.fits ?_))
 dsimp only
 refine wpAny_bind (qc (a:=a) (wpAny_pure ?_))
 refine wpAny_ite_split (fun hab=>?_) (fun hab=>?_)
 ·have hab':(!w.params.followText "set-order"&&(!t.plain&&decide (es.size>1)))=true:=hab
  refine wpAny_bind (ui _ _ _ _ (List.length_range) fun ys d' p=>?_)
  have ly:ys.length=es.size:=by rw[p.length_eq,List.length_range]
  refine wpAny_bind (wpAny_newTuple ?_ (by rw[List.length_map,ly];exact fits_of_scanBound S.small))
  have hoT:(s.heap.push {cls:=.type "tuple",data:=.seq (ys.map fun(i:Nat)=>rawInt i).toArray}).get? s.heap.objs.size=some {cls:=.type "tuple",data:=.seq (ys.map fun(i:Nat)=>rawInt i).toArray}:=Heap.get?_push_size _ rfl
  have Ck:(s.heap.push {cls:=.type "tuple",data:=.seq (ys.map fun(i:Nat)=>rawInt i).toArray}).objs.size=s.heap.objs.size+1:=Heap.size_push ..
  refine wpAny_bind (wpAny_setEpoch_of (s:={s with heap:=s.heap.push {cls:=.type "tuple",data:=.seq (ys.map fun(i:Nat)=>rawInt i).toArray},drawn:=d'}) (Heap.get?_push_of_some _ ho) hd S.fits ?_)
  have SS:dk P w (s.heap.push {cls:=.type "tuple",data:=.seq (ys.map fun(i:Nat)=>rawInt i).toArray}) a es ep t ks:=S.at fun o q=>Heap.get?_push_of_some _ q
  have old:∀b o,s.heap.get? b=some o→(s.heap.push {cls:=.type "tuple",data:=.seq (ys.map fun(i:Nat)=>rawInt i).toArray}).get? b=some o:=fun b o q=>Heap.get?_push_of_some _ q
  generalize s.heap.push {cls:=.type "tuple",data:=.seq (ys.map fun(i:Nat)=>rawInt i).toArray}=h1 at hoT Ck SS old ⊢
  refine wpAny_bind (wpAny_newObj_type (wpAny_pure ⟨_,rfl,"set_iterator",_,⟨_,Heap.get?_push_size _ rfl,rfl⟩,SI.slot_next.lookup,?_⟩))
  have ent:((List.range es.size).map fun p=>(es.getD p (0,.none)).2)=es.toList.map (·.2):=by
   apply List.ext_getElem?
   intro i
   rw[List.getElem?_map,List.getElem?_map,show es.toList[i]? =es[i]? from Array.getElem?_toList]
   by_cases hi:i<es.size
   ·rw[List.getElem?_range hi,Array.getElem?_eq_getElem hi]
    show some (es.getD i (0,.none)).2=some es[i].2
    rw[Array.getD_eq_getD_getElem?,Array.getElem?_eq_getElem hi];rfl
   ·rw[List.getElem?_eq_none (by rw[List.length_range];omega),Array.getElem?_eq_none (by omega)];rfl
  obtain⟨ks',v',p'⟩:=lL (p.map fun p=>(es.getD p (0,.none)).2) (ks:=ks) (by rw[ent];exact S.vals)
  refine h h1.objs.size (h1.push _) d' [s.heap.objs.size] ks' _ p' (by rw[Ck];exact Nat.le_succ _) (by rw[Heap.size_push];exact Nat.lt_succ_self _) (fun b hb=>?_) (fun b o q=>Heap.get?_push_of_some _ (old b o q)) ?_ (fun B hB=>Az (ep:=ep) (t:=t) (ks:=ks) hB ?_ ?_ p v')
  ·rw[List.mem_singleton.mp hb,Heap.size_push,Ck]
   exact⟨Nat.le_refl _,Nat.lt_succ_of_lt (Nat.lt_succ_self _)⟩
  ·exact⟨Heap.get?_push_size _ rfl,SS.at fun o q=>Heap.get?_push_of_some _ q,Heap.get?_push_of_some _ hoT⟩
  ·rw[Ck];exact Nat.ne_of_lt (Nat.lt_succ_of_lt la)
  ·rw[Ck];exact Nat.ne_of_lt (Nat.lt_succ_self _)
 ·have hab':¬(!w.params.followText "set-order"&&(!t.plain&&decide (es.size>1)))=true:=hab
  refine wpAny_bind (wpAny_pure ?_)
  refine wpAny_bind (wpAny_setEpoch_of ho hd S.fits ?_)
  refine wpAny_bind (wpAny_newObj_type (wpAny_pure ⟨_,rfl,"set_iterator",_,⟨_,Heap.get?_push_size _ rfl,rfl⟩,SI.slot_next.lookup,?_⟩))
  have Fq:a≠s.heap.objs.size:=Nat.ne_of_lt la
  cases hb:w.params.followText "set-order" with
  | true=>
   obtain⟨ks',v',p'⟩:=lL ((uh (w.params.setOrder a ep) es.size 0 es.toList #[] (by simp)).map (·.2)) (ks:=ks) (by simpa using S.vals)
   exact h s.heap.objs.size (s.heap.push _) s.drawn [] ks' _ p' (Nat.le_refl _) (by rw[Heap.size_push];exact Nat.lt_succ_self _) (fun b hb=>by simp at hb) (fun b o q=>Heap.get?_push_of_some _ q) ⟨Heap.get?_push_size _ rfl,S.at fun o q=>Heap.get?_push_of_some _ q⟩
    (fun B hB=>Cj (ep:=ep) (t:=t) (ks:=ks) hB Fq hb v' (by rw[p'.length_eq,hsz]))
  | false=>
   have few:es.size≤1:=by
    rw[hb] at hab'
    by_cases z:es.size≤1
    ·exact z
    ·exfalso
     refine hab' ?_
     rw[S.plain (by omega),decide_eq_true (show es.size>1 by omega)]
     rfl
   exact h s.heap.objs.size (s.heap.push _) s.drawn [] ks _ (.refl _) (Nat.le_refl _) (by rw[Heap.size_push];exact Nat.lt_succ_self _) (fun b hb=>by simp at hb) (fun b o q=>Heap.get?_push_of_some _ q) ⟨Heap.get?_push_size _ rfl,S.at fun o q=>Heap.get?_push_of_some _ q⟩
    (fun B hB=>DZ (ep:=ep) (t:=t) (ks:=ks) hB Fq hb few S.fits S.vals)
theorem D_ {r:Addr} {Q:Bool→Shared→Prop} (hT:s.TypeIs (.ref r) "set") (h:Q false s):wpAny (model P w) A (Builtin.List.listLengthHint (.ref r)) Q E s:=by
 unfold Builtin.List.listLengthHint
 refine wpAny_bind (wpAny_specialOf hT PySem.F.slot_set_len.lookup ?_)
 generalize hid:("set.__len__":String)=id0
 wp_delta
 rw[show splitId id0=some ("set","__len__") from by subst hid;decide+kernel]
 subst hid
 refine wpAny_bind (wpAny_isInstance (T:="set") (b:=true) hT (by rw[isSubtype_type];kernel_rfl) ?_)
 refine wpAny_ite_split (fun hab=>absurd hab (by decide)) (fun _=>?_)
 refine wpAny_ite_split (fun _=>?_) (fun hab=>absurd (by decide+kernel) hab)
 exact wpAny_bind (wpAny_typeOf hT (wpAny_pure h))
theorem xY {a:Addr} {es:Array (Int×Value)} {ep:Nat} {t:SetTable} {ks:List Str} {Q:List Value→Shared→Prop} (S:dk P w s.heap a es ep t ks) (hh:A.handled=none)
  (h:∀(h':Heap) (tk:Nat) (d':Drawn) (acc:List Value) (ks':List Str),(∀b o,s.heap.get? b=some o→h'.get? b=some o)→StrsAre acc ks'→ks'.Perm ks→Q acc {s with heap:=h',toks:=tk,drawn:=d'}):
  wpAny (model P w) A (collect (.ref a)) Q E s:=by
 obtain⟨o,ho,hex,hd⟩:=S.obj
 have la:a<s.heap.objs.size:=Heap.lt_size ho
 have hsz:=S.len
 unfold collect
 refine wpAny_bind (wpAny_runValue (codeAny_builtin entry_proto_collect' ?_))
 rw[Around.under_plainId PySem.F.plain_proto_collect]
 show wpAny (model P w) A.in1 (newList [] >>= fun l=>again (.builtin "list.__iadd__" ⟨[l,.ref a],[]⟩)) _ _ s
 refine wpAny_bind (wpAny_newObj_type ?_)
 refine wpAny_pure ⟨plainId_quiet PySem.F.plain_list_iadd _,codeAny_builtin entry_list_iadd' ?_⟩
 rw[Around.under_plainId PySem.F.plain_list_iadd]
 have g1:(s.heap.push {cls:=.type "list",data:=.seq ([]:List Value).toArray}).get? s.heap.objs.size=some {cls:=.type "list",data:=.seq #[]}:=Heap.get?_push_size _ rfl
 have z1:(s.heap.push {cls:=.type "list",data:=.seq ([]:List Value).toArray}).objs.size=s.heap.objs.size+1:=Heap.size_push ..
 have k1:∀b o,s.heap.get? b=some o→(s.heap.push {cls:=.type "list",data:=.seq ([]:List Value).toArray}).get? b=some o:=fun b o q=>Heap.get?_push_of_some _ q
 show wpAny (model P w) A.in1 (Builtin.List.listExtendWith (.ref s.heap.objs.size) (.ref a) (.ref s.heap.objs.size)) _ _ _
 generalize s.heap.push {cls:=.type "list",data:=.seq ([]:List Value).toArray}=h1 at g1 z1 k1 ⊢
 have S1:dk P w h1 a es ep t ks:=S.at fun o q=>k1 a o q
 have T1:Shared.TypeIs {s with heap:=h1} (.ref a) "set":=⟨o,k1 a o ho,hex.1⟩
 unfold Builtin.List.listExtendWith
 refine wpAny_bind (wpAny_typeOf T1 ?_)
 have n1:Builtin.List.listSameRef (.ref s.heap.objs.size) (.ref a)=false:=by simp[Builtin.List.listSameRef];exact Nat.ne_of_gt la
 rw[if_neg (by rw[n1];decide)]
 refine wpAny_bind (AE (s:={s with heap:=h1}) S1 fun I h2 d2 fx ks' St pk LN ltI RS k2 st W=>?_)
 refine wpAny_bind (wpAny_holding (D_ ⟨o,k2 a o (k1 a o ho),hex.1⟩ ?_))
 refine wpAny_ite_split (fun _=>?_) (fun hab=>absurd (by decide+kernel) hab)
 have lS:s.heap.objs.size<h1.objs.size:=by rw[z1];exact Nat.lt_succ_self _
 have nf:s.heap.objs.size ∉ I::a::fx:=fun m=>by
  rcases List.mem_cons.mp m with q | m
  ·exact absurd LN (by rw[←q];exact Nat.not_le.mpr lS)
  ·rcases List.mem_cons.mp m with q | m
   ·exact absurd la (by rw[←q];exact Nat.lt_irrefl _)
   ·exact absurd (RS _ m).1 (Nat.not_le.mpr lS)
 refine wpAny_bind (wpAny_rule (wpAny_bind ?_))
 have g2:=k2 _ _ g1
 show wpAny (model P w) A.in1 (updateSeq s.heap.objs.size (·.push .none) >>= fun _=>updateSeq s.heap.objs.size (·.pop)) _ _ _
 refine wpAny_bind (wpAny_updateSeq g2 rfl ?_)
 have g3:=Heap.get?_update_self (Obj.mapSeq (·.push Value.none)) g2 rfl
 refine wpAny_updateSeq (hz:=by seq_fits) g3 rfl ?_
 have g4:=Heap.get?_update_self (Obj.mapSeq (·.pop)) g3 rfl
 have k4:∀b o,b≠s.heap.objs.size→h2.get? b=some o→((h2.update s.heap.objs.size (Obj.mapSeq (·.push Value.none))).update s.heap.objs.size (Obj.mapSeq (·.pop))).get? b=some o:=fun b o nb q=>
  (Heap.get?_update_other _ _ (Ne.symm nb)).trans ((Heap.get?_update_other _ _ (Ne.symm nb)).trans q)
 have vS:=(W A.in1 hh).frame 0 _ _ st fun b hb o q=>k4 b o (fun z=>nf (z▸hb)) q
 refine wpAny_pure ⟨plainId_quiet PySem.F.plain_extend_loop _,codeAny_extend_loopS (W A.in1 hh).toS (fits_of_scanBound S.small) s.heap.objs.size nf _ es.size 0 _ #[] _ rfl (Nat.zero_le _) vS g4 (ItemsOf.nil _) fun s' acc' c' hm hS' hacc=>?_⟩
 show wpAny (model P w) A (load s.heap.objs.size >>= _) _ _ s'
 refine wpAny_bind (wpAny_load hS' ?_)
 refine wpAny_pure ?_
 rw[Moved.eq_with hm]
 refine h s'.heap s'.toks d2 acc'.toList ks' (fun b o q=>hm.heap b o (fun m=>?_) (k4 b o (Nat.ne_of_lt (Heap.lt_size q)) (k2 b o (k1 b o q)))) ?_ pk
 ·have lb:=Heap.lt_size q
  rcases List.mem_cons.mp m with z | m
  ·exact absurd lb (by rw[z];exact Nat.lt_irrefl _)
  ·have z:=List.mem_singleton.mp m
   exact absurd (Nat.lt_trans lb lS) (by rw[z];exact Nat.not_lt.mpr LN)
 ·have ll:acc'.toList.length=ks'.length:=by rw[Array.length_toList,hacc.1,hsz,pk.length_eq]
  refine rK ll fun i v x e1 e2=>?_
  obtain⟨y,tk,ey,ev⟩:=hacc.2 i v (by rw[←Array.getElem?_toList];exact e1)
  rw[e2] at ey
  cases ey
  exact⟨tk,ev⟩
end
def kG (P:Program) (w:World) (a:Addr) (ks:List Str):HO:=.ext fun h=>∃es ep t ks',dk P w h a es ep t ks'∧ks'.Perm ks
section
variable {X:Cx}
def Na (X:Cx):List V→Hp→VK→Prop:=fun xs H Q=>∃(l:Addr) (ss:List Str),xs=[.ref l]∧bW X.K H l (ss.map V.str)∧ss.length+1<scanBound∧
 ∀(p:Addr) (ks:List Str),H p=none→ks.Nodup→(∀y,y∈ks↔y∈ss)→ks.length≤ss.length→Q (.ref p) (upd H p (kG X.prog X.w p ks))
theorem Cm (hc:X.calm=true):fm X (.type "set") (Na X):=by
 intro pins s σ H xs us Q I r h
 obtain⟨l,ss,rfl,hq,hb,q⟩:=h
 obtain⟨u,rfl,ru⟩:=vals1 r
 cases ru
 obtain⟨its,rv,p,_⟩:=I.list hq
 have hl:=rv.length
 rw[List.length_map] at hl
 refine v7 (I.ok.hd hc) p.isList (nG rv) (by simp;omega) fun h' tk es ep t ks S hm hlen kp=>?_
 have k':∀b o,s.heap.get? b=some o→h'.get? b=some o:=fun b o e=>kp b o (Heap.lt_size e) e
 have hp:s.heap.objs.size≤s.heap.objs.size:=Nat.le_refl _
 have I2:=I.laid (a:=s.heap.objs.size) (o:=kG X.prog X.w s.heap.objs.size ks) (t':=tk) k' hp ⟨⟨es,ep,t,ks,S,.refl _⟩,(let ⟨o,e,_⟩:=S.obj;⟨o,e⟩),fun h1 h2 ⟨es1,hJ,t1,uc,S1,p1⟩ k2=>⟨es1,hJ,t1,uc,S1.at k2,p1⟩⟩
 exact⟨.ref s.heap.objs.size,_,I2,rfl,q _ ks (I.hok.fresh hp) S.once hm (by simp at hlen;omega)⟩
def D0 (X:Cx):List V→Hp→VK→Prop:=fun xs H Q=>∃(a:Addr) (ks:List Str),xs=[.ref a]∧H a=some (kG X.prog X.w a ks)∧ks.length<64∧
 ∀(p:Addr) (ss':List Str),H p=none→ss'.Perm ks→sortedS ss'=true→Q (.ref p) (upd H p (.lst (ss'.map V.str)))
theorem wb (hc:X.calm=true):fm X (.builtin "sorted") (D0 X):=by
 intro pins s σ H xs us Q I r h
 obtain⟨a,ks,rfl,ha,h64,q⟩:=h
 obtain⟨u,rfl,ru⟩:=vals1 r
 cases ru
 obtain⟨⟨es,ep,t,Vt,S,p0⟩,_,_⟩:=(show b_ X.prog X.w H s.heap a (kG X.prog X.w a ks) from I.hok a _ ha)
 refine Calls.call_function_entry kind_sorted plain_sorted entry_sorted (args_sorted1 _) ?_
 unfold Builtin.«sorted»
 (refine wpAny_bind (m:=checkCount "sorted" 1 1 _) (wpAny_pure ?_))
 refine wpAny_bind (xY (A:=X.A.in1) S (I.ok.hd hc) fun h' tk d' acc uc k hS p1=>?_)
 have hl:acc.length=ks.length:=by rw[hS.length,p1.length_eq,p0.length_eq]
 refine wpAny_bind (wpAny_newList ?_ (by rw[hl];exact Nat.le_of_lt (Nat.lt_of_lt_of_le h64 (by decide))))
 have hoL:(h'.push (seqObj "list" acc.toArray 0)).get? h'.objs.size=some (seqObj "list" acc.toArray 0):=Heap.get?_push_size _ rfl
 refine wpAny_bind (wpAny_holding (wpAny_call_entry slot_list_sort ⟨_,hoL,rfl⟩ entry_list_sort (list_sort_treeK strKind_oneLt hoL hS.keysOf (fun v1 v2 rest e=>keyKind_strs (by rw[←e];exact hS)) (by rw[hl];exact h64) fun st' hp hs=>⟨_,rfl,?_⟩) (args_list_sort _)))
 obtain⟨ss',a1,a2,a3⟩:=sorted_out_str hS hp hs
 have I1:Inv X pins σ H {s with heap:=h',toks:=tk,drawn:=d'}:=I.step (g':=s.gens) (d':=d') (ch:=[]) (fun b z=>by cases z) (fun b o _ _ _ e _=>k b o e) (fun b o _ _ _ e _=>⟨o.slots,k b o e⟩) (fun _ _ _ _ n=>n)
  (fun b o _ e=>⟨o,k b o e⟩) (fun _ _ e=>e) (fun _ _ _ e=>e) (fun b ps e=>⟨#[],by rw[e];simp⟩) (fun m ⟨ob,e1,e2,hb,r⟩=>⟨ob,e1,e2,k _ ob hb,r⟩) (fun b u e=>(I.hok b u e).stay (fun c v _ z=>k c v z) (fun _ z=>z) fun _ _ z=>z) I.bare
 obtain⟨e,he⟩:=sortedHeap_at (out:=(arrOf st').map (·.2)) hoL
 have kp:∀b u,h'.get? b=some u→(sortedHeap (h'.push (seqObj "list" acc.toArray 0)) h'.objs.size acc ((arrOf st').map (·.2))).get? b=some u:=fun b u eb=>by
  have lt:=Heap.lt_size eb
  rw[sortedHeap_old (Nat.ne_of_lt lt) (by rw[Heap.size_push];exact Nat.lt_succ_of_lt lt)]
  exact Heap.get?_push_of_some _ eb
 have I2:=I1.laid (a:=h'.objs.size) (o:=.lst (ss'.map V.str)) (t':=tk) kp (Nat.le_refl _) ⟨by rw[List.length_map,a2.length_eq,p1.length_eq,p0.length_eq];exact Nat.le_of_lt (Nat.lt_of_lt_of_le h64 (by decide)),((arrOf st').map (·.2)).toList,e,o3 a1,he⟩
 exact wpAny_pure ⟨_,rfl,⟨.ref h'.objs.size,_,I2,rfl,q _ ss' (I1.hok.fresh (Nat.le_refl _)) ((a2.trans p1).trans p0) a3⟩⟩
end
end L2
namespace L2
open PySem PySem.Spec PyProof.Rows
open PySem.AutoSeq1 (wpAny_loadPart')
theorem K_ (x y:Str) (h:(!ltCps y.cps.toList x.cps.toList)=true):x.cps.toList≤y.cps.toList:=by
 rw[PyProof.Rows.ltCps_eq] at h
 exact List.not_lt.mp (by simpa using h)
theorem o4:∀(l:List Str) (p:Str),risingS p l=true→∀y∈l,p.cps.toList≤y.cps.toList
 | [],p,_,y,hy=>by cases hy
 | x::l,p,h,y,hy=>by
  have h':(!ltCps x.cps.toList p.cps.toList&&risingS x l)=true:=h
  rw[Bool.and_eq_true] at h'
  have h1:=K_ p x h'.1
  rcases List.mem_cons.mp hy with e | hy
  ·rw[e];exact h1
  ·exact List.le_trans h1 (o4 l x h'.2 y hy)
theorem qx {x:Str} {l:List Str} (h:sortedS (x::l)=true):sortedS l=true:=by
 cases l with
 | nil=>rfl
 | cons y l=>
  have h':(!ltCps y.cps.toList x.cps.toList&&risingS y l)=true:=h
  rw[Bool.and_eq_true] at h'
  exact h'.2
theorem Im {x y:Str} (h:x.cps.toList=y.cps.toList):x=y:=by
 obtain⟨a⟩:=x
 obtain⟨b⟩:=y
 have:a=b:=Array.toList_inj.mp h
 rw[this]
theorem qy:∀{l m:List Str},sortedS l=true→sortedS m=true→l.Nodup→m.Nodup→(∀y,y∈l↔y∈m)→l=m
 | [],[],_,_,_,_,_=>rfl
 | [],y::m,_,_,_,_,h=>by have:=(h y).mpr List.mem_cons_self;cases this
 | x::l,[],_,_,_,_,h=>by have:=(h x).mp List.mem_cons_self;cases this
 | x::l,y::m,sl,sm,nl,nm,h=>by
  rw[List.nodup_cons] at nl nm
  have e:x=y:=by
   rcases List.mem_cons.mp ((h x).mp List.mem_cons_self) with e | hx
   ·exact e
   ·rcases List.mem_cons.mp ((h y).mpr List.mem_cons_self) with e | hy
    ·exact e.symm
    ·exact Im (List.le_antisymm (o4 l x sl y hy) (o4 m y sm x hx))
  subst e
  rw[qy (qx sl) (qx sm) nl.2 nm.2 fun z=>?_]
  constructor
  ·intro hz
   rcases List.mem_cons.mp ((h z).mp (List.mem_cons_of_mem _ hz)) with e | q
   ·exact absurd (e▸hz) nl.1
   ·exact q
  ·intro hz
   rcases List.mem_cons.mp ((h z).mpr (List.mem_cons_of_mem _ hz)) with e | q
   ·exact absurd (e▸hz) nm.1
   ·exact q
end L2
namespace L2
open PySem PySem.Spec PyProof.Rows
structure Passed (fs:List Addr) (e:Addr) (oe:Obj) (hd:Option Addr) (T:Addr) (h h':Heap):Prop where
 above:h.objs.size≤T
 keep:∀b o,b≠e→b ∉ fs→hd≠some b→h.get? b=some o→h'.get? b=some o
 slot:∀b o,b∈fs→b≠e→hd≠some b→h.get? b=some o→∃sl,h'.get? b=some {o with slots:=sl}
 exc:h'.get? e=some (oe.mapFields (·.setIfInBounds 1 (.ref T)))
 tb:∃oT ts,h'.get? T=some oT∧oT.data=.fields ts∧ts[3]? =some .none
section
variable {M:Model} {A:Around} {E:Value→Shared→Prop} {s:Shared} {base:Heap} {env:Env} {outer:List Env} {L e:Addr} {oe:Obj} {vs:Array Value} {Q:Unit→Shared→Prop}
theorem rL {head:Value} {had:Bool} (fr:A.frames=some (env::outer)) (ff:s.heap.FunFrames base (env::outer)) (fL:env.frame=some L)
  (xe:s.heap.get? e=some oe) (xd:oe.data=.fields vs) (xs:1<vs.size) (k:∀h' T,Passed (frs (env::outer)) e oe none T s.heap h'→Q () {s with heap:=h'}):
  wpAny M A (do
   let a ←frameOf env
   let pl ←entryPlaceOf L had
   let b ←EntryCells.newEntry head a .none (rawInt L) .none pl
   setField (.ref e) 1 b) (fun _ s'=>wpAny M A (setFlight (.ref e) none) Q E s') E s:=by
 have Io:e ∉ frs (env::outer):=fun z=>by
  obtain⟨_,o,ho,nf⟩:=ff.mem z
  rw[xe] at ho
  cases ho
  exact nf vs xd
 refine wpAny_bind (wpAny_frameOf_fun fr ff fL fun g so=>?_)
 refine wpAny_bind (wpAny_entryPlaceOf fun pl ip=>?_)
 unfold EntryCells.newEntry newFields
 refine wpAny_bind (wpAny_newObj_type ?_ (ip.sizeOk5 _ _ _ _ _))
 have ge:g.get? e=some oe:=(so.2.1 e Io).trans xe
 generalize hN:([head,Value.ref L,.none,rawInt L,.none]++(if pl.isEmpty then List.replicate 6 Value.none else pl)).toArray=ar
 have a3:ar[3]? =some (rawInt L):=by rw[←hN];simp
 have as:3<ar.size:=(Array.getElem?_eq_some_iff.mp a3).1
 have g2:=Heap.get?_push_of_some (h:=g) {cls:=.type "traceback",dict:=none,data:=.fields ar} ge
 refine wpAny_setField g2 xd xs ?_
 have uj:g.objs.size≠e:=Nat.ne_of_gt (Heap.lt_size ge)
 have d3:=Obj.data_mapFields xd (·.setIfInBounds 1 (Value.ref g.objs.size))
 have g3:=Heap.get?_update_self (Obj.mapFields (·.setIfInBounds 1 (Value.ref g.objs.size))) g2 (Obj.isFreed_of_fields d3)
 have t3:=(Heap.get?_update_other (g.push {cls:=.type "traceback",dict:=none,data:=.fields ar}) (Obj.mapFields (·.setIfInBounds 1 (Value.ref g.objs.size))) (Ne.symm uj)).trans (Heap.get?_push_size g rfl)
 unfold setFlight
 refine wpAny_bind (wpAny_field g3 d3 (x:=.ref g.objs.size) (by simp[xs]) ?_)
 rw[if_pos (by simp)]
 refine wpAny_setField t3 rfl as ?_
 have keep:∀b o,b≠e→g.get? b=some o→(((g.push {cls:=.type "traceback",dict:=none,data:=.fields ar}).update e (Obj.mapFields (·.setIfInBounds 1 (Value.ref g.objs.size)))).update g.objs.size
   (Obj.mapFields (·.setIfInBounds 3 ((none:Option Addr).elim Value.none fun f=>rawInt f)))).get? b=some o:=fun b o ne hb=>by
  rw[Heap.get?_update_other _ _ (Nat.ne_of_gt (Heap.lt_size hb)),Heap.get?_update_other _ _ (Ne.symm ne)]
  exact Heap.get?_push_of_some _ hb
 refine k _ g.objs.size ⟨Nat.le_of_eq so.1.symm,fun b o ne nf _ hb=>keep b o ne ((so.2.1 b nf).trans hb),fun b o _ ne _ hb=>?_,?_,_,_,Heap.get?_update_self _ t3 (Obj.isFreed_of_fields (Obj.data_mapFields rfl _)),Obj.data_mapFields rfl _,?_⟩
 ·obtain⟨sl,q⟩:=so.2.2 b o hb
  exact⟨sl,keep b _ ne q⟩
 ·rw[Heap.get?_update_other _ _ uj]
  exact g3
 ·simp[as]
theorem AF (fr:A.frames=some (env::outer)) (ff:s.heap.FunFrames base (env::outer)) (fL:env.frame=some L) (xe:s.heap.get? e=some oe) (xd:oe.data=.fields vs) (x1:vs[1]? =some .none)
  (k:∀h' T,Passed (frs (env::outer)) e oe none T s.heap h'→Q () {s with heap:=h'}):wpAny M A (noteFrame (.ref e) env) (fun _ s'=>wpAny M A (setFlight (.ref e) none) Q E s') E s:=by
 unfold noteFrame
 simp only[fL]
 refine wpAny_bind (wpAny_field xe xd x1 ?_)
 rw[if_neg (by decide)]
 exact rL fr ff fL xe xd (Array.getElem?_eq_some_iff.mp x1).1 k
theorem Cn {T₀:Addr} {oT:Obj} {ts:Array Value} (fr:A.frames=some (env::outer)) (ff:s.heap.FunFrames base (env::outer)) (fL:env.frame=some L) (xe:s.heap.get? e=some oe) (xd:oe.data=.fields vs) (x1:vs[1]? =some (.ref T₀))
  (uj:T₀≠e) (xt:s.heap.get? T₀=some oT) (td:oT.data=.fields ts) (t3:ts[3]? =some .none)
  (k:∀h' T,Passed (frs (env::outer)) e oe (some T₀) T s.heap h'→Q () {s with heap:=h'}):wpAny M A (noteFrame (.ref e) env) (fun _ s'=>wpAny M A (setFlight (.ref e) none) Q E s') E s:=by
 unfold noteFrame
 simp only[fL]
 refine wpAny_bind (wpAny_field xe xd x1 ?_)
 rw[if_pos (by simp)]
 refine wpAny_bind (wpAny_field xt td t3 ?_)
 rw[if_neg (by simp[rawInt])]
 refine wpAny_bind (wpAny_setField xt td (Array.getElem?_eq_some_iff.mp t3).1 ?_)
 have oth:∀b,b≠T₀→(s.heap.update T₀ (Obj.mapFields (·.setIfInBounds 3 Value.none))).get? b=s.heap.get? b:=fun b nb=>Heap.get?_update_other _ _ (Ne.symm nb)
 have D3:∀b o,s.heap.get? b=some o→(∀ws,o.data≠.fields ws)→b≠T₀:=fun b o hb nf z=>by
  rw[z,xt] at hb
  cases hb
  exact nf ts td
 refine rL (s:={s with heap:=s.heap.update T₀ (Obj.mapFields (·.setIfInBounds 3 Value.none))}) fr (ff.of_keeps fun b o hb nf=>⟨o,(oth b (D3 b o hb nf)).trans hb,rfl⟩) fL ((oth e (Ne.symm uj)).trans xe) xd (Array.getElem?_eq_some_iff.mp x1).1 fun h' T p=>?_
 refine k h' T ⟨?_,fun b o ne nf nt hb=>p.keep b o ne nf (by simp) ((oth b fun z=>nt (by rw[z])).trans hb),fun b o hf ne nt hb=>p.slot b o hf ne (by simp) ((oth b fun z=>nt (by rw[z])).trans hb),p.exc,p.tb⟩
 have:=p.above
 simpa[Heap.update] using this
end
def nI (fresh:Bool) (a C:Addr) (dx:Option Addr):Heap→Prop:=fun h=>
 ∃o vs,h.get? a=some o∧o.cls=.ref C∧o.dict=dx∧o.data=.fields vs∧vs.size=6∧(fresh=true→vs[1]? =some .none)
abbrev xo (fresh:Bool) (a C:Addr) (dx:Option Addr):HO:=.ext (nI fresh a C dx)
theorem vb {P:Program} {w:World} {H:Hp} {h:Heap} {f:Bool} {a C:Addr} {dx:Option Addr} (x:nI f a C dx h):b_ P w H h a (xo f a C dx):=by
 obtain⟨o,vs,e,r⟩:=id x
 refine⟨x,⟨o,e⟩,fun h1 h2 p k=>?_⟩
 obtain⟨o',vs',e',r'⟩:=p
 exact⟨o',vs',k _ e',r'⟩
theorem Inv.wc {X:Cx} {pins:List (Addr×Obj)} {σ:St} {H:Hp} {s:Shared} {f:Bool} {a C:Addr} {dx:Option Addr} (I:Inv X pins σ H s) (Ha:H a=some (xo f a C dx)):nI f a C dx s.heap:=(I.hok a _ Ha).1
def oz (n:Nat) (a:Addr) (H:Hp) (h:Heap):Prop:=∃o vs T oT ts,h.get? a=some o∧o.data=.fields vs∧vs[1]? =some (.ref T)∧T≠a∧n≤T∧H T=none∧h.get? T=some oT∧oT.data=.fields ts∧ts[3]? =some .none
theorem oz.mono {n m:Nat} {a:Addr} {H:Hp} {h:Heap} (x:oz n a H h) (q:m≤n):oz m a H h:=by
 obtain⟨o,vs,T,oT,ts,e1,e2,e3,e4,e5,r⟩:=x
 exact⟨o,vs,T,oT,ts,e1,e2,e3,e4,Nat.le_trans q e5,r⟩
section
variable {X:Cx} {pins:List (Addr×Obj)} {σ:St} {H:Hp} {s:Shared} {h':Heap} {a C T:Addr} {dx:Option Addr} {f:Bool} {oe:Obj} {hd:Option Addr}
theorem Inv.beyond (I:Inv X pins σ H s) (hT:s.heap.objs.size≤T):X.s₀.heap.objs.size≤T∧T≠X.env.locals∧(∀x c,X.env.cells.lookup x=some c→c≠T)∧∀p∈X.pn++pins,p.1≠T:=by
 refine⟨Nat.le_trans I.sz hT,fun z=>?_,fun x c e z=>?_,fun p hp z=>?_⟩
 ·exact absurd (Nat.lt_of_lt_of_le (z▸I.lt) hT) (Nat.lt_irrefl _)
 ·obtain⟨v,o,ho,_⟩:=I.cell x c e
  exact absurd (Nat.lt_of_lt_of_le (z▸Heap.lt_size ho) hT) (Nat.lt_irrefl _)
 ·have:=(I.pin p hp).1
  exact absurd (Nat.lt_of_lt_of_le (z▸Heap.lt_size this) hT) (Nat.lt_irrefl _)
theorem Inv.passed (I:Inv X pins σ H s) (p:Passed (frs X.stack) a oe hd T s.heap h') (Ha:H a=some (xo f a C dx)) (ho:s.heap.get? a=some oe) (hn:∀b,hd=some b→H b=none)
  (hT:∀b,hd=some b→X.s₀.heap.objs.size≤b∧b≠X.env.locals∧(∀x c,X.env.cells.lookup x=some c→c≠b)∧∀q∈X.pn++pins,q.1≠b):
  Inv X pins σ (upd H a (xo false a C dx)) {s with heap:=h'}∧nI false a C dx h':=by
 obtain⟨o1,vs,e1,c1,d1,f1,z1,_⟩:=I.wc Ha
 obtain rfl:oe=o1:=Option.some.inj (ho.symm.trans e1)
 have new:nI false a C dx h':=⟨_,_,p.exc,by rw[Obj.cls_mapFields];exact c1,by rw[←d1];cases oe;rename_i dd sl;cases dd<;>rfl,Obj.data_mapFields f1 _,by simpa using z1,fun z=>by cases z⟩
 have nA:∀b,H b=none→b≠a:=fun b n z=>by rw[z,Ha] at n;cases n
 have nF:∀b u,H b=some u→b ∉ frs X.stack:=fun b u e z=>by rw[I.p8 b z] at e;cases e
 have nD:∀b u,H b=some u→hd≠some b:=fun b u e z=>by rw[hn b z] at e;cases e
 have kT:∀b u o,H b=some u→b≠a→s.heap.get? b=some o→h'.get? b=some o:=fun b u o e ne q=>p.keep b o ne (nF b u e) (nD b u e) q
 have ch:∀b,b ∉ hd.toList→hd≠some b:=fun b nb z=>nb (by rw[z];simp)
 refine⟨?_,new⟩
 have fr:∀b,b≠a→(upd H a (xo false a C dx)) b=H b:=fun b ne=>br ne
 refine I.step (g':=s.gens) (d':=s.drawn) (t':=s.toks) (ch:=hd.toList) (fun b hb=>?_) (fun b o nl nf nc e n=>?_) (fun b o nl hf nc e n=>?_) (fun b o nc e n=>?_) (fun b o nc e=>?_) (fun b xs e=>?_) (fun b o u e=>?_) (fun b ps e=>?_) (fun m hm=>?_) ?_ I.bare
 ·have e:hd=some b:=by
   cases hd with
   | none=>simp at hb
   | some y=>simp at hb;rw[hb]
  exact⟨.inr (hT b e).1,(hT b e).2.1,(hT b e).2.2.1,(hT b e).2.2.2⟩
 ·exact p.keep b o (nA b n) (fun z=>(List.mem_cons.mp (I.mE b z)).elim nl nf) (ch b nc) e
 ·by_cases z:b∈frs X.stack
  ·exact p.slot b o z (nA b n) (ch b nc) e
  ·exact⟨o.slots,p.keep b o (nA b n) z (ch b nc) e⟩
 ·rw[fr b (nA b n)];exact n
 ·by_cases ne:b=a
  ·subst ne;exact⟨_,p.exc⟩
  ·by_cases z:b∈frs X.stack
   ·obtain⟨sl,q⟩:=p.slot b o z ne (ch b nc) e
    exact⟨_,q⟩
   ·exact⟨o,p.keep b o ne z (ch b nc) e⟩
 ·rw[fr b fun z=>by rw[z,Ha] at e;cases e];exact e
 ·rw[fr b fun z=>by rw[z,Ha] at e;cases e];exact e
 ·have ne:b≠a:=fun z=>by rw[z,Ha] at e;cases e
  exact⟨#[],by rw[fr b ne,e];simp⟩
 ·obtain⟨o,es,ep,q,r⟩:=hm
  have nl:=nA _ I.free
  have nd:hd≠some X.env.locals:=fun z=>(hT _ z).2.1 rfl
  by_cases z:X.env.locals∈frs X.stack
  ·obtain⟨sl,q'⟩:=p.slot _ o z nl nd q
   exact⟨_,es,ep,q',r⟩
  ·exact⟨o,es,ep,p.keep _ o nl z nd q,r⟩
 ·intro b u e
  by_cases ne:b=a
  ·subst ne
   rw[ag] at e
   cases e
   exact vb new
  ·rw[fr b ne] at e
   refine(I.hok b u e).stay (fun c v hc q=>?_) (fun c q=>?_) fun c xs q=>?_
   ·rcases hc with z | z
    ·subst z;exact kT _ u v e ne q
    ·exact kT c _ v z (fun y=>by rw[y,Ha] at z;cases z) q
   ·rw[fr c fun y=>by rw[y,Ha] at q;cases q];exact q
   ·rw[fr c fun y=>by rw[y,Ha] at q;cases q];exact q
theorem Passed.fly (I:Inv X pins σ H s) (p:Passed (frs X.stack) a oe hd T s.heap h') (Ha:H a=some (xo f a C dx)) (ho:s.heap.get? a=some oe):oz s.heap.objs.size a (upd H a (xo false a C dx)) h':=by
 obtain⟨o1,vs,e1,c1,d1,f1,z1,_⟩:=I.wc Ha
 obtain rfl:oe=o1:=Option.some.inj (ho.symm.trans e1)
 have ne:T≠a:=fun z=>absurd (Nat.lt_of_lt_of_le (z▸Heap.lt_size ho) p.above) (Nat.lt_irrefl _)
 obtain⟨oT,ts,t1,t2,t3⟩:=p.tb
 exact⟨_,_,T,oT,ts,p.exc,Obj.data_mapFields f1 _,by simp[z1],ne,p.above,by rw[br ne];exact I.hok.fresh p.above,t1,t2,t3⟩
def Head (X:Cx):Prop:=X.stack=X.env::X.outer∧X.env.frame=some X.env.locals
theorem Co {M:Model} {A:Around} {E:Value→Shared→Prop} {Q:Unit→Shared→Prop} (I:Inv X pins σ H s) (hA:A.frames=X.A.frames) (hh:Head X) (Ha:H a=some (xo f a C dx))
  (hf:f=true∨∃n,oz n a H s.heap∧∀T,n≤T→X.s₀.heap.objs.size≤T∧T≠X.env.locals∧(∀x c,X.env.cells.lookup x=some c→c≠T)∧∀q∈X.pn++pins,q.1≠T)
  (k:∀h',Inv X pins σ (upd H a (xo false a C dx)) {s with heap:=h'}→oz s.heap.objs.size a (upd H a (xo false a C dx)) h'→Q () {s with heap:=h'}):
  wpAny M A (noteFrame (.ref a) X.env) (fun _ s'=>wpAny M A (setFlight (.ref a) none) Q E s') E s:=by
 obtain⟨o1,vs,e1,c1,d1,f1,z1,LO⟩:=I.wc Ha
 have frm:A.frames=some (X.env::X.outer):=by rw[hA,I.ok.frames,hh.1]
 have Ft:s.heap.FunFrames X.base (X.env::X.outer):=by rw[←hh.1];exact I.stack
 rcases hf with hf | ⟨n,⟨o,vs',T₀,oT,ts,q1,q2,q3,q4,q5,q6,q7,q8,q9⟩,hT⟩
 ·refine AF frm Ft hh.2 e1 f1 (LO hf) fun h' T p=>?_
  rw[←hh.1] at p
  exact k h' (I.passed p Ha e1 (fun _ z=>by cases z) fun _ z=>by cases z).1 (p.fly I Ha e1)
 ·rw[e1] at q1
  cases q1
  rw[f1] at q2
  cases q2
  refine Cn frm Ft hh.2 e1 f1 q3 q4 q7 q8 q9 fun h' T p=>?_
  rw[←hh.1] at p
  exact k h' (I.passed p Ha e1 (fun b z=>by cases z;exact q6) fun b z=>by cases z;exact hT _ q5).1 (p.fly I Ha e1)
end
def bS (P:Program) (w:World):oy:=fun outer H s E e s'=>∃a C dx H',e=.ref a∧s'.os=s.os∧AllBare s'.gens∧Un (frs outer) [] H H' s.heap s'.heap∧dZ P w H' s'.heap∧
 H' a=some (xo false a C dx)∧oz s.heap.objs.size a H' s'.heap∧E (.ref a) dx H'
section
variable {P:Program} {w:World} {K:PySem.W.Frag} {mg:Str→Option Value} {base:Heap} {N:List Str} {qual:Str} {scope:Scope} {fa:Addr} {cd:Value} {A:Around} {outer:List Env} {s₀:Shared} {H₀:Hp} {E:XK}
theorem wg {pins:List (Addr×Obj)} {σ:St} {H:Hp} {s:Shared} {f:Bool} {a C:Addr} {dx:Option Addr} (I:Inv (hG (bS P w) P w K mg base N qual scope fa cd A outer s₀ H₀ E) pins σ H s) (Ha:H a=some (xo f a C dx))
  (hf:f=true∨∃n,oz n a H s.heap∧∀T,n≤T→s₀.heap.objs.size≤T∧T≠(hG (bS P w) P w K mg base N qual scope fa cd A outer s₀ H₀ E).env.locals∧
   (∀x c,(hG (bS P w) P w K mg base N qual scope fa cd A outer s₀ H₀ E).env.cells.lookup x=some c→c≠T)∧∀q∈(hG (bS P w) P w K mg base N qual scope fa cd A outer s₀ H₀ E).pn++pins,q.1≠T)
  (hE:E (.ref a) dx (upd H a (xo false a C dx))):(hG (bS P w) P w K mg base N qual scope fa cd A outer s₀ H₀ E).xe (.ref a) s:=by
 show wpAny _ _ (leaving _ _) _ _ s
 unfold leaving
 refine wpAny_bind (Co I rfl ⟨rfl,rfl⟩ Ha hf fun h' I' fl=>?_)
 exact⟨a,C,dx,_,rfl,I'.os,I'.bare,I'.base,I'.hok,ag,fl.mono I.sz,hE⟩
def Raises (X:Cx) (E:XK):Prop:=∀(pins:List (Addr×Obj)) (σ:St) (H:Hp) (s:Shared) (a C:Addr) (dx:Option Addr),Inv X pins σ H s→H a=some (xo true a C dx)→E (.ref a) dx (upd H a (xo false a C dx))→X.xe (.ref a) s
theorem jP:Raises (hG (bS P w) P w K mg base N qual scope fa cd A outer s₀ H₀ E) E:=fun pins σ H s a C dx I Ha hE=>wg I Ha (.inl rfl) hE
theorem bS.after {X:Cx} {pins:List (Addr×Obj)} {σ:St} {H:Hp} {s s':Shared} {e:Value} {E':XK} (I:Inv X pins σ H s) (c:bS X.prog X.w X.stack H s E' e s'):
  ∃a C dx H',e=.ref a∧Inv X pins σ H' s'∧H' a=some (xo false a C dx)∧oz s.heap.objs.size a H' s'.heap∧E' (.ref a) dx H':=by
 obtain⟨a,C,dx,H',e,os,bare,un,hok,Ha,fl,hE⟩:=c
 exact⟨a,C,dx,H',e,I.call' (ch:=[]) os un hok bare (fun b z=>absurd z (by simp)),Ha,fl,hE⟩
theorem Cp (hE:∀a C dx H,H a=some (xo false a C dx)→E (.ref a) dx H→E (.ref a) dx (upd H a (xo false a C dx))):Passes (bS P w) (hG (bS P w) P w K mg base N qual scope fa cd A outer s₀ H₀ E) E:=by
 intro pins σ H s e s' I c
 obtain⟨a,C,dx,H',rfl,I',Ha,fl,hE'⟩:=bS.after I c
 exact wg I' Ha (.inr ⟨_,fl,fun T hT=>by
  have:=I.beyond hT
  exact this⟩) (hE a C dx H' Ha hE')
end
end L2
namespace L2
open PySem PySem.Spec PyProof.Rows PySem.W PySem.Builtin PySem.Builtin.ObjectAttr
abbrev j3:List Value:=[.type "ValueError",.type "Exception",.type "BaseException",.type "object"]
structure XC (K:PySem.W.Frag) (C:Addr) (bm:List Value):Prop where
 obj:∃nm q N bs sn sub ab col dd k0 k1 k2 k3 k5,K.lookup C=some (excClassObj nm q C N bs bm true sn sub ab col dd k0 k1 k2 k3 k5 "ValueError.__new__")
 tl:tailIn K j3 bm=true
 rf:∀self:Value,refuseLoop self "__setattr__" bm=pure ()
 ga:findIn K (.ref C) "__getattribute__"=some (some (.builtin "BaseException.__getattribute__"))
 gh:findIn K (.ref C) "__getattr__"=some none
 sa:findIn K (.ref C) "__setattr__"=some (some (.builtin "object.__setattr__"))
 cl:findIn K (.ref C) "__class__"=some (some (.builtin "object.__class__"))
 gt:specialIn K (.builtin "object.__class__") "__get__"=some (some (.builtin "getset_descriptor.__get__"))
 tk:takesIn K (.builtin "object.__class__")=some true
namespace XC
variable {K:PySem.W.Frag} {C:Addr} {bm:List Value}
theorem tail (c:XC K C bm) {h:Heap} (X:K.In h):OwnTail h j3 bm:=tail_of_in X c.tl
end XC
end L2
namespace L2
open PySem PySem.Spec PyProof.Rows PySem.W
section
variable {prog:Program} {w:World} {A:Around} {E:Value→Shared→Prop} {K:PySem.W.Frag} {x C D fI:Addr} {bm Vu:List Value} {ox:Obj} {hp:Heap} {g:Array GenState} {d:Drawn} {t:Nat} {os:OsState}
theorem K0 {vs rest:List Value} {a0:Value} {Q:Value→Shared→Prop} {arr:Array Value} (X:K.In hp) (c:XC K C bm) (hx:hp.get? x=some ox) (hc:ox.cls=.ref C) (hd:ox.data=.fields arr) (h0:arr[0]? =some a0) (hr:rest.length≤sizeLine)
  (k:∀h',(∀b o,b≠x→hp.get? b=some o→h'.get? b=some o)→h'.get? x=some (ox.mapFields (·.setIfInBounds 0 (.ref hp.objs.size)))→Q .none ⟨h',g,d,t,os⟩):
  wpAny (model prog w) A (call (.builtin "ValueError.__init__") (.ref x::rest)) Q E ⟨hp,g,d,t,os⟩:=by
 have G:=PySem.F.excBase_ValueError
 obtain⟨nm,q,N,bs,sn,sub,ab,col,dd,k0,k1,k2,k3,k5,e⟩:=c.obj
 refine wpAny_call (codeAny_call_builtin G.init.plain G.initEntry (wpAny_check_init_subT G (c.tail X) (X _ _ e) hx hc ?_))
 have hx1:=Heap.get?_push_of_some (h:=hp) {cls:=.type "tuple",data:=.seq rest.toArray} hx
 have sz:0<arr.size:=(Array.getElem?_eq_some_iff.mp h0).1
 unfold Builtin.«BaseException.__init__» Builtin.BaseException.bexcPut
 repeat (any_goals (first | assumption | with_reducible refine wpAny_field hx1 hd h0 ?_ | with_reducible refine wpAny_setField hx1 hd sz ?_ | wp_step))
 have fin:Q .none ⟨(hp.push {cls:=.type "tuple",data:=.seq rest.toArray}).update x (Obj.mapFields (·.setIfInBounds 0 (.ref hp.objs.size))),g,d,t,os⟩:=by
  refine k _ (fun b o nb q=>?_) (Heap.get?_update_self _ hx1 (Obj.isFreed_of_fields (Obj.data_mapFields hd _)))
  rw[Heap.get?_update_other _ _ (Ne.symm nb)]
  exact Heap.get?_push_of_some _ q
 cases a0<;>(dsimp only;repeat (any_goals (first | assumption | wp_step)))
theorem D4 {rest:List Value} {Q:Fin→Shared→Prop} (X:K.In hp) (c:XC K C bm) (hi:findIn K (.ref C) "__init__"=some (some (.ref fI))) (hf:isFn K (.ref fI)=true) (hr:rest.length≤sizeLine)
  (k:wpAny (model prog w) A (call (.ref fI) (.ref (hp.objs.size+1)::rest)) (fun r s'=>r=.none∧Q (.done (.ret (.ref (hp.objs.size+1)))) s') E
   ⟨(hp.push {cls:=.type "tuple",data:=.seq rest.toArray}).push {cls:=.ref C,data:=.fields #[.ref hp.objs.size,.none,.none,.none,.bool false,.none]},g,d,t,os⟩):
  wpAny (model prog w) A (Builtin.«type.__call__» ⟨.ref C::rest,[]⟩) Q E ⟨hp,g,d,t,os⟩:=by
 have G:=PySem.F.excBase_ValueError
 obtain⟨nm,q,N,bs,sn,sub,ab,col,dd,k0,k1,k2,k3,k5,e⟩:=c.obj
 have oC:=X _ _ e
 have kp:∀b o,hp.get? b=some o→((hp.push {cls:=.type "tuple",data:=.seq rest.toArray}).push {cls:=.ref C,data:=.fields #[.ref hp.objs.size,.none,.none,.none,.bool false,.none]}).get? b=some o:=
  fun b o q=>Heap.get?_push_of_some _ (Heap.get?_push_of_some _ q)
 have X1:=X.keeps kp
 have o1:=kp _ _ oC
 have oe:((hp.push {cls:=.type "tuple",data:=.seq rest.toArray}).push {cls:=.ref C,data:=.fields #[.ref hp.objs.size,.none,.none,.none,.bool false,.none]}).get? (hp.objs.size+1)=
  some {cls:=.ref C,data:=.fields #[.ref hp.objs.size,.none,.none,.none,.bool false,.none]}:=by heap_get
 have self:(Value.ref C::bm).contains (.ref C)=true:=by simp
 repeat (first | with_reducible refine wpAny_loadPart_at oC ?_ | with_reducible refine wpAny_madeBy_exc oC ?_ | wp_step)
 refine codeAny_call_builtin_code (Code.quiet_builtin _ G.quiet) (wpAny_check_new_subT G (c.tail X) oC (codeAny_exc_new_subT G (c.tail X) oC ?_ hr))
 show wpAny _ _ _ _ _ _
 unfold isInstance
 repeat (first | with_reducible refine wpAny_loadPart_at oe ?_ | (with_reducible refine wpAny_isSubtype_exc o1 ?_;rw[self]) | wp_step)
 show wpAny _ _ (typeLookup (.ref C) _) _ _ _
 refine(looks_findIn X1 hi).at (wpAny_holding (wpAny_bind ?_))
 unfold bindSpecial
 refine wpAny_bind ((looks_typeIn X1 (beq_iff_eq.mp hf)).at ?_)
 rw[if_pos (by decide)]
 refine wpAny_pure (wpAny_bind (wpAny_mono k (fun r s' z=>?_) fun _ _ z=>z))
 obtain⟨rfl,z⟩:=z
 wp_walk
 exact z
theorem K1 {rest:List Value} {Q:Value→Shared→Prop} (X:K.In hp) (c:XC K C bm) (hi:findIn K (.ref C) "__init__"=some (some (.ref fI))) (hf:isFn K (.ref fI)=true) (hr:rest.length≤sizeLine)
  (k:wpAny (model prog w) (A.under (.builtin "type.__call__" ⟨.ref C::rest,[]⟩)) (call (.ref fI) (.ref (hp.objs.size+1)::rest)) (fun r s'=>r=.none∧Q (.ref (hp.objs.size+1)) s') E
   ⟨(hp.push {cls:=.type "tuple",data:=.seq rest.toArray}).push {cls:=.ref C,data:=.fields #[.ref hp.objs.size,.none,.none,.none,.bool false,.none]},g,d,t,os⟩):
  wpAny (model prog w) A (call (.ref C) rest) Q E ⟨hp,g,d,t,os⟩:=by
 obtain⟨nm,q,N,bs,sn,sub,ab,col,dd,k0,k1,k2,k3,k5,e⟩:=c.obj
 have oC:=X _ _ e
 have u1:=tc_lookup
 have u2:=tc_bind (.ref C)
 have u3:(⟨hp,g,d,t,os⟩:Shared).TypeIs (.ref C) "type":=⟨_,oC,rfl⟩
 refine wpAny_call (codeAny_of_tree ?_)
 show wpAny _ _ (callAny (.ref C) ⟨rest,[]⟩) _ _ _
 repeat (any_goals (first | assumption | with_reducible refine wpAny_loadPart_at oC ?_ | wp_step))
 refine⟨rfl,?_⟩
 exact codeAny_call_builtin_at (Code.quiet_builtin _ (by decide+kernel)) entry_typeCall (wpAny_check_type_call_sub oC (D4 X c hi hf hr k))
theorem Ip {env:Env} {s:Shared} {y:Sem Value} {Q:Flow→Shared→Prop} (hh:A.handled=none)
  (k:wpAny (model prog w) A y (fun v s₁=>∃e oe vs,v=.ref e∧K.In s₁.heap∧XC K C bm∧s₁.heap.get? e=some oe∧oe.cls=.ref C∧oe.data=.fields vs∧vs[1]? =some .none∧E (.ref e) s₁) E s):
  wpAny (model prog w) A (raiseStmt env (some y) none) Q E s:=by
 unfold raiseStmt
 refine wpAny_bind (wpAny_mono k (fun v s₁ z=>?_) fun _ _ z=>z)
 obtain⟨e,oe,vs,rfl,X,c,he,hc,hd,h1,hE⟩:=z
 obtain⟨hp,g,d,tk,os⟩:=s₁
 obtain⟨nm,q,N,bs,sn,sub,ab,col,dd,k0,k1,k2,k3,k5,lk⟩:=c.obj
 have oC:=X _ _ lk
 obtain⟨oc,odi,oda,osl⟩:=oe
 dsimp only at hc hd
 subst hc hd
 have cB:(Value.ref C::bm).contains (.type "BaseException")=true:=by rw[List.contains_cons,(c.tail X).hasType (b:=true) (by decide+kernel),Bool.or_true]
 repeat (first | with_reducible refine wpAny_loadPart_at he ?_ | with_reducible refine wpAny_loadPart_at oC ?_ | (with_reducible refine wpAny_isSubtype_exc oC ?_;rw[cB]) | with_reducible refine wpAny_field he rfl h1 ?_ | wp_step)
 exact wpAny_raiseNew_none hh hE
end
end L2
namespace L2
open PySem PySem.Spec PyProof.Rows
def nsO (o:Obj):Bool:=match o with
 | ⟨_,_,.dict es _,_⟩=>es.all fun e=>match e.key with | .str _ _=>true | _=>false
 | _=>false
theorem GW {K:PySem.W.Frag} {N:Addr} {o:Obj} (l:K.lookup N=some o) (h:nsO o=true):PySem.W.nsOkIn K N=true:=by
 unfold PySem.W.nsOkIn
 rw[l]
 obtain⟨oc,od,da,sl⟩:=o
 cases da<;>first | exact h | cases h
theorem Fu {K:PySem.W.Frag}:PySem.W.tailIn K j3 j3=true:=by
 unfold PySem.W.tailIn
 simp
theorem K2 {K:PySem.W.Frag} {D N:Addr} {oc:Value} {od:Option Addr} {cd:ClassData} {sl:Array (Option Value)} (l:K.lookup D=some ⟨oc,od,.cls cd,sl⟩) (e:cd.ns=N) (ok:PySem.W.nsOkIn K N=true) (ni:PySem.W.nsIn K N "__init__"=some none):
  PySem.W.tailIn K j3 (.ref D::j3)=true:=by
 unfold PySem.W.tailIn
 dsimp only
 rw[l]
 dsimp only
 rw[e,ok,ni,Fu]
 simp
theorem zt (self:Value):refuseLoop self "__setattr__" j3=pure ():=PySem.F.store_ValueError.passes self
theorem GX {D:Addr} (self:Value):refuseLoop self "__setattr__" (.ref D::j3)=pure ():=by rw[refuseLoop_ref];exact zt self
structure XM (K:PySem.W.Frag) (C fI:Addr):Prop where
 init:PySem.W.findIn K (.ref C) "__init__"=some (some (.ref fI))
 fn:PySem.W.isFn K (.ref fI)=true
 kp:PySem.W.keepIn K (.ref C)=true
structure XI (K:PySem.W.Frag) (D:Addr):Prop where
 ga:PySem.W.specialIn K (.ref D) "__getattribute__"=some (some (.builtin "type.__getattribute__"))
 rd:PySem.W.readsIn K D (.type "type")=true
 fi:PySem.W.findCls K (.ref D) (.type "type") "__init__"=some (.val (.builtin "ValueError.__init__"))
def RT (K:PySem.W.Frag) (t:TA):TE:=fun σ H Q=>t σ H fun vs H1=>∃(a C:Addr) (od:Option Addr) (bm:List Value) (rest:List V),vs=.ref a::rest∧rest.length≤1000∧H1 a=some (xo true a C od)∧XC K C bm∧Q .non H1
section
variable {X:Cx} {D:Addr} {x:Str} {p pos apos:Pos} {e:Expr} {es:List Expr} {t:TA}
theorem Inv.Iq {pins:List (Addr×Obj)} {σ:St} {H:Hp} {s:Shared} {h':Heap} {t':Nat} {a C C':Addr} {f f':Bool} {od od':Option Addr} (I:Inv X pins σ H s) (Ha:H a=some (xo f a C od)) (k:∀b o,b≠a→s.heap.get? b=some o→h'.get? b=some o) (new:nI f' a C' od' h'):
  Inv X pins σ (upd H a (xo f' a C' od')) {s with heap:=h',toks:=t'}:=
 I.write (x:=a) (e:=a) (o:=xo f' a C' od') (h':=h') (t':=t') (by rw[Ha];trivial) (.inl rfl) k (let ⟨o,_,e,_⟩:=new;⟨o,e⟩) (vb new)
theorem qJ {H:Hp} {a:Addr} {o:HO} (Ha:H a=some o):upd H a o=H:=by
 funext b
 by_cases z:b=a
 ·subst z;rw[ag,Ha]
 ·rw[br z]
theorem K3 {pl:Sem Bool} (cD:XI X.K D) (hg:Gl X x) (hm:X.mg x=some (.ref D)) (ha:PA X (e::es) t) (hdb:(x == ("__debug__":Str))=false:=by decide)
  (hst:starEach (e::es) X.env=(false,eval e X.env)::starEach es X.env:=by rfl) (hpl:(backTo pos (starEach es X.env)).any (·.1)=false:=by rfl)
  (ht:eval (.Call (.Attribute (.Name x p) "__init__" apos) (e::es) [] pos) X.env=(do
   let ov ←eval (.Name x p) X.env
   standAt apos.atName
   let (f,first) ←holding [ov] (getMethod ov "__init__" pl)
   callWith pos f first (backTo pos (starEach (e::es) X.env)) (backToKw pos (keywordEach [] X.env))):=by rfl):
  PE X (.Call (.Attribute (.Name x p) "__init__" apos) (e::es) [] pos) (RT X.K t):=by
 intro pins s σ H Q I h
 refine PySem.W.methodCall_KW (pl:=pl) (mF I hg hm ?_ hdb) ht
 refine PySem.W.method_cls I.fJ cD.ga (PySem.W.cls_value I.fJ cD.rd cD.fi rfl ?_)
 refine callWith_builtin1 (aV (ha pos pins _ σ H _ (I.tok _) h) fun us s1 ⟨vs,H1,I1,r1,a,C,od,bm,rest,ev,hl,Ha,c,q⟩=>?_) hst hpl
 subst ev
 obtain⟨u,us',eu,ru,rt⟩:∃u us',us=u::us'∧RelV (.ref a) u∧Vals rest us':=by
  cases r1 with
  | cons ru rt=>exact⟨_,_,rfl,ru,rt⟩
 subst eu
 ·cases(show u=Value.ref a from ru)
  obtain⟨o,vs',e1,e2,e3,e4,e5,e6⟩:=I1.wc Ha
  have e0:∃a0,vs'[0]? =some a0:=⟨vs'[0]'(by omega),by simp⟩
  obtain⟨a0,e0⟩:=e0
  have hl':us'.length≤1000:=by rw[←rt.length];exact hl
  obtain⟨hp,g,d,tk,os⟩:=s1
  refine K0 (vs:=[]) I1.fJ c e1 e2 e4 e0 (by rw[sizeLine_eq];omega) fun h' k ex=>?_
  have new:nI true a C od h':=⟨_,_,ex,by rw[Obj.cls_mapFields];exact e2,by rw[←e3];cases o;rename_i dd sl;cases dd<;>rfl,Obj.data_mapFields e4 _,by simpa using e5,fun _=>by
   rw[Array.getElem?_setIfInBounds_ne (by decide)];exact e6 rfl⟩
  have I2:=I1.Iq (t':=tk) Ha k new
  rw[qJ Ha] at I2
  exact⟨.non,H1,I2,rfl,q⟩
end
def LP (C:Addr) (sp:Sp) (t:TA):TE:=fun σ H Q=>t σ H fun vs H1=>∀x,H1 x=none→sp (.ref x::vs) (upd H1 x (xo true x C none)) (fun v H2=>v=.non∧Q (.ref x) H2) E0
section
variable {X:Cx} {k:Nat} {C fI:Addr} {bm:List Value} {fd:FuncData} {ps:List Str} {sp:Sp} {x:Str} {p pos:Pos} {e:Expr} {es:List Expr} {t:TA}
theorem Ir {pins:List (Addr×Obj)} {σ:St} {H:Hp} {s:Shared} {Q:VK} {us:List Value} {vs:List V} {E:Value→Shared→Prop} (c:XC X.K C bm) (M:XM X.K C fI) (F:aR X.prog X.w X.K X.mg X.base cX k fI fd ps sp) (hr:aP (k+1) X.A) (hb:Binds X.K fd ps [])
  (I:Inv X pins σ H s) (r:Vals vs us) (hl:us.length≤1000) (h:∀x,H x=none→sp (.ref x::vs) (upd H x (xo true x C none)) (fun v H2=>v=.non∧Q (.ref x) H2) E0):
  wpAny (model X.prog X.w) X.A (call (.ref C) us) (EP X pins σ Q) E s:=by
 obtain⟨hp,g,d,tk,os⟩:=s
 refine K1 I.fJ c M.init M.fn (by rw[sizeLine_eq];omega) ?_
 have hq:=h (hp.objs.size+1) (I.hok.fresh (Nat.le_succ _))
 have kp:∀b o,hp.get? b=some o→((hp.push {cls:=.type "tuple",data:=.seq us.toArray}).push {cls:=.ref C,data:=.fields #[.ref hp.objs.size,.none,.none,.none,.bool false,.none]}).get? b=some o:=
  fun b o q=>Heap.get?_push_of_some _ (Heap.get?_push_of_some _ q)
 have oe:((hp.push {cls:=.type "tuple",data:=.seq us.toArray}).push {cls:=.ref C,data:=.fields #[.ref hp.objs.size,.none,.none,.none,.bool false,.none]}).get? (hp.objs.size+1)=
  some {cls:=.ref C,data:=.fields #[.ref hp.objs.size,.none,.none,.none,.bool false,.none]}:=by heap_get
 have I2:=I.laid (o:=xo true (hp.objs.size+1) C none) (t':=tk) kp (Nat.le_succ _) (vb ⟨_,_,oe,rfl,rfl,rfl,rfl,fun _=>rfl⟩)
 have r2:Vals (V.ref (hp.objs.size+1)::vs) (Value.ref (hp.objs.size+1)::us):=.cons rfl r
 have len:(Value.ref (hp.objs.size+1)::us++([]:List Value)).length=ps.length:=by
  have e:=r2.length
  rw[F.len _ _ _ _ hq] at e
  rw[List.append_nil]
  exact e.symm
 have b2:=hb _ (Value.ref (hp.objs.size+1)::us) I2.fJ len
 rw[List.append_nil] at b2
 refine wpAny_call (codeAny_mono (F.run _ X.stack _ _ ⟨Value.ref (hp.objs.size+1)::us,[]⟩ _ _ _ E0 (hr.make C us []) (I2.env0.make C us []) b2 r2 hq) fun r s' hq'=>?_)
 cases r with
 | error e=>exact(show False from hq').elim
 | ok fl=>
  cases fl with
  | ret u=>
   obtain⟨v,H',I3,rv,ev,q3⟩:=I2.after hq'
   subst ev
   exact⟨rv,⟨V.ref (hp.objs.size+1),H',I3,rfl,q3⟩⟩
  | next=>exact False.elim hq'
  | brk=>exact False.elim hq'
  | cont=>exact False.elim hq'
theorem o5 (c:XC X.K C bm) (M:XM X.K C fI) (F:aR X.prog X.w X.K X.mg X.base cX k fI fd ps sp) (hr:aP (k+1) X.A) (hg:Gl X x) (hm:X.mg x=some (.ref C)) (hb:Binds X.K fd ps [])
  (hdb:(x == ("__debug__":Str))=false:=by decide):PE X (.Call (.Name x p) [] [] pos) (LP C sp iM):=by
 intro pins s σ H Q I h
 refine wpAny_Call_Name_kw (mF I hg hm ?_ hdb)
 exact PySem.W.callWith_K0 I.fJ M.kp (Ir (us:=[]) c M F hr hb I .nil (by simp) h)
def LQ (K:PySem.W.Frag) (C:Addr) (te:TE) (E:XK):TS:=fun _ σ H=>te σ H fun v H1=>∃a od,v=.ref a∧H1 a=some (xo true a C od)∧E (.ref a) od (upd H1 a (xo false a C od))
theorem rM {te:TE} {E:XK} (hh:X.A.handled=none) (c:XC X.K C bm) (R:Raises X E) (he:PE X e te):PS X (.Raise (some e) none pos) (LQ X.K C te E):=by
 intro pins s σ H D I h
 rw[arm_exec_Raise]
 have key:wpAny (model X.prog X.w) X.A (raiseStmt X.env (some (do let v ←eval e X.env;standAt pos;pure v)) none) (SP X pins D) X.xe s:=by
  refine Ip (K:=X.K) (C:=C) (bm:=bm) hh (wpAny_bind (aV (he pins s σ H _ I h) fun u s1 ⟨v,H1,I1,rv,a,od,ev,Ha,hE⟩=>wpAny_bind (wpAny_standAt (wpAny_pure ?_))))
  subst ev
  cases(show u=Value.ref a from rv)
  obtain⟨o,vs,e1,e2,e3,e4,e5,e6⟩:=I1.wc Ha
  exact⟨a,o,vs,rfl,I1.fJ,c,e1,e2,e4,e6 rfl,R pins σ H1 s1 a C od I1 Ha hE⟩
 first
  | exact wpAny_bind (wpAny_standAt key)
  | (simp only[evalOpt,Option.map];exact wpAny_bind (wpAny_standAt key))
  | (show wpAny _ _ (do standAt pos;raiseStmt X.env (some (do let v ←eval e X.env;standAt pos;pure v)) none) _ _ s;exact wpAny_bind (wpAny_standAt key))
end
theorem cO.lM {P:Program} {w:World} {K:PySem.W.Frag} {mg:Str→Option Value} {base:Heap} {x qual:Str} {st:Stmt} {f:Addr} {fd:FuncData} {N ps:List Str} {k:Nat} {sp:Sp} (F:cO K x qual st f fd) (S:aY N ps (au st)) (len:∀vs H Q E,sp vs H Q E→vs.length=ps.length)
  (hbody:∀(cdv:Value) (A:Around) (outer:List Env) (s:Shared) (H:Hp) (vs:List V) (Q:VK) (E:XK),aP k (A.deeper (envOfC qual (au st) s.heap.objs.size f cdv))→sp vs H Q E→
   ∃t,lJ (hG (bS P w) P w K mg base N qual (au st) f cdv A outer s H E) (aT st) t∧t {nx:=fun _ H'=>Q .non H',rt:=Q} (start N vs) H):aR P w K mg base (bS P w) (k+1) f fd ps sp:=by
 obtain⟨oc,od,kV,doc,pm,an,cdv,ct,osl,rfl,lk,hcd⟩:=F.ex
 exact Fc lk hcd S len fun A outer s H vs Q E hr hsp=>hbody cdv A outer s H vs Q E hr hsp
theorem Iu (x y:Str) (h:(!ltCps y.cps.toList x.cps.toList)=true):x.cps.toList≤y.cps.toList:=by
 rw[PyProof.Rows.ltCps_eq] at h
 exact List.not_lt.mp (by simpa using h)
theorem rN:∀(l:List Str) (p:Str),risingS p l=true→∀y∈l,p.cps.toList≤y.cps.toList
 | [],p,_,y,hy=>by cases hy
 | x::l,p,h,y,hy=>by
  have h':(!ltCps x.cps.toList p.cps.toList&&risingS x l)=true:=h
  rw[Bool.and_eq_true] at h'
  have h1:=Iu p x h'.1
  rcases List.mem_cons.mp hy with e | hy
  ·rw[e];exact h1
  ·exact List.le_trans h1 (rN l x h'.2 y hy)
theorem wj {x:Str} {l:List Str} (h:sortedS (x::l)=true):sortedS l=true:=by
 cases l with
 | nil=>rfl
 | cons y l=>
  have h':(!ltCps y.cps.toList x.cps.toList&&risingS y l)=true:=h
  rw[Bool.and_eq_true] at h'
  exact h'.2
theorem bD {x y:Str} (h:x.cps.toList=y.cps.toList):x=y:=by
 obtain⟨a⟩:=x
 obtain⟨b⟩:=y
 have:a=b:=Array.toList_inj.mp h
 rw[this]
theorem rO:∀{l:List Str},sortedS l=true→∀{i j:Nat} {x y:Str},i≤j→l[i]? =some x→l[j]? =some y→x.cps.toList≤y.cps.toList
 | [],_,i,j,x,y,_,e,_=>by simp at e
 | z::l,h,0,j,x,y,_,e1,e2=>by
  simp at e1
  subst e1
  cases j with
  | zero=>simp at e2;subst e2;exact List.le_refl _
  | succ j=>exact rN l z h y (List.mem_of_getElem? (by simpa using e2))
 | z::l,h,i+1,j,x,y,hij,e1,e2=>by
  obtain⟨j',rfl⟩:∃j',j=j'+1:=⟨j-1,by omega⟩
  exact rO (wj h) (by omega:i≤j') (by simpa using e1) (by simpa using e2)
def Its (x:Str):It:=⟨fun i _=>i<x.cps.size,fun i H y H'=>H'=H∧∃c,x.cps[i]? =some c∧y=.str ⟨#[c]⟩,fun i _=>x.cps.size≤i⟩
theorem D5 {P:Program} {w:World} {K:PySem.W.Frag} {tg:Expr} (it:Addr) (x:Str) (t:Tok):Turn P w K tg (Its x) [it] it (fun i h=>h.IsStrIter it "str_ascii_iterator" x t i) where
 mem:=by simp
 obj:=fun i h st b hb=>by
  have e:b=it:=by simpa using hb
  subst e
  obtain⟨o,e,c,d⟩:=st
  exact⟨o,e,fun v z=>by rw[d] at z;cases z⟩
 keep:=fun i h h' st k=>let ⟨o,ho,r⟩:=st;⟨o,k it (by simp) o ho,r⟩
 item:=by
  intro X hP hw hK hc i pins s σ H E I hf st hg
  subst hP hw hK
  obtain⟨f0,f1,f2,f3,f4,f5⟩:=hf it (by simp)
  have hg':i<x.cps.size:=hg
  refine wpAny_pyNext_ascii_item st (c:=x.cps[i]) (by simp[hg']) fun h' st' sb=>?_
  have I1:Inv X pins σ H {s with heap:=h',toks:=s.toks+1}:=I.turned (fun b o hb e=>(sb.2 b hb).trans e) f0 f1 f3 f4 f5
  obtain⟨o,e,c,d⟩:=id st'
  exact⟨_,rfl,u9 (s:={s with heap:=h',toks:=s.toks+1}) e c d (by decide) ⟨.str ⟨#[x.cps[i]]⟩,H,I1,⟨_,rfl⟩,⟨rfl,_,by simp[hg'],rfl⟩,st',fun b hb=>(hf b hb).1⟩⟩
 done:=by
  intro X hP hw hK hc i pins s σ H E I hf st hg
  subst hP hw hK
  obtain⟨f0,f1,f2,f3,f4,f5⟩:=hf it (by simp)
  have hg':x.cps.size≤i:=hg
  exact wpAny_pyNext_ascii_end (I.ok.hd hc) st (by simp[hg']) fun h' eb=>⟨rfl,I.turned (t':=s.toks) (fun b o hb e=>eb b o hb e) f0 f1 f3 f4 f5⟩
 self:=fun _ _ _ _ _ st h=>wpAny_pyIter_striter_ascii st h
def Nb (tl:TE):TI:=fun σ H R=>tl σ H fun x H1=>∃z:Str,x=.str z∧z.cps.all (· <128)=true∧R (Its z) H1
section
variable {X:Cx} {tg:Expr}
theorem Iv {l:Expr} {tl:TE} (hl:PE X l tl):PI X tg l (Nb tl):=by
 intro pins s σ H R I h
 refine aV (hl pins s σ H _ I h) fun v s1 ⟨x,H1,I1,r1,q1⟩=>?_
 obtain⟨z,rfl,ha,q⟩:=q1
 obtain⟨t,rfl⟩:=r1
 refine wpAny_pyIter_ascii ha ?_
 refine⟨s1.heap.objs.size,[s1.heap.objs.size],_,_,H1,rfl,I1.kept (t':=s1.toks) fun b o e=>Heap.get?_push_of_some _ e,D5 _ z t,⟨_,Heap.get?_push_size _ rfl,rfl,rfl⟩,fun b hb=>?_,q⟩
 have e:b=s1.heap.objs.size:=by simpa using hb
 subst e
 exact I1.mx (Nat.le_refl _) (I1.hok.fresh (Nat.le_refl _))
end
section
variable {X:Cx}
theorem GY:cW X (binaryOp .Mult) (fun x y H Q=>∃(z:Str) (n:Int),x=.str z∧y=.int n∧0≤n∧n≤1000∧z.length≤1000∧Q (.str (Txt.mul z n)) H):=by
 intro pins s σ H x y v u Q I rx ry h
 obtain⟨z,n,rfl,rfl,h0,h1,h2,q⟩:=h
 obtain⟨t,rfl⟩:=rx
 obtain⟨t',rfl⟩:=ry
 refine SB.mul ⟨?_,?_,?_⟩ fun t' k=>⟨.str _,H,I.tok k,⟨t',rfl⟩,q⟩
 ·have a:¬n< -(2 ^ 63:Int):=by omega
  have b:¬n ≥ 2 ^ 63:=by omega
  simp only[a,b,decide_false,Bool.or_self]
 ·intro a b c
  have e:(1000:Int)≤(2 ^ 63-1) / n:=by
   rw[Int.le_ediv_iff_mul_le (by omega)]
   omega
  omega
 ·intro a b
  have h3:z.length*n.toNat≤1000*1000:=Nat.mul_le_mul h2 (by omega)
  have h4:(1000*1000:Nat)≤sizeLine:=by decide
  exact decide_eq_false (by omega)
end
theorem rP {α β:Type} {F:α→β→Prop}:∀{l:List α} {m:List β} {i:Nat} {a:α},Paired F l m→l[i]? =some a→∃b,m[i]? =some b∧F a b
 | _,_,_,_,.nil,h=>by simp at h
 | _,_,0,_,.cons r _,h=>by simp at h;subst h;exact⟨_,rfl,r⟩
 | _,_,i+1,_,.cons _ t,h=>by
  simp only[List.getElem?_cons_succ] at h ⊢
  exact rP t h
theorem Iw {c:TT} {tb:TS} {D:Ends} {σ:St} {H:Hp} (W:Nat→St→Hp→Prop) (h0:∃m,W m σ H)
  (hs:∀m σ H,W m σ H→c σ H fun b H1=>if b=true then tb {D with nx:=fun σ' H'=>∃m',m'<m∧W m' σ' H',ct:=fun σ' H'=>∃m',m'<m∧W m' σ' H',bk:=D.nx} σ H1 else D.nx σ H1)
  (mono:∀σ H Q Q',(∀b H1,Q b H1→Q' b H1)→c σ H Q→c σ H Q'):vx c tb D σ H:=by
 refine⟨W,h0,fun m σ H w=>mono σ H _ _ (fun b H1 q=>?_) (hs m σ H w)⟩
 cases b with
 | true=>exact⟨_,fun σ' H' p=>p,q⟩
 | false=>exact q
theorem K4 {t u:TS} {D:Ends} {σ:St} {H:Hp} (h:∀R:St→Hp→Prop,R=u D→t {D with nx:=R} σ H):qF t u D σ H:=h _ rfl
theorem o6 {t u:TS} {D:Ends} {σ:St} {H:Hp} (Pv:St→Hp→Prop) (h1:∀σ H,Pv σ H→u D σ H) (h2:∀R:St→Hp→Prop,(∀σ H,Pv σ H→R σ H)→t {D with nx:=R} σ H):qF t u D σ H:=h2 _ h1
theorem qd {c:TT} {tb:TS} {D:Ends} {σ:St} {H:Hp} (W:Nat→St→Hp→Prop) (h0:∃m,W m σ H)
  (hs:∀m σ H (N:St→Hp→Prop),(∀σ' H' m',m'<m→W m' σ' H'→N σ' H')→W m σ H→c σ H fun b H1=>if b=true then tb {D with nx:=N,ct:=N,bk:=D.nx} σ H1 else D.nx σ H1)
  (mono:∀σ H Q Q',(∀b H1,Q b H1→Q' b H1)→c σ H Q→c σ H Q'):vx c tb D σ H:=Iw W h0 (fun m σ H w=>hs m σ H _ (fun _ _ m' h w'=>⟨m',h,w'⟩) w) mono
section
variable {X:Cx}
def Fv (K:PySem.W.Frag):R2:=fun x y H Q=>∃(a b:Addr) (xs ys:List V),x=.ref a∧y=.ref b∧H a=some (.tup xs)∧H b=some (.tup ys)∧xs.length+ys.length≤sizeLine∧∀u H',Same H H'→H' u=some (.tup (xs++ys))→Q (.ref u) H'
theorem GZ (K:PySem.W.Frag) (hK:X.K=K:=by rfl):cW X (binaryOp .Add) (Fv K):=by
 subst hK
 intro pins s σ H x y v u Q I rx ry h
 obtain⟨a,b,xs,ys,rfl,rfl,ha,hb,hz,q⟩:=h
 by_cases hx:xs=[]
 ·subst hx
  exact zk pins s σ H _ _ v u Q I rx ry ⟨a,b,ys,rfl,rfl,.of ha,.of hb,q b H (.refl _) hb⟩
 ·exact y3 pins s σ H _ _ v u Q I rx ry ⟨a,b,xs,ys,rfl,rfl,.of ha,.of hb,hx,hz,fun z=>q a H (.refl _) (by rw[z,List.append_nil];exact ha),fun _ p hp=>q p _ (Same.new hp) ag⟩
end
end L2
set_option maxHeartbeats 8000000
set_option maxHeartbeats 8000000
set_option maxHeartbeats 8000000
set_option maxHeartbeats 8000000
set_option maxHeartbeats 8000000
set_option maxHeartbeats 8000000
set_option maxHeartbeats 8000000
namespace L2
open PySem PySem.Spec PyProof.Rows
theorem nJ {α β:Type} {R:α→β→Prop}:∀{l:List α} {m:List β},Paired R l m→l.length=m.length
 | _,_,.nil=>rfl
 | _,_,.cons _ t=>by rw[List.length_cons,List.length_cons,nJ t]
structure tf (fs:List Addr) (e:Addr) (oe:Obj) (hd:Option Addr) (T:Addr) (h h':Heap):Prop where
 above:h.objs.size≤T
 keep:∀b o,b≠e→b ∉ fs→hd≠some b→h.get? b=some o→h'.get? b=some o
 slot:∀b o,b∈fs→b≠e→hd≠some b→h.get? b=some o→∃sl,h'.get? b=some {o with slots:=sl}
 exc:h'.get? e=some (oe.mapFields (·.setIfInBounds 1 (.ref T)))
 tb:∃oT ts x3,h'.get? T=some oT∧oT.data=.fields ts∧ts[3]? =some x3
section
variable {M:Model} {A:Around} {E:Value→Shared→Prop} {s:Shared} {base:Heap} {env env':Env} {outer:List Env} {L e:Addr} {oe:Obj} {vs:Array Value} {Q:Unit→Shared→Prop}
theorem wk (h:env'.frame=env.frame):PySem.frameOf env'=PySem.frameOf env:=by unfold PySem.frameOf;rw[h]
theorem AG {head:Value} {had:Bool} (fr:A.frames=some (env::outer)) (ff:s.heap.FunFrames base (env::outer)) (fL:env.frame=some L) (fe:env'.frame=env.frame)
  (xe:s.heap.get? e=some oe) (xd:oe.data=.fields vs) (xs:1<vs.size) (k:∀h' T,tf (frs (env::outer)) e oe none T s.heap h'→Q () {s with heap:=h'}):
  wpAny M A (do
   let a ←frameOf env'
   let pl ←entryPlaceOf L had
   let b ←EntryCells.newEntry head a .none (rawInt L) .none pl
   setField (.ref e) 1 b) Q E s:=by
 have Io:e ∉ frs (env::outer):=fun z=>by
  obtain⟨_,o,ho,nf⟩:=ff.mem z
  rw[xe] at ho
  cases ho
  exact nf vs xd
 rw[wk fe]
 refine wpAny_bind (wpAny_frameOf_fun fr ff fL fun g so=>?_)
 refine wpAny_bind (wpAny_entryPlaceOf fun pl ip=>?_)
 unfold EntryCells.newEntry newFields
 refine wpAny_bind (wpAny_newObj_type ?_ (ip.sizeOk5 _ _ _ _ _))
 have ge:g.get? e=some oe:=(so.2.1 e Io).trans xe
 generalize hN:([head,Value.ref L,.none,rawInt L,.none]++(if pl.isEmpty then List.replicate 6 Value.none else pl)).toArray=ar
 have a3:ar[3]? =some (rawInt L):=by rw[←hN];simp
 have g2:=Heap.get?_push_of_some (h:=g) {cls:=.type "traceback",dict:=none,data:=.fields ar} ge
 refine wpAny_setField g2 xd xs ?_
 have uj:g.objs.size≠e:=Nat.ne_of_gt (Heap.lt_size ge)
 have d3:=Obj.data_mapFields xd (·.setIfInBounds 1 (Value.ref g.objs.size))
 have g3:=Heap.get?_update_self (Obj.mapFields (·.setIfInBounds 1 (Value.ref g.objs.size))) g2 (Obj.isFreed_of_fields d3)
 have t3:=(Heap.get?_update_other (g.push {cls:=.type "traceback",dict:=none,data:=.fields ar}) (Obj.mapFields (·.setIfInBounds 1 (Value.ref g.objs.size))) (Ne.symm uj)).trans (Heap.get?_push_size g rfl)
 have keep:∀b o,b≠e→g.get? b=some o→((g.push {cls:=.type "traceback",dict:=none,data:=.fields ar}).update e (Obj.mapFields (·.setIfInBounds 1 (Value.ref g.objs.size)))).get? b=some o:=fun b o ne hb=>by
  rw[Heap.get?_update_other _ _ (Ne.symm ne)]
  exact Heap.get?_push_of_some _ hb
 refine k _ g.objs.size ⟨Nat.le_of_eq so.1.symm,fun b o ne nf _ hb=>keep b o ne ((so.2.1 b nf).trans hb),fun b o _ ne _ hb=>?_,g3,_,_,_,t3,rfl,a3⟩
 obtain⟨sl,q⟩:=so.2.2 b o hb
 exact⟨sl,keep b _ ne q⟩
theorem Cq {T₀:Addr} {oT:Obj} {ts:Array Value} {x3:Value} (fr:A.frames=some (env::outer)) (ff:s.heap.FunFrames base (env::outer)) (fL:env.frame=some L) (fe:env'.frame=env.frame) (xe:s.heap.get? e=some oe) (xd:oe.data=.fields vs) (x1:vs[1]? =some (.ref T₀))
  (uj:T₀≠e) (xt:s.heap.get? T₀=some oT) (td:oT.data=.fields ts) (t3:ts[3]? =some x3) (k0:Q () s)
  (k:∀h' T,tf (frs (env::outer)) e oe (some T₀) T s.heap h'→Q () {s with heap:=h'}):wpAny M A (noteFrame (.ref e) env') Q E s:=by
 unfold noteFrame
 rw[fe]
 simp only[fL]
 refine wpAny_bind (wpAny_field xe xd x1 ?_)
 rw[if_pos (by simp)]
 refine wpAny_bind (wpAny_field xt td t3 ?_)
 by_cases c:(x3 == rawInt L)=true
 ·rw[if_pos c]
  exact wpAny_pure k0
 rw[if_neg c]
 refine wpAny_bind (wpAny_setField xt td (Array.getElem?_eq_some_iff.mp t3).1 ?_)
 have oth:∀b,b≠T₀→(s.heap.update T₀ (Obj.mapFields (·.setIfInBounds 3 Value.none))).get? b=s.heap.get? b:=fun b nb=>Heap.get?_update_other _ _ (Ne.symm nb)
 have D3:∀b o,s.heap.get? b=some o→(∀ws,o.data≠.fields ws)→b≠T₀:=fun b o hb nf z=>by
  rw[z,xt] at hb
  cases hb
  exact nf ts td
 refine AG (s:={s with heap:=s.heap.update T₀ (Obj.mapFields (·.setIfInBounds 3 Value.none))}) fr (ff.of_keeps fun b o hb nf=>⟨o,(oth b (D3 b o hb nf)).trans hb,rfl⟩) fL fe ((oth e (Ne.symm uj)).trans xe) xd (Array.getElem?_eq_some_iff.mp x1).1 fun h' T p=>?_
 refine k h' T ⟨?_,fun b o ne nf nt hb=>p.keep b o ne nf (by simp) ((oth b fun z=>nt (by rw[z])).trans hb),fun b o hf ne nt hb=>p.slot b o hf ne (by simp) ((oth b fun z=>nt (by rw[z])).trans hb),p.exc,p.tb⟩
 have:=p.above
 simpa[Heap.update] using this
end
def jY (Fr:Addr→Prop) (a:Addr) (H:Hp) (h:Heap):Prop:=∃o vs T oT ts x3,h.get? a=some o∧o.data=.fields vs∧vs[1]? =some (.ref T)∧T≠a∧Fr T∧H T=none∧h.get? T=some oT∧oT.data=.fields ts∧ts[3]? =some x3
def Free (X:Cx) (pins:List (Addr×Obj)) (T:Addr):Prop:=X.s₀.heap.objs.size≤T∧T≠X.env.locals∧(∀x c,X.env.cells.lookup x=some c→c≠T)∧∀p∈X.pn++pins,p.1≠T
theorem oz.two {n:Nat} {a:Addr} {H:Hp} {h:Heap} {Fr:Addr→Prop} (x:oz n a H h) (k:∀T,n≤T→Fr T):jY Fr a H h:=by
 obtain⟨o,vs,T,oT,ts,e1,e2,e3,e4,e5,e6,e7,e8,e9⟩:=x
 exact⟨o,vs,T,oT,ts,_,e1,e2,e3,e4,k T e5,e6,e7,e8,e9⟩
theorem jY.mono {a:Addr} {H:Hp} {h:Heap} {Fr Fr':Addr→Prop} (x:jY Fr a H h) (k:∀T,Fr T→Fr' T):jY Fr' a H h:=by
 obtain⟨o,vs,T,oT,ts,x3,e1,e2,e3,e4,e5,r⟩:=x
 exact⟨o,vs,T,oT,ts,x3,e1,e2,e3,e4,k T e5,r⟩
section
variable {X:Cx} {pins:List (Addr×Obj)} {σ:St} {H:Hp} {s:Shared} {h':Heap} {a C T:Addr} {dx:Option Addr} {f:Bool} {oe:Obj} {hd:Option Addr} {Fr:Addr→Prop}
theorem Inv.G_ (I:Inv X pins σ H s) (p:tf (frs X.stack) a oe hd T s.heap h') (Ha:H a=some (xo f a C dx)) (ho:s.heap.get? a=some oe) (hn:∀b,hd=some b→H b=none)
  (hT:∀b,hd=some b→X.s₀.heap.objs.size≤b∧b≠X.env.locals∧(∀x c,X.env.cells.lookup x=some c→c≠b)∧∀q∈X.pn++pins,q.1≠b):
  Inv X pins σ (upd H a (xo false a C dx)) {s with heap:=h'}∧nI false a C dx h':=by
 obtain⟨o1,vs,e1,c1,d1,f1,z1,_⟩:=I.wc Ha
 obtain rfl:oe=o1:=Option.some.inj (ho.symm.trans e1)
 have new:nI false a C dx h':=⟨_,_,p.exc,by rw[Obj.cls_mapFields];exact c1,by rw[←d1];cases oe;rename_i dd sl;cases dd<;>rfl,Obj.data_mapFields f1 _,by simpa using z1,fun z=>by cases z⟩
 have nA:∀b,H b=none→b≠a:=fun b n z=>by rw[z,Ha] at n;cases n
 have nF:∀b u,H b=some u→b ∉ frs X.stack:=fun b u e z=>by rw[I.p8 b z] at e;cases e
 have nD:∀b u,H b=some u→hd≠some b:=fun b u e z=>by rw[hn b z] at e;cases e
 have kT:∀b u o,H b=some u→b≠a→s.heap.get? b=some o→h'.get? b=some o:=fun b u o e ne q=>p.keep b o ne (nF b u e) (nD b u e) q
 have ch:∀b,b ∉ hd.toList→hd≠some b:=fun b nb z=>nb (by rw[z];simp)
 refine⟨?_,new⟩
 have fr:∀b,b≠a→(upd H a (xo false a C dx)) b=H b:=fun b ne=>br ne
 refine I.step (g':=s.gens) (d':=s.drawn) (t':=s.toks) (ch:=hd.toList) (fun b hb=>?_) (fun b o nl nf nc e n=>?_) (fun b o nl hf nc e n=>?_) (fun b o nc e n=>?_) (fun b o nc e=>?_) (fun b xs e=>?_) (fun b o u e=>?_) (fun b ps e=>?_) (fun m hm=>?_) ?_ I.bare
 ·have e:hd=some b:=by
   cases hd with
   | none=>simp at hb
   | some y=>simp at hb;rw[hb]
  exact⟨.inr (hT b e).1,(hT b e).2.1,(hT b e).2.2.1,(hT b e).2.2.2⟩
 ·exact p.keep b o (nA b n) (fun z=>(List.mem_cons.mp (I.mE b z)).elim nl nf) (ch b nc) e
 ·by_cases z:b∈frs X.stack
  ·exact p.slot b o z (nA b n) (ch b nc) e
  ·exact⟨o.slots,p.keep b o (nA b n) z (ch b nc) e⟩
 ·rw[fr b (nA b n)];exact n
 ·by_cases ne:b=a
  ·subst ne;exact⟨_,p.exc⟩
  ·by_cases z:b∈frs X.stack
   ·obtain⟨sl,q⟩:=p.slot b o z ne (ch b nc) e
    exact⟨_,q⟩
   ·exact⟨o,p.keep b o ne z (ch b nc) e⟩
 ·rw[fr b fun z=>by rw[z,Ha] at e;cases e];exact e
 ·rw[fr b fun z=>by rw[z,Ha] at e;cases e];exact e
 ·have ne:b≠a:=fun z=>by rw[z,Ha] at e;cases e
  exact⟨#[],by rw[fr b ne,e];simp⟩
 ·obtain⟨o,es,ep,q,r⟩:=hm
  have nl:=nA _ I.free
  have nd:hd≠some X.env.locals:=fun z=>(hT _ z).2.1 rfl
  by_cases z:X.env.locals∈frs X.stack
  ·obtain⟨sl,q'⟩:=p.slot _ o z nl nd q
   exact⟨_,es,ep,q',r⟩
  ·exact⟨o,es,ep,p.keep _ o nl z nd q,r⟩
 ·intro b u e
  by_cases ne:b=a
  ·subst ne
   rw[ag] at e
   cases e
   exact vb new
  ·rw[fr b ne] at e
   refine(I.hok b u e).stay (fun c v hc q=>?_) (fun c q=>?_) fun c xs q=>?_
   ·rcases hc with z | z
    ·subst z;exact kT _ u v e ne q
    ·exact kT c _ v z (fun y=>by rw[y,Ha] at z;cases z) q
   ·rw[fr c fun y=>by rw[y,Ha] at q;cases q];exact q
   ·rw[fr c fun y=>by rw[y,Ha] at q;cases q];exact q
theorem rQ {M:Model} {A:Around} {E:Value→Shared→Prop} {Q:Unit→Shared→Prop} {env':Env} (I:Inv X pins σ H s) (hA:A.frames=X.A.frames) (hh:Head X) (Ha:H a=some (xo false a C dx)) (fl:jY Fr a H s.heap) (fe:env'.frame=X.env.frame)
  (hF:∀T,Fr T→Free X pins T) (hN:∀T,s.heap.objs.size≤T→Fr T)
  (k:∀h',Inv X pins σ H {s with heap:=h'}→jY Fr a H h'→(∀b o,s.heap.get? b=some o→b≠a→b ∉ frs X.stack→¬Fr b→h'.get? b=some o)→Q () {s with heap:=h'}):wpAny M A (noteFrame (.ref a) env') Q E s:=by
 obtain⟨o1,vs,e1,c1,d1,f1,z1,LO⟩:=I.wc Ha
 have frm:A.frames=some (X.env::X.outer):=by rw[hA,I.ok.frames,hh.1]
 have Ft:s.heap.FunFrames X.base (X.env::X.outer):=by rw[←hh.1];exact I.stack
 obtain⟨o,vs',T₀,oT,ts,x3,q1,q2,q3,q4,q5,q6,q7,q8,q9⟩:=id fl
 rw[e1] at q1
 cases q1
 rw[f1] at q2
 cases q2
 refine Cq frm Ft hh.2 fe e1 f1 q3 q4 q7 q8 q9 (k s.heap I fl fun b o e _ _ _=>e) fun h' T p=>?_
 rw[←hh.1] at p
 obtain⟨I',_⟩:=I.G_ p Ha e1 (fun b z=>by cases z;exact q6) fun b z=>by cases z;exact hF _ q5
 rw[qJ Ha] at I'
 have ne:T≠a:=fun z=>absurd (Nat.lt_of_lt_of_le (z▸Heap.lt_size e1) p.above) (Nat.lt_irrefl _)
 obtain⟨oT',ts',x',t1,t2,t3⟩:=p.tb
 refine k h' I' ⟨_,_,T,oT',ts',x',p.exc,Obj.data_mapFields f1 _,by simp[z1],ne,hN T p.above,I.hok.fresh p.above,t1,t2,t3⟩ fun b o e nb nf nr=>?_
 exact p.keep b o nb nf (fun z=>nr (by cases z;exact q5)) e
theorem AH {M:Model} {A:Around} {E:Value→Shared→Prop} {Q:Unit→Shared→Prop} {fo:Option Addr} (I:Inv X pins σ H s) (Ha:H a=some (xo false a C dx)) (fl:jY Fr a H s.heap) (hF:∀T,Fr T→Free X pins T)
  (k:∀h',Inv X pins σ H {s with heap:=h'}→jY Fr a H h'→Q () {s with heap:=h'}):wpAny M A (setFlight (.ref a) fo) Q E s:=by
 obtain⟨o,vs,T,oT,ts,x3,q1,q2,q3,q4,q5,q6,q7,q8,q9⟩:=fl
 have sz:3<ts.size:=(Array.getElem?_eq_some_iff.mp q9).1
 unfold setFlight
 refine wpAny_bind (wpAny_field q1 q2 q3 ?_)
 rw[if_pos (by simp)]
 refine wpAny_setField q7 q8 sz ?_
 have oth:∀b,b≠T→(s.heap.update T (Obj.mapFields (·.setIfInBounds 3 (fo.elim Value.none fun f=>rawInt f)))).get? b=s.heap.get? b:=fun b nb=>Heap.get?_update_other _ _ (Ne.symm nb)
 have hT:=hF T q5
 refine k _ (I.turned (it:=T) (t':=s.toks) (fun b o ne e=>(oth b ne).trans e) q6 hT.2.1 (.inr hT.1) hT.2.2.1 hT.2.2.2) ?_
 exact⟨o,vs,T,_,_,_,(oth a (Ne.symm q4)).trans q1,q2,q3,q4,q5,q6,Heap.get?_update_self _ q7 (Obj.isFreed_of_fields (Obj.data_mapFields q8 _)),Obj.data_mapFields q8 _,by simp[sz];rfl⟩
theorem xZ {M:Model} {A:Around} {E:Value→Shared→Prop} {Q:Unit→Shared→Prop} {n:Nat} (I:Inv X pins σ H s) (Ha:H a=some (xo false a C dx)) (fl:jY Fr a H s.heap) (hF:∀T,Fr T→Free X pins T) (hn:∀T,Fr T→n≤T)
  (k:∀h',Inv X pins σ H {s with heap:=h'}→oz n a H h'→Q () {s with heap:=h'}):wpAny M A (setFlight (.ref a) none) Q E s:=by
 obtain⟨o,vs,T,oT,ts,x3,q1,q2,q3,q4,q5,q6,q7,q8,q9⟩:=fl
 have sz:3<ts.size:=(Array.getElem?_eq_some_iff.mp q9).1
 unfold setFlight
 refine wpAny_bind (wpAny_field q1 q2 q3 ?_)
 rw[if_pos (by simp)]
 refine wpAny_setField q7 q8 sz ?_
 have oth:∀b,b≠T→(s.heap.update T (Obj.mapFields (·.setIfInBounds 3 ((none:Option Addr).elim Value.none fun f=>rawInt f)))).get? b=s.heap.get? b:=fun b nb=>Heap.get?_update_other _ _ (Ne.symm nb)
 have hT:=hF T q5
 refine k _ (I.turned (it:=T) (t':=s.toks) (fun b o ne e=>(oth b ne).trans e) q6 hT.2.1 (.inr hT.1) hT.2.2.1 hT.2.2.2) ?_
 exact⟨o,vs,T,_,_,(oth a (Ne.symm q4)).trans q1,q2,q3,q4,hn T q5,q6,Heap.get?_update_self _ q7 (Obj.isFreed_of_fields (Obj.data_mapFields q8 _)),Obj.data_mapFields q8 _,by simp[sz]⟩
end
def Leaves (X:Cx) (E:XK):Prop:=∀(pins:List (Addr×Obj)) (σ:St) (H:Hp) (s:Shared) (a C:Addr) (dx:Option Addr),Inv X pins σ H s→H a=some (xo false a C dx)→jY (Free X pins) a H s.heap→E (.ref a) dx H→X.xe (.ref a) s
theorem Cr {P:Program} {w:World} {K:PySem.W.Frag} {mg:Str→Option Value} {base:Heap} {N:List Str} {qual:Str} {scope:Scope} {fa:Addr} {cd:Value} {A:Around} {outer:List Env} {s₀:Shared} {H₀:Hp} {E:XK}:Leaves (hG (bS P w) P w K mg base N qual scope fa cd A outer s₀ H₀ E) E:=by
 intro pins σ H s a C dx I Ha fl hE
 show wpAny _ _ (leaving _ _) _ _ s
 unfold leaving
 refine wpAny_bind (rQ (Fr:=Free _ pins) I rfl ⟨rfl,rfl⟩ Ha fl rfl (fun _ h=>h) (fun T hT=>I.beyond hT) fun h1 I1 RU _=>?_)
 refine xZ (n:=s₀.heap.objs.size) I1 Ha RU (fun _ h=>h) (fun T h=>h.1) fun h2 I2 Iy=>?_
 exact⟨a,C,dx,H,rfl,I2.os,I2.bare,I2.base,I2.hok,Ha,Iy,hE⟩
def uk (X:Cx) (C:Addr):Value→Shared→Prop:=fun x s'=>∃m,s'.heap.Ns C m∧∀h',Heap.SameBut C s'.heap h'→∀cenv:Env,cenv.locals=C→wpAny (model X.prog X.w) X.A (passOn "comprehension.variables-let-go" x cenv:Sem Value) (fun _ _=>False) X.xe {s' with heap:=h'}
abbrev eK (X:Cx) (own bO:List Str) (scope:Scope) (C:Addr) (s₃:Shared) (H₃:Hp) (fp:List Addr) (xe:Value→Shared→Prop):Cx:=(fY X own bO scope C s₃ H₃ fp).wish xe
section
variable {X:Cx} {scope:Scope} {own bO:List Str} {cy:List Nat} {elt tg iter:Expr} {ifs:List Expr} {pos:Pos} {g:TG} {tt:TT} {te:TE}
theorem x5 {pins:List (Addr×Obj)} {σ:St} {H₃:Hp} {s₃:Shared} {fp:List Addr} {EX:XK} (I3:Inv X pins σ H₃ s₃) (kB:∀b∈fp,ik X pins H₃ b) (hh:Head X) (lv:Leaves X EX):
  Passes (bS X.prog X.w) (eK X own bO scope s₃.heap.objs.size s₃ H₃ fp (notedBy (model X.prog X.w) X.A (compEnvC scope (dN X.env scope.names []) s₃.heap.objs.size X.env) (uk X s₃.heap.objs.size))) EX:=by
 intro zY σ' H s e s' I' c
 obtain⟨a,C,dx,H',rfl,I2,Ha,fl,hE⟩:=bS.after I' c
 have J:Inv X pins σ H' s':=I3.call' (ch:=fp) I2.os I2.base I2.hok I2.bare fun b hb=>by
  obtain⟨f0,f1,f2,f3,f4,f5⟩:=kB b hb
  exact⟨f3,f1,f4,f5⟩
 have Js:Inv X pins σ H s:=I3.call' (ch:=fp) I'.os I'.base I'.hok I'.bare fun b hb=>by
  obtain⟨f0,f1,f2,f3,f4,f5⟩:=kB b hb
  exact⟨f3,f1,f4,f5⟩
 obtain⟨m,hn,_⟩:=I2.loc
 have LR:H' s₃.heap.objs.size=none:=I2.free
 obtain⟨g0,g1,g2,g3,g4,g5⟩:=I3.mx (H':=H') (Nat.le_refl _) LR
 have RV:s₃.heap.objs.size<s.heap.objs.size:=I'.lt
 have Nc:s₃.heap.objs.size<s'.heap.objs.size:=I2.lt
 have Nd:s₃.heap.objs.size ∉ frs X.stack:=fun z=>by
  rcases List.mem_cons.mp (I3.mE _ z) with q | q
  ·exact g1 q
  ·exact g2 q
 let Fr:Addr→Prop:=fun T=>Free X pins T∧T≠s₃.heap.objs.size
 have hN:∀T,s'.heap.objs.size≤T→Fr T:=fun T hT=>⟨J.beyond hT,fun z=>by rw[z] at hT;exact absurd (Nat.lt_of_lt_of_le Nc hT) (Nat.lt_irrefl _)⟩
 have Iy:jY Fr a H' s'.heap:=fl.two fun T hT=>⟨Js.beyond hT,fun z=>by rw[z] at hT;exact absurd (Nat.lt_of_lt_of_le RV hT) (Nat.lt_irrefl _)⟩
 have aC:s₃.heap.objs.size≠a:=fun z=>by rw[←z,LR] at Ha;cases Ha
 show wpAny _ _ (noteFrame (.ref a) _) _ _ s'
 refine rQ (Fr:=Fr) J rfl hh Ha Iy rfl (fun T h=>h.1) hN fun h1 J1 RW kp=>?_
 have hn1:h1.Ns s₃.heap.objs.size m:=by
  obtain⟨o,es,ep,ho,r⟩:=hn
  exact⟨o,es,ep,kp _ o ho aC Nd fun z=>z.2 rfl,r⟩
 refine⟨m,hn1,fun h2 sb cenv _=>?_⟩
 have J2:Inv X pins σ H' {s' with heap:=h2}:=Inv.turned (s:={s' with heap:=h1}) (h':=h2) (t':=s'.toks) (it:=s₃.heap.objs.size) J1 (fun b o hb e=>(sb.2 b hb).trans e) g0 g1 g3 g4 g5
 have LS:jY Fr a H' h2:=by
  obtain⟨o,vs,T,oT,ts,x3,q1,q2,q3,q4,q5,q6,q7,q8,q9⟩:=RW
  exact⟨o,vs,T,oT,ts,x3,(sb.2 a (Ne.symm aC)).trans q1,q2,q3,q4,q5,q6,(sb.2 T q5.2).trans q7,q8,q9⟩
 unfold PySem.passOn
 obtain⟨o,vs,T,oT,ts,x3,q1,q2,q3,q4,q5,q6,q7,q8,q9⟩:=id LS
 refine wpAny_bind (wpAny_field q1 q2 q3 ?_)
 rw[if_neg (by simp)]
 refine wpAny_bind (AH (Fr:=Fr) J2 Ha LS (fun T h=>h.1) fun h3 J3 RX=>?_)
 exact wpAny_throw (lv pins σ H' _ a C dx J3 Ha (RX.mono fun T h=>h.1) hE)
theorem mT {prog:Program} {w:World} {A:Around} {R:Result→Shared→Prop} {s:Shared} {scope:Scope} {it acc:Value} {env:Env} (I:Nat→Shared→Prop)
  (turn:∀n s,I n s→wpAny (model prog w) A (pyNext it) (fun r s₁=>match r with
   | none=>R (.ok .next) s₁
   | some v=>wpAny (model prog w) A (letOwnedTupleGo tg it v) (fun _ s₁'=>wpAny (model prog w) A (assign tg env v) (fun _ s₂=>
     wpAny (model prog w) A (forIn ifs true fun c r=>if r=true then do let ok ←isTrue c env (eval c env);pure (ForInStep.yield ok) else pure (ForInStep.yield r)) (fun ok s₃=>
      if ok=true then wpAny (model prog w) A (eval elt env) (fun x s₄=>
       wpAny (model prog w) A (call (.builtin "list.append") [acc,x]) (fun _ s₅=>∃m,m<n∧I m s₅) (notedBy (model prog w) A env fun x s'=>R (.error x) s') s₄) (notedBy (model prog w) A env fun x s'=>R (.error x) s') s₃
      else ∃m,m<n∧I m s₃) (notedBy (model prog w) A env fun x s'=>R (.error x) s') s₂) (notedBy (model prog w) A env fun x s'=>R (.error x) s') s₁') (notedBy (model prog w) A env fun x s'=>R (.error x) s') s₁) (notedBy (model prog w) A env fun x s'=>R (.error x) s') s)
  (n:Nat) (h:I n s):
  codeAny (model prog w) A (.compLoop (.ListComp elt [⟨tg,iter,ifs,0⟩] scope pos) 0 it acc env) R s:=by
 refine codeAny_loop rfl I (fun n s hI=>?_) n h
 show wpAny _ A ((compTurn (.ListComp elt [⟨tg,iter,ifs,0⟩] scope pos) 0 it acc env).onRaise (fun x=>do noteFrame x env;theTreesLotGoes x)) _ _ s
 refine wpAny_noted ?_
 rw[compTurn_list]
 refine wpAny_bind (wpAny_standAt (wpAny_bind (aV (turn n s hI) fun r s₁ h₁=>?_)))
 cases r with
 | none=>exact wpAny_pure h₁
 | some v=>
  refine wpAny_bind (aV h₁ fun _ s₁' h₁'=>?_)
  refine wpAny_bind (aV h₁' fun _ s₂ h₂=>wpAny_bind (aV h₂ fun ok s₃ h₃=>?_))
  cases ok with
  | false=>exact wpAny_pure ⟨rfl,h₃⟩
  | true=>
   exact wpAny_bind (wpAny_bind (aV h₃ fun x s₄ h₄=>wpAny_bind (aV h₄ fun _ s₅ h₅=>wpAny_pure (wpAny_pure ⟨rfl,h₅⟩))))
theorem x6 {pins:List (Addr×Obj)} {σ:St} {H:Hp} {s:Shared} {J:It} {fp:List Addr} {it:Addr} {tn:Nat→Heap→Prop} {R:Addr→Hp→Prop} {RR:Value→Addr→Result→Shared→Prop} {E:Value→Shared→Prop} {EX:XK}
  (sc:bF X scope own bO cy) (hc:X.calm=true)
  (hg:∀C s₃ H₃ fp xe,PG (eK X own bO scope C s₃ H₃ fp xe) tg g) (ht:∀C s₃ H₃ fp xe,nz (eK X own bO scope C s₃ H₃ fp xe) ifs tt) (he:∀C s₃ H₃ fp xe,Passes (bS X.prog X.w) (eK X own bO scope C s₃ H₃ fp xe) EX→PE (eK X own bO scope C s₃ H₃ fp xe) elt te) (hh:Head X) (lv:Leaves X EX)
  (I:Inv X pins σ H s) (T:Turn X.prog X.w X.K tg J fp it tn) (st:tn 0 s.heap) (hfp:∀b∈fp,ik X pins H b)
  (h:∀D,H D=none→nB J g tt te D (rG own cy σ) (upd H D (.lst [])) (R D))
  (LU:∀D C x s',uk X C x s'→RR (.ref D) C (.error x) s') (hRR:∀D C H' s' m,Inv X pins σ H' s'→s.heap.objs.size≤C→s'.heap.Ns C m→H' C=none→R D H'→RR (.ref D) C (.ok .next) s'):
  wpAny (model X.prog X.w) X.A (newList []) (fun acc s₃=>wpAny (model X.prog X.w) X.A (newFunctionEnv scope X.env.globals (dN X.env scope.names []) [] X.env.qual none .none (some X.env)) (fun cenv s₄=>
   codeAny (model X.prog X.w) X.A (.compStart (.ListComp elt [⟨tg,iter,ifs,0⟩] scope pos) 0 (.ref it) acc {cenv with scope:=relabel scope X.env}) (RR acc cenv.locals) s₄) E s₃) E s:=by
 refine wpAny_newObj_type (wpAny_newFunctionEnv sc.cell (by intro y hy;simp at hy) (fun h₁ hns₁ hsb₁=>?_) sc.kind)
 dsimp only at hns₁ hsb₁ ⊢
 have hD:=I.fresh
 have I3:Inv X pins σ (upd H s.heap.objs.size (.lst [])) {s with heap:=s.heap.push {cls:=.type "list",dict:=none,data:=.seq ([]:List Value).toArray}}:=I.DF (its:=[]) (t':=s.toks) .nil (Nat.zero_le _)
 have hsz:(s.heap.push {cls:=.type "list",dict:=none,data:=.seq ([]:List Value).toArray}).objs.size=s.heap.objs.size+1:=Heap.size_push ..
 generalize hs3:({s with heap:=s.heap.push {cls:=.type "list",dict:=none,data:=.seq ([]:List Value).toArray}}:Shared)=s₃ at I3
 have hh3:s.heap.push {cls:=.type "list",dict:=none,data:=.seq ([]:List Value).toArray}=s₃.heap:=by rw[←hs3]
 rw[hh3] at hns₁ hsb₁ hsz ⊢
 have hfl:∀b∈fp,b<s.heap.objs.size:=fun b hb=>by
  obtain⟨o,e,_⟩:=T.obj 0 _ st b hb
  exact Heap.lt_size e
 have kB:∀b∈fp,ik X pins (upd H s.heap.objs.size (.lst [])) b:=fun b hb=>by
  obtain⟨f0,f⟩:=hfp b hb
  exact⟨by rw[br (Nat.ne_of_lt (hfl b hb))];exact f0,f⟩
 have DP:∀b∈fp,b<s₃.heap.objs.size:=fun b hb=>by rw[hsz];exact Nat.lt_succ_of_lt (hfl b hb)
 have k4:∀b o,s₃.heap.get? b=some o→h₁.get? b=some o:=fun b o e=>(hsb₁.2 b (Nat.ne_of_lt (Heap.lt_size e))).trans (Heap.get?_push_of_some _ e)
 have k3:∀b o,s.heap.get? b=some o→s₃.heap.get? b=some o:=fun b o e=>by rw[←hh3];exact Heap.get?_push_of_some _ e
 have hnone:(fun x:Str=>List.lookup x ([]:List (Str×Value)).reverse)=fun _=>none:=by funext x;rfl
 have Ar:h₁.Ns s₃.heap.objs.size fun _=>none:=by
  have q:=hns₁
  first
   | exact q
   | (rw[hnone] at q;exact q)
 have I4:=I3.block (own:=own) (tk:=s.toks+([]:List (Str×Value)).length) sc kB DP k4 Ar
 have vS:tn 0 h₁:=T.keep _ _ _ st fun b hb o e=>k4 b o (k3 b o e)
 have I4:=I4.wish (notedBy (model X.prog X.w) X.A (compEnvC scope (dN X.env scope.names []) s₃.heap.objs.size X.env) (uk X s₃.heap.objs.size))
 have Pz:Passes (bS X.prog X.w) (eK X own bO scope s₃.heap.objs.size s₃ (upd H s.heap.objs.size (.lst [])) fp (notedBy (model X.prog X.w) X.A (compEnvC scope (dN X.env scope.names []) s₃.heap.objs.size X.env) (uk X s₃.heap.objs.size))) EX:=x5 I3 kB hh lv
 change Inv (eK X own bO scope s₃.heap.objs.size s₃ (upd H s.heap.objs.size (.lst [])) fp (notedBy (model X.prog X.w) X.A (compEnvC scope (dN X.env scope.names []) s₃.heap.objs.size X.env) (uk X s₃.heap.objs.size))) [] _ _ _ at I4
 generalize hX:eK X own bO scope s₃.heap.objs.size s₃ (upd H s.heap.objs.size (.lst [])) fp (notedBy (model X.prog X.w) X.A (compEnvC scope (dN X.env scope.names []) s₃.heap.objs.size X.env) (uk X s₃.heap.objs.size))=X' at I4 Pz
 have zg:X'.prog=X.prog:=by rw[←hX];rfl
 have zh:X'.w=X.w:=by rw[←hX];rfl
 have HK:X'.K=X.K:=by rw[←hX];rfl
 have Fl:X'.A=X.A:=by rw[←hX];rfl
 have B2:X'.calm=true:=by rw[←hX];exact hc
 have HL:X'.xe=notedBy (model X.prog X.w) X.A (compEnvC scope (dN X.env scope.names []) s₃.heap.objs.size X.env) (uk X s₃.heap.objs.size):=by rw[←hX]
 have Fm:X'.env=compEnvC scope (dN X.env scope.names []) s₃.heap.objs.size X.env:=by rw[←hX];rfl
 have hg':PG X' tg g:=by rw[←hX];exact hg _ _ _ _ _
 have ht':nz X' ifs tt:=by rw[←hX];exact ht _ _ _ _ _
 have he':PE X' elt te:=by subst hX;exact he _ _ _ _ _ Pz
 have HM:∀{H':Hp} {s':Shared} {σ':St},Inv X' [] σ' H' s'→Inv X pins σ H' s'∧(∃m,s'.heap.Ns s₃.heap.objs.size m)∧H' s₃.heap.objs.size=none:=by
  intro H' s' σ' I'
  subst hX
  refine⟨I3.call' (ch:=fp) I'.os I'.base I'.hok I'.bare fun b hb=>?_,let ⟨m,hn,_⟩:=I'.loc;⟨m,hn⟩,I'.free⟩
  obtain⟨f0,f1,f2,f3,f4,f5⟩:=kB b hb
  exact⟨f3,f1,f4,f5⟩
 have stat:∀{H':Hp},(∀b∈fp,H' b=none)→∀b∈fp,ik X' [] H' b:=by
  intro H' hn b hb
  subst hX
  obtain⟨a1,a2⟩:=I4.ok.E1 b hb
  exact⟨hn b hb,a1,I4.ok.sJ b hb,.inl hb,a2,fun p hp=>by cases hp⟩
 obtain⟨W,⟨m0,w0⟩,turn⟩:=h s.heap.objs.size hD
 have loop:codeAny (model X.prog X.w) X.A (.compLoop (.ListComp elt [⟨tg,iter,ifs,0⟩] scope pos) 0 (.ref it) (.ref s.heap.objs.size) X'.env) (RR (.ref s.heap.objs.size) s₃.heap.objs.size)
   {s₃ with heap:=h₁,toks:=s.toks+([]:List (Str×Value)).length}:=by
  refine mT (fun n s'=>∃i σ' H',Inv X' [] σ' H' s'∧tn i s'.heap∧(∀b∈fp,H' b=none)∧W i n σ' H') ?_ m0 ⟨0,_,_,I4,vS,fun b hb=>(kB b hb).1,w0⟩
  rintro n s5 ⟨i,σ5,H5,I5,rA,vB,w5⟩
  rw[←zg,←zh,←Fl]
  have hnb:∀x s',notedBy (model X.prog X.w) X.A (compEnvC scope (dN X.env scope.names []) s₃.heap.objs.size X.env) (uk X s₃.heap.objs.size) x s'→notedBy (model X'.prog X'.w) X'.A X'.env (fun x s'=>RR (.ref s.heap.objs.size) s₃.heap.objs.size (.error x) s') x s':=fun x s' h=>by
   rw[zg,zh,Fl,Fm]
   exact wpAny_mono h (fun _ s'' q=>LU _ _ x s'' q) fun y s'' q=>LU _ _ y s'' q
  have rJ:∀{α:Type} {t:Sem α} {Q:α→Shared→Prop} {s9:Shared},wpAny (model X'.prog X'.w) X'.A t Q X'.xe s9→wpAny (model X'.prog X'.w) X'.A t Q (notedBy (model X'.prog X'.w) X'.A X'.env (fun x s'=>RR (.ref s.heap.objs.size) s₃.heap.objs.size (.error x) s')) s9:=fun h=>by rw[HL] at h;exact wpAny_mono h (fun _ _ q=>q) hnb
  have T':Turn X'.prog X'.w X'.K tg J fp it tn:=by rw[zg,zh,HK];exact T
  rcases turn i n σ5 H5 w5 with⟨stop,q⟩ | ⟨go,N,hN,step⟩
  ·refine aV (T'.done X' rfl rfl rfl B2 i [] s5 σ5 H5 _ I5 (stat vB) rA stop) fun r s6 ⟨hr,I6⟩=>?_
   subst hr
   obtain⟨J1,⟨m,J2⟩,J3⟩:=HM I6
   exact hRR _ _ H5 s6 m J1 (by rw[hsz];exact Nat.le_succ _) J2 J3 q
  ·refine aV (T'.item X' rfl rfl rfl B2 i [] s5 σ5 H5 _ I5 (stat vB) rA go) fun r s6 ⟨u,hr,h6⟩=>?_
   subst hr
   refine aV h6 fun _ s7 ⟨x,H7,I7,r7,y7,vT,HN⟩=>?_
   have HP:=I7.pinned (stat HN) (T'.obj _ _ vT)
   have again:∀{s9:Shared} {σ9:St} {H9:Hp},Inv X' ([]++mI fp s7.heap) σ9 H9 s9→N σ9 H9→∃m,m<n∧∃i σ' H',Inv X' [] σ' H' s9∧tn i s9.heap∧(∀b∈fp,H' b=none)∧W i m σ' H':=fun {s9 σ9 H9} I9 n9=>by
    obtain⟨m',hm,w9⟩:=hN σ9 H9 n9
    refine⟨m',hm,i+1,σ9,H9,I9.ky,T'.keep _ _ _ vT fun b hb o e=>(I9.pin (b,o) (List.mem_append_right _ (List.mem_append_right _ (gQ hb e)))).1,fun b hb=>?_,w9⟩
    obtain⟨o,e,d⟩:=T'.obj _ _ vT b hb
    exact(I9.pin (b,o) (List.mem_append_right _ (List.mem_append_right _ (gQ hb e)))).2.1
   refine aV (rJ (hg' _ s7 σ5 H7 x u _ HP r7 (step x H7 y7))) fun _ s8 ⟨σ8,H8,I8,q8⟩=>?_
   refine aV (rJ (ht' _ s8 σ8 H8 _ I8 q8)) fun b s9 ⟨H9,I9,q9⟩=>?_
   cases b with
   | false=>exact again I9 (by simpa using q9)
   | true=>
    rw[if_pos rfl] at q9
    refine aV (rJ (he' _ s9 σ8 H9 _ I9 q9)) fun y zi ⟨v,zj,HQ,r10,HR⟩=>?_
    obtain⟨ys,e10,z10,n10⟩:=HR
    refine aV (rJ (cQ _ zi σ8 zj (.ref s.heap.objs.size) [v] (.ref s.heap.objs.size) [y] (fun _ H'=>H'=upd zj s.heap.objs.size (.lst (ys++[v]))) HQ rfl (.cons r10 .nil) ⟨_,ys,v,rfl,rfl,e10,z10,rfl⟩)) fun u HS ⟨v',Fn,HU,_,HV⟩=>?_
    subst HV
    exact again HU n10
 rw[Fm] at loop
 have e4:({s with heap:=h₁,toks:=s.toks+([]:List (Str×Value)).length}:Shared)={s₃ with heap:=h₁,toks:=s.toks+([]:List (Str×Value)).length}:=by rw[←hs3]
 rw[e4]
 exact codeAny_compStart_list loop (T.self _ 0 _ _ _ vS loop)
theorem x8 {EX:XK} {wi:TI} {i:Nat} {y:Str} {py spos:Pos} (sc:bF X scope own bO cy) (hc:X.calm=true) (hh:Head X) (lv:Leaves X EX) (hi:PI X tg iter wi)
  (hg:∀C s₃ H₃ fp xe,PG (eK X own bO scope C s₃ H₃ fp xe) tg g) (ht:∀C s₃ H₃ fp xe,nz (eK X own bO scope C s₃ H₃ fp xe) ifs tt) (he:∀C s₃ H₃ fp xe,Passes (bS X.prog X.w) (eK X own bO scope C s₃ H₃ fp xe) EX→PE (eK X own bO scope C s₃ H₃ fp xe) elt te)
  (hN:X.N.Nodup) (hi':X.N[i]? =some y) (hx:X.env.scope.names.lookup y=some .local)
  (hsw:swapsWith (.ListComp elt [⟨tg,iter,ifs,0⟩] scope pos) (some (.Name y py)) spos.line X.env=pure true:=by rfl)
  (hs:∀x,foldedSetIterable iter X.env x=pure x:=by intro _;rfl):PS X (.Assign [.Name y py] (.ListComp elt [⟨tg,iter,ifs,0⟩] scope pos) spos) (nh (As own cy wi g tt te) (iJ i)):=by
 intro pins s σ H D I h
 rw[exec_Assign_Name_used _ _ _ _ hsw]
 refine wpAny_bind (wpAny_standAt (wpAny_bind ?_))
 show wpAny _ X.A (do let _ ←comprehension (.ListComp elt [⟨tg,iter,ifs,0⟩] scope pos) scope X.env _ (newList []) false (eval iter X.env) (some (assign (.Name y py) X.env))) _ _ s
 refine wpAny_bind (wpAny_mono (wpAny_comprehension_free (use:=some (assign (.Name y py) X.env)) (Q:=fun _ s'=>SP X pins D .next s') rfl hs (iN (sc.cells I.ok)) sc.kind sc.names
  (aV (hi pins s σ H _ I h) fun v s1 h1=>aV h1 fun itv s2 h2=>?_)) (fun _ s' hq=>wpAny_pure (wpAny_pure hq)) fun _ _ e=>e)
 obtain⟨it,fp,tn,J,H2,e,I2,T,st2,f2,q⟩:=h2
 subst e
 refine x6 (RR:=fun acc C=>compPost (model X.prog X.w) X.A X.xe (some (assign (.Name y py) X.env)) (fun _ s'=>SP X pins D .next s') acc C) (R:=fun E H'=>D.nx (σ.set i (some (.ref E))) H') (EX:=EX) sc hc hg ht he hh lv I2 T st2 f2 q (fun D C x s' hx=>hx) ?_
 intro E C H' s' m I' hC hn hf hq
 show wpAny _ X.A (assign (.Name y py) X.env (.ref E)) _ _ _
 obtain⟨f0,f1,f2,f3,f4,f5⟩:=I2.mx (H':=H') hC hf
 refine wpAny_assign_Name (oS I' hN hi' (.inl hx) (v:=.ref E) (u:=.ref E) rfl (fun s3 I3 ⟨a,sb,ha⟩=>?_) (.inr hx))
 have HW:C≠a:=by
  rcases ha with z | z
  ·rw[z];exact f1
  ·exact(f4 y a z).symm
 refine⟨m,hn.sameBut sb HW,fun h' HX=>?_⟩
 exact⟨_,H',I3.turned (t':=s3.toks) (it:=C) (fun b o hb e=>(HX.2 b hb).trans e) f0 f1 f3 f4 f5,hq⟩
end
section
variable {X:Cx}
theorem o7:∀l:List (Str×Tok),Vals ((l.map (·.1)).map V.str) (strValues l)
 | []=>.nil
 | (x,t)::l=>.cons ⟨t,rfl⟩ (o7 l)
def Iz:V→List V→Hp→VK→Prop:=fun x vs H Q=>∃z y:Str,x=.str z∧vs=[.str y]∧z.length≤1000000∧1≤y.length∧∀p,H p=none→Q (.ref p) (upd H p (.lst ((Txt.split z y).map V.str)))
theorem D6:vK X "str.split" Iz:=by
 intro pins s σ H x vs v us Q I rx rv h
 obtain⟨z,y,rfl,rfl,hz,hy1,q⟩:=h
 obtain⟨t,rfl⟩:=rx
 obtain⟨u,rfl,ru⟩:=rv.one
 obtain⟨t2,rfl⟩:=ru
 have hy:(y.length == 0)=false:=by rw[beq_eq_false_iff_ne];omega
 have ho:=StrLaws.occ_length_le z y 0 z.length (z.length+1)
 have hn:(Builtin.Str.partsBetween z (Builtin.Str.occurrences z y 0 z.length (z.length+1)) y.length).length≤sizeLine:=by
  rw[len_partsBetween,sizeLine_eq];omega
 have hx:z.length≤sizeLine:=by rw[sizeLine_eq];omega
 have fin:∀(l:List (Str×Tok)) (tk:Nat),l.map (·.1)=Txt.split z y→(Txt.split z y).length≤sizeLine→EP X pins σ Q (.ref s.heap.objs.size) {s with heap:=s.heap.push {cls:=.type "list",data:=.seq (strValues l).toArray},toks:=tk}:=fun l tk e hl=>by
  refine⟨.ref s.heap.objs.size,_,I.DF (its:=strValues l) (t':=tk) (o7 l) (by rw[List.length_map,e];exact hl),rfl,?_⟩
  rw[e]
  exact q _ I.fresh
 cases h1:(decide (z.length<y.length)||decide (Builtin.Str.strKind z<Builtin.Str.strKind y))
 ·cases hf:(Builtin.Str.occurrences z y 0 z.length (z.length+1)).isEmpty
  ·have es:Txt.split z y=Builtin.Str.partsBetween z (Builtin.Str.occurrences z y 0 z.length (z.length+1)) y.length:=(if_neg (ne_true_of_eq_false h1)).trans (if_neg (ne_true_of_eq_false hf))
   refine call_meets PySem.F.slot_str_split (typeIs_str _ _ _) PySem.F.entry_str_split (PySem.F.args_str_split_2 _ _) (meets_str_split_sep z y t t2 h1 hy hf hx hn) ?_
   show EP X pins σ Q _ {s with toks:=_,heap:=s.heap.push {cls:=.type "list",data:=.seq (strsFrom s.toks (Builtin.Str.partsBetween z (Builtin.Str.occurrences z y 0 z.length (z.length+1)) y.length)).toArray}}
   rw[strsFrom_eq]
   exact fin (numbered s.toks _) _ ((numbered_texts _ _).trans es.symm) (by rw[es];exact hn)
  ·have es:Txt.split z y=[z]:=(if_neg (ne_true_of_eq_false h1)).trans (if_pos hf)
   exact call_meets PySem.F.slot_str_split (typeIs_str _ _ _) PySem.F.entry_str_split (PySem.F.args_str_split_2 _ _) (meets_str_split_not_found z y t t2 h1 hy hf) (fin [(z,t)] s.toks es.symm (by rw[es];show 1≤sizeLine;decide))
 ·have es:Txt.split z y=[z]:=if_pos h1
  exact call_meets PySem.F.slot_str_split (typeIs_str _ _ _) PySem.F.entry_str_split (PySem.F.args_str_split_2 _ _) (meets_str_split_cannot_occur z y t t2 h1) (fin [(z,t)] s.toks es.symm (by rw[es];show 1≤sizeLine;decide))
theorem o8:fm X (.type "int") (fun xs H Q=>∃(z:Str) (n:Int),xs=[.str z]∧PySem.intText? z=some n∧z.length≤640∧Q (.int n) H):=by
 intro pins s σ H xs us Q I r h
 obtain⟨z,n,rfl,hn,hl,q⟩:=h
 obtain⟨u,rfl,t,rfl⟩:=vals1 r
 exact PySem.W.KIN.call_text hn hl ⟨.int n,H,I.tok _,⟨_,rfl⟩,q⟩
abbrev TJ:=St→Hp→Str→VK→Prop
def PJ (X:Cx) (es:List Expr) (t:TJ):Prop:=
 ∀(pins:List (Addr×Obj)) (s:Shared) (σ:St) (H:Hp) (out:Str) (Q:VK),Inv X pins σ H s→t σ H out Q→wpAny (model X.prog X.w) X.A (joinParts out (evalEach es X.env)) (EP X pins σ Q) X.xe s
def Nf:TJ:=fun _ H out Q=>out.length≤1000000∧Q (.str out) H
def Ng (a:Str) (t:TJ):TJ:=fun σ H out Q=>(out++a).length≤1000000∧t σ H (out++a) Q
def Nh (te:TE) (t:TJ):TJ:=fun σ H out Q=>te σ H fun v H1=>(∃i:Int,v=.int i∧i.natAbs.log2<1920∧(out++Str.ofString (toString i)).length≤1000000∧t σ H1 (out++Str.ofString (toString i)) Q)∨
 ∃y:Str,v=.str y∧(out++y).length≤1000000∧t σ H1 (out++y) Q
theorem mU:PJ X [] Nf:=fun _ _ _ H out Q I h=>joinParts_nil ⟨.str out,H,I.tok _,⟨_,rfl⟩,h.2⟩ (by rw[sizeLine_eq];have:=h.1;omega)
theorem f_ {a:Str} {j:Nat} {p:Pos} {es:List Expr} {t:TJ} (h:PJ X es t):PJ X (.Constant (.str a) j p::es) (Ng a t):=by
 intro pins s σ H out Q I hq
 refine joinParts_cons (Calls.Constant_str ⟨by rw[sizeLine_eq];have:=hq.1;omega,?_⟩)
 exact h pins _ σ H _ Q (I.tok _) hq.2
theorem eV {e:Expr} {te:TE} {p:Pos} {es:List Expr} {t:TJ} (he:PE X e te) (h:PJ X es t):PJ X (.FormattedValue e (-1) none p::es) (Nh te t):=by
 intro pins s σ H out Q I hq
 refine joinParts_cons (FormattedValue_plain (aV (he pins s σ H _ I hq) fun u s1 ⟨v,H1,I1,rv,q⟩=>?_))
 rcases q with⟨i,rfl,hi,hl,q⟩ | ⟨y,rfl,hl,q⟩
 ·obtain⟨t,rfl⟩:=rv
  exact formatField_int_small hi ⟨by rw[sizeLine_eq];omega,h pins _ σ H1 _ Q (I1.tok _) q⟩
 ·obtain⟨t,rfl⟩:=rv
  have hy:y.length≤sizeLine:=by rw[sizeLine_eq];rw[strLen_append] at hl;omega
  exact formatField_str (fun t' tk=>⟨by rw[sizeLine_eq];omega,h pins _ σ H1 _ Q (I1.tok tk) q⟩) hy
def tJ (t:TJ):TE:=fun σ H Q=>t σ H Str.empty Q
theorem ki {a b:Expr} {es:List Expr} {t:TJ} {pos:Pos} (h:PJ X (a::b::es) t):PE X (.JoinedStr (a::b::es) pos) (tJ t):=fun pins s σ H Q I hq=>JoinedStr_many (h pins s σ H _ Q I hq)
end
theorem D7 {z:Str} {g:TG} {tt:TT} {te:TE} {D:Addr} {σ:St} {H:Hp} {R:Hp→Prop} (Pv:Nat→St→Hp→Prop) (h0:Pv 0 σ H)
  (hs:∀i c σ H,z.cps[i]? =some c→Pv i σ H→g (.str ⟨#[c]⟩) σ H fun σ2 H2=>tt σ2 H2 fun b H3=>if b=true then te σ2 H3 fun y H4=>∃ys,H4 D=some (.lst ys)∧ys.length<sizeLine∧Pv (i+1) σ2 (upd H4 D (.lst (ys++[y]))) else Pv (i+1) σ2 H3)
  (hd:∀σ H,Pv z.cps.size σ H→R H):nB (Its z) g tt te D σ H R:=by
 refine⟨fun i m σ H=>m=z.cps.size-i∧i≤z.cps.size∧Pv i σ H,⟨z.cps.size,by simp,Nat.zero_le _,h0⟩,?_⟩
 rintro i m σ H ⟨rfl,hi,p⟩
 by_cases hlt:i<z.cps.size
 ·refine .inr ⟨hlt,Pv (i+1),fun σ' H' p'=>⟨z.cps.size-(i+1),by omega,rfl,hlt,p'⟩,fun x H' y=>?_⟩
  obtain⟨rfl,c,hc,rfl⟩:=y
  exact hs i c σ _ hc p
 ·have e:i=z.cps.size:=by omega
  subst e
  exact .inl ⟨Nat.le_refl _,hd σ H p⟩
def qK (l:List Nat) (lo hi:Option Int):List Nat:=(l.drop (HT.cp l.length 0 lo)).take (HT.cp l.length l.length hi-HT.cp l.length 0 lo)
theorem Fw (v:Int) (n:Nat):max 0 (min (if v<0 then v+(n:Int) else v) (n:Int))=((HT.cp n 0 (some v):Nat):Int):=by
 show _=(((if v<0 then(v+(n:Int)).toNat else min v.toNat n):Nat):Int)
 split<;>omega
theorem jt (x:Str) (lo hi:Option Int):(Txt.slice x lo hi).cps.toList=qK x.cps.toList lo hi:=by
 have hx:x.cps.toList.length=x.length:=by simp[Str.length]
 have h2:HT.cp x.length x.length hi≤x.length:=HT.BO _ _ (Nat.le_refl _) _
 have h1:HT.cp x.length 0 lo≤x.length:=HT.BO _ _ (Nat.zero_le _) _
 have ei:Builtin.Str.strSliceIndices lo hi 1 x.length=(List.range (HT.cp x.length x.length hi-HT.cp x.length 0 lo)).map (fun k=>HT.cp x.length 0 lo+k):=by
  have e1:∀o:Option Int,(match o with | none=>(0:Int) | some i=>max 0 (min (if i<0 then i+(x.length:Int) else i) (x.length:Int)))=((HT.cp x.length 0 o:Nat):Int):=fun o=>by
   cases o with
   | none=>rfl
   | some v=>exact Fw v x.length
  have e2:∀o:Option Int,(match o with | none=>(x.length:Int) | some i=>max 0 (min (if i<0 then i+(x.length:Int) else i) (x.length:Int)))=((HT.cp x.length x.length o:Nat):Int):=fun o=>by
   cases o with
   | none=>rfl
   | some v=>exact Fw v x.length
  have e3:Builtin.Str.strSliceIndices lo hi 1 x.length=sliceRange ((HT.cp x.length 0 lo:Nat):Int) ((HT.cp x.length x.length hi:Nat):Int) 1:=by
   rw[←e1 lo,←e2 hi]
   unfold Builtin.Str.strSliceIndices
   simp only[show(1:Int)>0 from by decide,if_true]
   cases lo<;>cases hi<;>rfl
  rw[e3]
  unfold sliceRange
  simp only[show(1:Int)>0 from by decide,if_true]
  split
  ·rename_i hlt
   have e4:(((HT.cp x.length x.length hi:Nat):Int)-((HT.cp x.length 0 lo:Nat):Int)+1-1) / 1=((HT.cp x.length x.length hi-HT.cp x.length 0 lo:Nat):Int):=by rw[Int.ediv_one];omega
   rw[e4,Int.toNat_natCast]
   refine List.map_congr_left fun k _=>?_
   omega
  ·rename_i hlt
   have:HT.cp x.length x.length hi-HT.cp x.length 0 lo=0:=by omega
   rw[this]
   rfl
 unfold Txt.slice
 split
 ·rename_i hw
  rw[Bool.and_eq_true] at hw
  have hl:=beq_iff_eq.mp hw.2
  rw[ei,List.length_map,List.length_range] at hl
  unfold qK
  rw[hx]
  have z1:HT.cp x.length 0 lo=0∨x.length=0:=by omega
  have z2:x.cps.toList.drop (HT.cp x.length 0 lo)=x.cps.toList:=by
   rcases z1 with z | z
   ·rw[z,List.drop_zero]
   ·have:x.cps.toList=[]:=List.length_eq_zero_iff.mp (by rw[hx];exact z)
    rw[this];simp
  rw[z2,List.take_of_length_le (by rw[hx];omega)]
 ·show(((Builtin.Str.strSliceIndices lo hi 1 x.length).filterMap (x.cps[·]?)).toArray).toList=_
  rw[ei]
  unfold qK
  rw[hx]
  have:=StrLaws.picks x.cps.toList (HT.cp x.length x.length hi-HT.cp x.length 0 lo) (HT.cp x.length 0 lo)
  by_cases c:HT.cp x.length 0 lo≤HT.cp x.length x.length hi
  ·have:=this (by rw[hx];omega)
   simpa using this
  ·have z:HT.cp x.length x.length hi-HT.cp x.length 0 lo=0:=by omega
   rw[z];simp
theorem tj (x:Str) (c:Nat):(!(Builtin.Str.occurrences x ⟨#[c]⟩ 0 x.length 1).isEmpty)=decide (c∈x.cps.toList):=StrLaws.found_one x c
theorem bj {P:Program} {w:World} {K:PySem.W.Frag} {mg:Str→Option Value} {base:Heap} {N:List Str} {qual:Str} {scope:Scope} {fa:Addr} {cd:Value} {A:Around} {outer:List Env} {s₀:Shared} {H₀:Hp} {E:XK}:Passes (bS P w) (hG (bS P w) P w K mg base N qual scope fa cd A outer s₀ H₀ E) E:=
 Cp fun a C dx H Ha h=>by rw[qJ Ha];exact h
theorem rR {P:Program} {w:World} {X:Cx}:Passes (bS P w) X (fun _ _ _=>False):=fun _ _ _ _ _ _ _ ⟨_,_,_,_,_,_,_,_,_,_,_,h⟩=>h.elim
theorem kH (a b:Str):(a++b).cps.toList=a.cps.toList++b.cps.toList:=by
 show(a.cps++b.cps).toList=_
 rw[Array.toList_append]
theorem Cs {a b:Str} (h:a.cps.toList=b.cps.toList):a=b:=bD h
theorem dB (a:Str):a.cps.toList.length=a.length:=by simp[Str.length]
def jn (c:Nat):List (List Nat)→List Nat
 | []=>[]
 | [x]=>x
 | x::y::r=>x++c::jn c (y::r)
theorem jZ (c:Nat):∀l:List Str,(Str.join ⟨#[c]⟩ l).cps.toList=jn c (l.map fun x=>x.cps.toList)
 | []=>rfl
 | [x]=>rfl
 | x::y::r=>by
  have ih:=jZ c (y::r)
  show(x++⟨#[c]⟩++Str.join ⟨#[c]⟩ (y::r)).cps.toList=_
  rw[kH,kH,ih]
  show(x.cps.toList++[c])++_=x.cps.toList++c::_
  rw[List.append_assoc]
  rfl
theorem rS {c:Nat}:∀{x y r s:List Nat},c ∉ x→c ∉ y→x++c::r=y++c::s→x=y∧r=s
 | [],[],r,s,_,_,h=>⟨rfl,(List.cons.inj h).2⟩
 | [],b::y,r,s,_,hy,h=>absurd (by rw[(List.cons.inj h).1];exact List.mem_cons_self) hy
 | a::x,[],r,s,hx,_,h=>absurd (by rw[←(List.cons.inj h).1];exact List.mem_cons_self) hx
 | a::x,b::y,r,s,hx,hy,h=>by
  obtain⟨h1,h2⟩:=List.cons.inj h
  obtain⟨e1,e2⟩:=rS (fun z=>hx (List.mem_cons_of_mem _ z)) (fun z=>hy (List.mem_cons_of_mem _ z)) h2
  exact⟨by rw[h1,e1],e2⟩
theorem Ct {c:Nat}:∀{xs ys:List (List Nat)},xs≠[]→ys≠[]→(∀x∈xs,c ∉ x)→(∀y∈ys,c ∉ y)→jn c xs=jn c ys→xs=ys
 | [],_,h,_,_,_,_=>absurd rfl h
 | _::_,[],_,h,_,_,_=>absurd rfl h
 | [x],[y],_,_,_,_,h=>by rw[show x=y from h]
 | [x],y::y2::ys,_,_,hx,_,h=>by
  have h':x=y++c::jn c (y2::ys):=h
  exact absurd (by rw[h'];simp) (hx x List.mem_cons_self)
 | x::x2::xs,[y],_,_,_,hy,h=>by
  have h':x++c::jn c (x2::xs)=y:=h
  exact absurd (by rw[←h'];simp) (hy y List.mem_cons_self)
 | x::x2::xs,y::y2::ys,_,_,hx,hy,h=>by
  obtain⟨e1,e2⟩:=rS (hx x List.mem_cons_self) (hy y List.mem_cons_self) (show x++c::jn c (x2::xs)=y++c::jn c (y2::ys) from h)
  rw[e1,Ct (by simp) (by simp) (fun z hz=>hx z (List.mem_cons_of_mem _ hz)) (fun z hz=>hy z (List.mem_cons_of_mem _ hz)) e2]
def spl (c:Nat) (x:Str):List Str:=Txt.split x ⟨#[c]⟩
theorem mV (c:Nat) (x:Str):spl c x≠[]:=by
 unfold spl Txt.split
 split
 ·simp
 ·split
  ·simp
  ·rw[StrLaws.partsBetween_eq]
   obtain⟨p,r,e⟩:=StrLaws.partsFrom_ne x (⟨#[c]⟩:Str).length 0 (Builtin.Str.occurrences x ⟨#[c]⟩ 0 x.length (x.length+1))
   rw[e];simp
theorem D8 (c:Nat) (x:Str):∀p∈spl c x,c ∉ p.cps.toList:=StrLaws.split_free x c
theorem kI (c:Nat) (x:Str):jn c ((spl c x).map fun x=>x.cps.toList)=x.cps.toList:=by
 rw[←jZ,spl,StrLaws.join_split]
theorem oA:∀{l m:List Str},(l.map fun x=>x.cps.toList)=(m.map fun x=>x.cps.toList)→l=m
 | [],[],_=>rfl
 | [],_::_,h=>by cases h
 | _::_,[],h=>by cases h
 | x::l,y::m,h=>by
  rw[List.map_cons,List.map_cons] at h
  obtain⟨h1,h2⟩:=List.cons.inj h
  rw[Cs h1,oA h2]
theorem Cu {c:Nat} {x:Str} {l:List Str} (hl:l≠[]) (hf:∀p∈l,c ∉ p.cps.toList) (e:x.cps.toList=jn c (l.map fun x=>x.cps.toList)):spl c x=l:=by
 refine oA (Ct (c:=c) ?_ ?_ ?_ ?_ ((kI c x).trans e))
 ·simpa using mV c x
 ·simpa using hl
 ·intro p hp
  obtain⟨q,hq,rfl⟩:=List.mem_map.mp hp
  exact D8 c x q hq
 ·intro p hp
  obtain⟨q,hq,rfl⟩:=List.mem_map.mp hp
  exact hf q hq
section
variable {X:Cx}
def G0:V→List V→Hp→VK→Prop:=fun x vs H Q=>∃(z y:Str) (i:Int),x=.str z∧vs=[.str y,.int i]∧Q (.bl (Txt.startswith3 z y i)) H
theorem fK:vK X "str.startswith" G0:=by
 intro pins s σ H x vs v us Q I rx rv h
 obtain⟨z,y,i,rfl,rfl,q⟩:=h
 obtain⟨t,rfl⟩:=rx
 obtain⟨u,w',rfl,ru,oV⟩:=rv.two
 obtain⟨t1,rfl⟩:=ru
 obtain⟨t2,rfl⟩:=oV
 exact SC.startswith3 ⟨.bl _,H,I,rfl,q⟩
end
theorem um {z y:Str} {k:Nat} (hy:y.length≠0):Txt.startswith3 z y (k:Int)=(y.cps.toList).isPrefixOf (z.cps.toList.drop k):=by
 unfold Txt.startswith3
 have e:fromIndex z.length (k:Int)=k:=by
  unfold fromIndex
  rw[if_neg (by omega)]
  omega
 rw[e,StrLaws.subAt_eq]
 have lz:z.cps.toList.length=z.length:=by simp[Str.length]
 have ly:y.cps.toList.length=y.length:=by simp[Str.length]
 rw[Bool.eq_iff_iff,Bool.and_eq_true,List.isPrefixOf_iff_prefix,beq_iff_eq,decide_eq_true_eq,List.prefix_iff_eq_take,ly]
 constructor
 ·rintro⟨_,h⟩
  exact h.symm
 ·intro h
  refine⟨?_,h.symm⟩
  have hl:=congrArg List.length h
  rw[List.length_take,List.length_drop,lz,ly] at hl
  omega
section
variable {X:Cx}
def AI (K:PySem.W.Frag) (neg:Bool):R2:=fun x y H Q=>∃ds ds':List Dt,aq K H x (.tup ds)∧aq K H y (.tup ds')∧(Dt.tup ds).dep≤140∧Q (.bl (if neg then !(Dt.tup ds).beq (.tup ds') else(Dt.tup ds).beq (.tup ds'))) H
theorem zu (K:PySem.W.Frag) (hu:X.A.units+180<cLine) (hK:X.K=K:=by rfl):cW X (compareOp .Eq) (AI K false):=by
 subst hK
 intro pins s σ H x y v u Q I rx ry h
 obtain⟨ds,ds',h,h',hd,q⟩:=h
 have hA:∀e:Dt,e.dep≤140→X.A.in1.units+e.dep<cLine:=fun e he=>by show X.A.units+1+e.dep<cLine;omega
 have hu':X.A.units<cLine:=by omega
 rw[aq] at h h'
 obtain⟨a,xs,rfl,q1,hd1⟩:=h
 obtain⟨b,ys,rfl,q2,hd2⟩:=h'
 cases rx
 cases ry
 exact o_ I q1 q2 hd1 hd2 hu' (fun d hm d' x y u v h1 h2 r1 r2=>
   jc I d X.A.in1 d' x y u v (hA d (by have:=Dt.fO hm;rw[Dt.dep] at hd;omega)) h1 h2 r1 r2) _ _ _ _ ⟨.bl _,H,I,rfl,by simpa[Dt.beq] using q⟩
theorem zv (K:PySem.W.Frag) (hu:X.A.units+180<cLine) (hK:X.K=K:=by rfl):cW X (compareOp .NotEq) (AI K true):=by
 subst hK
 intro pins s σ H x y v u Q I rx ry h
 obtain⟨ds,ds',h,h',hd,q⟩:=h
 have hA:∀e:Dt,e.dep≤140→X.A.in1.units+e.dep<cLine:=fun e he=>by show X.A.units+1+e.dep<cLine;omega
 have hu':X.A.units<cLine:=by omega
 rw[aq] at h h'
 obtain⟨a,xs,rfl,q1,h1⟩:=h
 obtain⟨b,ys,rfl,q2,h2⟩:=h'
 cases rx
 cases ry
 have ih:∀d∈ds,∀(d':Dt) (x y:V) (u v:Value),aq X.K H x d→aq X.K H y d'→RelV x u→RelV y v→SeqAt.EqAt X.A.in1 s u v (d.beq d'):=fun d hm d' x y u v h1 h2 r1 r2=>
  jc I d X.A.in1 d' x y u v (hA d (by have:=Dt.fO hm;rw[Dt.dep] at hd;omega)) h1 h2 r1 r2
 obtain⟨its,r1,p1,_⟩:=I.tuple q1
 obtain⟨its2,r2,p2,_⟩:=I.tuple q2
 have l1:=r1.length
 have l2:=r2.length
 have l3:=h1.length
 have l4:=h2.length
 have z:=SeqAt.RcNeAt.tuples (show s.heap.IsTuple a its.toArray from p1) (show s.heap.IsTuple b its2.toArray from p2) hu' (kD r1 r2 h1 h2 ih)
 have fin:SeqAt.RcNeAt X.A s (.ref a) (.ref b) (!Dt.dO ds ds'):=by
  by_cases hl:ds.length=ds'.length
  ·rw[show min its.toArray.size its2.toArray.size=ds.length by simp;omega,ja ds ds' hl,show(its.toArray.size == its2.toArray.size)=true by simp;omega,Bool.and_true] at z
   exact z
  ·rw[show(its.toArray.size == its2.toArray.size)=false by simp;omega,Bool.and_false] at z
   rw[jb ds ds' hl]
   exact z
 exact fin _ _ _ _ ⟨.bl _,H,I,rfl,by simpa[Dt.beq] using q⟩
end
end L2
namespace My
open PySem L2
def top (i:Nat):Stmt:=PySem.Challenge.pw_figurejudge_k83_sayings_written_and_read.main.body.getD i (.Pass ⟨0,0,0,0⟩)
abbrev dQ:Stmt:=top 5
abbrev du:Stmt:=top 6
abbrev cY:Stmt:=top 7
abbrev gi:Stmt:=top 9
abbrev fj:Stmt:=top 10
abbrev iw:Stmt:=top 11
abbrev gj:Stmt:=top 12
abbrev gk:Stmt:=top 13
abbrev eM:Stmt:=top 14
abbrev qe:Stmt:=top 21
abbrev ix:Stmt:=top 22
abbrev eE:Stmt:=top 23
abbrev gm:Stmt:=top 24
abbrev eO:Stmt:=top 25
abbrev gp:Stmt:=top 26
abbrev gq:Stmt:=top 27
abbrev dW:Stmt:=top 28
abbrev iy:Stmt:=top 29
abbrev je:Stmt:=top 30
abbrev gR:Stmt:=top 31
abbrev gT:Stmt:=top 32
abbrev iz:Stmt:=top 33
abbrev fA:Stmt:=top 34
abbrev jf:Stmt:=top 35
abbrev jg:Stmt:=top 36
abbrev eQ:Stmt:=top 37
abbrev jh:Stmt:=top 39
abbrev ji:Stmt:=top 40
abbrev eX:Stmt:=top 41
abbrev jj:Stmt:=top 42
abbrev iA:Stmt:=top 43
abbrev gU:Stmt:=top 44
abbrev eS:Stmt:=top 45
abbrev jk:Stmt:=top 46
abbrev j5:Stmt:=top 47
set_option genInjectivity false in
set_option genSizeOf false in
structure dn where
 eT:Addr
 fB:FuncData
 eG:Addr
 fq:FuncData
 eY:Addr
 fP:FuncData
 ju:Addr
 kJ:FuncData
 jv:Addr
 kK:FuncData
 lN:Addr
 nK:FuncData
 jw:Addr
 kL:FuncData
 jx:Addr
 kM:FuncData
 gb:Addr
 gV:FuncData
 j6:Addr
 jQ:FuncData
 lO:Addr
 nL:FuncData
 iP:Addr
 j_:FuncData
 fk:Addr
 fC:FuncData
 gc:Addr
 gW:FuncData
 jy:Addr
 kN:FuncData
 hU:Addr
 iQ:FuncData
 hV:Addr
 iR:FuncData
 iB:Addr
 iS:FuncData
 kO:Addr
 lP:FuncData
 iT:Addr
 jz:FuncData
 iU:Addr
 jA:FuncData
 jR:Addr
 j7:FuncData
 gI:Addr
 h9:FuncData
 kP:Addr
 lQ:FuncData
 kQ:Addr
 lR:FuncData
 gf:Addr
 gX:FuncData
 nM:Addr
 o9:FuncData
 nN:Addr
 pb:FuncData
 lT:Addr
 nO:FuncData
 nP:Addr
 pe:FuncData
 lU:Addr
 nQ:FuncData
 iV:Addr
 jB:FuncData
 ia:Addr
 jl:FuncData
 iq:Addr
 iC:FuncData
 AJ:Addr
 Cv:FuncData
structure Txt (K:PySem.W.Frag) (mg:Str→Option Value) (a:dn):Prop where
 uU:cO K "inner_parts" "inner_parts" dQ a.eT a.fB
 oB:mg "inner_parts"=some (.ref a.eT)
 oD:PySem.W.keepIn K (.ref a.eT)=true
 oE:Binds K a.fB ["saying"] []
 qL:cO K "parts_in_order" "parts_in_order" du a.eG a.fq
 qM:mg "parts_in_order"=some (.ref a.eG)
 qN:PySem.W.keepIn K (.ref a.eG)=true
 qO:Binds K a.fq ["saying"] []
 rV:cO K "told_of_parts" "told_of_parts" cY a.eY a.fP
 rW:mg "told_of_parts"=some (.ref a.eY)
 rX:PySem.W.keepIn K (.ref a.eY)=true
 rY:Binds K a.fP ["told","place","saying"] []
 x9:cO K "show_part" "show_part" gi a.ju a.kJ
 yb:mg "show_part"=some (.ref a.ju)
 yc:PySem.W.keepIn K (.ref a.ju)=true
 yd:Binds K a.kJ ["part"] []
 ye:cO K "show_term" "show_term" fj a.jv a.kK
 gs:mg "show_term"=some (.ref a.jv)
 gu:PySem.W.keepIn K (.ref a.jv)=true
 gw:Binds K a.kK ["term"] []
 Cw:cO K "show_at" "show_at" iw a.lN a.nK
 ph:mg "show_at"=some (.ref a.lN)
 pj:PySem.W.keepIn K (.ref a.lN)=true
 px:Binds K a.nK ["name","term"] []
 yf:cO K "show_atom" "show_atom" gj a.jw a.kL
 yg:mg "show_atom"=some (.ref a.jw)
 yh:PySem.W.keepIn K (.ref a.jw)=true
 yi:Binds K a.kL ["saying"] []
 yj:cO K "show_over" "show_over" gk a.jx a.kM
 yk:mg "show_over"=some (.ref a.jx)
 ym:PySem.W.keepIn K (.ref a.jx)=true
 yo:Binds K a.kM ["saying","inner"] []
 uV:cO K "show_saying" "show_saying" eM a.gb a.gV
 oF:mg "show_saying"=some (.ref a.gb)
 oG:PySem.W.keepIn K (.ref a.gb)=true
 oH:Binds K a.gV ["saying"] []
 K5:cO K "due" "due" qe a.j6 a.jQ
 nR:mg "due"=some (.ref a.j6)
 nS:PySem.W.keepIn K (.ref a.j6)=true
 nT:Binds K a.jQ ["text","at","piece"] []
 Cy:cO K "run_end" "run_end" ix a.lO a.nL
 lV:mg "run_end"=some (.ref a.lO)
 lX:PySem.W.keepIn K (.ref a.lO)=true
 lY:Binds K a.nL ["text","at","signs"] []
 wm:cO K "is_made_of" "is_made_of" eE a.iP a.j_
 pA:mg "is_made_of"=some (.ref a.iP)
 pB:PySem.W.keepIn K (.ref a.iP)=true
 pC:Binds K a.j_ ["some","signs"] []
 yp:cO K "read_name" "read_name" gm a.fk a.fC
 jC:mg "read_name"=some (.ref a.fk)
 jD:PySem.W.keepIn K (.ref a.fk)=true
 jE:Binds K a.fC ["some","signs"] []
 uW:cO K "read_figure" "read_figure" eO a.gc a.gW
 uX:mg "read_figure"=some (.ref a.gc)
 uY:PySem.W.keepIn K (.ref a.gc)=true
 uZ:Binds K a.gW ["some"] []
 yq:cO K "is_number" "is_number" gp a.jy a.kN
 yr:mg "is_number"=some (.ref a.jy)
 yt:PySem.W.keepIn K (.ref a.jy)=true
 yu:Binds K a.kN ["some"] []
 yv:cO K "read_part" "read_part" gq a.hU a.iQ
 yw:mg "read_part"=some (.ref a.hU)
 yx:PySem.W.keepIn K (.ref a.hU)=true
 yy:Binds K a.iQ ["some"] []
 yz:cO K "read_term" "read_term" dW a.hV a.iR
 yA:mg "read_term"=some (.ref a.hV)
 yB:PySem.W.keepIn K (.ref a.hV)=true
 yC:Binds K a.iR ["some"] []
 Cz:cO K "term_at" "term_at" iy a.iB a.iS
 pD:mg "term_at"=some (.ref a.iB)
 pE:PySem.W.keepIn K (.ref a.iB)=true
 pF:Binds K a.iS ["text","at"] []
 D9:cO K "row_at" "row_at" je a.kO a.lP
 wo:mg "row_at"=some (.ref a.kO)
 wq:PySem.W.keepIn K (.ref a.kO)=true
 wt:Binds K a.lP ["text","at"] []
 AK:cO K "sides_at" "sides_at" gR a.iT a.jz
 AL:mg "sides_at"=some (.ref a.iT)
 AN:PySem.W.keepIn K (.ref a.iT)=true
 AO:Binds K a.jz ["text","at"] []
 AQ:cO K "signs_at" "signs_at" gT a.iU a.jA
 AU:mg "signs_at"=some (.ref a.iU)
 AV:PySem.W.keepIn K (.ref a.iU)=true
 AW:Binds K a.jA ["text","at"] []
 CA:cO K "atom_at" "atom_at" iz a.jR a.j7
 CB:mg "atom_at"=some (.ref a.jR)
 CD:PySem.W.keepIn K (.ref a.jR)=true
 CF:Binds K a.j7 ["text","at"] []
 wu:cO K "opening_at" "opening_at" fA a.gI a.h9
 pG:mg "opening_at"=some (.ref a.gI)
 pH:PySem.W.keepIn K (.ref a.gI)=true
 pI:Binds K a.h9 ["text","at"] []
 D':cO K "opened" "opened" jf a.kP a.lQ
 Ea:mg "opened"=some (.ref a.kP)
 Eb:PySem.W.keepIn K (.ref a.kP)=true
 Ec:Binds K a.lQ ["text","at","waiting"] []
 Ed:cO K "closed" "closed" jg a.kQ a.lR
 Ee:mg "closed"=some (.ref a.kQ)
 k_closed:PySem.W.keepIn K (.ref a.kQ)=true
 Ef:Binds K a.lR ["text","at","waiting","saying"] []
 u_:cO K "read_saying" "read_saying" eQ a.gf a.gX
 ib:mg "read_saying"=some (.ref a.gf)
 ic:PySem.W.keepIn K (.ref a.gf)=true
 ie:Binds K a.gX ["text"] []
 Eg:cO K "_law_deck" "_law_deck" jh a.nM a.o9
 Eh:mg "_law_deck"=some (.ref a.nM)
 Ei:PySem.W.keepIn K (.ref a.nM)=true
 Ej:Binds K a.o9 ["_law_script","_law_many"] []
 Ek:cO K "_law_next" "_law_next" ji a.nN a.pb
 bK:mg "_law_next"=some (.ref a.nN)
 bL:PySem.W.keepIn K (.ref a.nN)=true
 bM:Binds K a.pb ["_law_deck_here","_law_many"] []
 CG:cO K "_law_names" "_law_names" eX a.lT a.nO
 uo:mg "_law_names"=some (.ref a.lT)
 uq:PySem.W.keepIn K (.ref a.lT)=true
 ur:Binds K a.nO ["_law_deck_here","_law_many","_law_great"] []
 El:cO K "_law_term" "_law_term" jj a.nP a.pe
 qP:mg "_law_term"=some (.ref a.nP)
 qQ:PySem.W.keepIn K (.ref a.nP)=true
 qR:Binds K a.pe ["_law_deck_here","_law_names_here"] []
 CH:cO K "_law_plain" "_law_plain" iA a.lU a.nQ
 CI:mg "_law_plain"=some (.ref a.lU)
 CJ:PySem.W.keepIn K (.ref a.lU)=true
 CK:Binds K a.nQ ["_law_deck_here","_law_names_here","_law_rows"] []
 AX:cO K "_law_saying" "_law_saying" gU a.iV a.jB
 iW:mg "_law_saying"=some (.ref a.iV)
 iX:PySem.W.keepIn K (.ref a.iV)=true
 iY:Binds K a.jB ["_law_deck_here","_law_names_here","_law_rows","_law_box","_law_deep"] []
 u0:cO K "_law_term_text" "_law_term_text" eS a.ia a.jl
 dh:mg "_law_term_text"=some (.ref a.ia)
 di:PySem.W.keepIn K (.ref a.ia)=true
 dj:Binds K a.jl ["_law_term_here"] []
 Em:cO K "_law_text" "_law_text" jk a.iq a.iC
 kR:mg "_law_text"=some (.ref a.iq)
 kS:PySem.W.keepIn K (.ref a.iq)=true
 kU:Binds K a.iC ["_law_saying_here"] []
 K6:cO K "law" "law" j5 a.AJ a.Cv
 Vg:mg "law"=some (.ref a.AJ)
 IA:mg "ValueError"=none
 IB:mg "list"=none
 K7:mg "all"=none
 nU:mg "int"=none
 iE:mg "range"=none
 wx:mg "sorted"=none
 yD:mg "enumerate"=none
 AY:mg "reversed"=none
 dm:mg "len"=none
 zx:mg "tuple"=none
 Fx:mg "min"=none
 rZ:mg "str"=none
 K8:mg "set"=none
 wy:mg "isinstance"=none
 zy:∃t,mg "SMALL"=some (.str "abcdefghijklmnopqrstuvwxyz" t)
 zz:∃t,mg "GREAT"=some (.str "ABCDEFGHIJKLMNOPQRSTUVWXYZ" t)
 uv:∃t,mg "FIGURES"=some (.str "0123456789" t)
 wz:∃t,mg "TERM_SIGNS"=some (.str "abcdefghijklmnopqrstuvwxyz0123456789+" t)
 tm:∃t,mg "LONGEST_NAME"=some (.int 3 t)
structure Term where
 num:Int
 parts:List (Str×Int)
def eZ (p:Str×Int):Dt:=.tup [.str p.1,.int p.2]
def Term.dt (t:Term):Dt:=.tup [.int t.num,.tup (t.parts.map eZ)]
inductive ao where
 | same (t u:Term) | less (t u:Term) | sign (a:Str) (t:Term) (s:Int) | alike (a:Str) (t:Term) (b:Str) (u:Term)
 | no (f:ao) | and (f g:ao) | or (f g:ao) | some (n:Str) (f:ao) | each (n:Str) (f:ao)
def ao.dt:ao→Dt
 | .same t u=>.tup [.str "same",t.dt,u.dt]
 | .less t u=>.tup [.str "less",t.dt,u.dt]
 | .sign a t s=>.tup [.str "sign",.str a,t.dt,.int s]
 | .alike a t b u=>.tup [.str "alike",.str a,t.dt,.str b,u.dt]
 | .no f=>.tup [.str "not",f.dt]
 | .and f g=>.tup [.str "and",f.dt,g.dt]
 | .or f g=>.tup [.str "or",f.dt,g.dt]
 | .some n f=>.tup [.str "some",.str n,f.dt]
 | .each n f=>.tup [.str "each",.str n,f.dt]
def ao.deep:ao→Nat
 | .no f=>f.deep+1
 | .and f g=>max f.deep g.deep+1
 | .or f g=>max f.deep g.deep+1
 | .some _ f=>f.deep+1
 | .each _ f=>f.deep+1
 | _=>0
theorem cS:∀ps:List (Str×Int),Dt.dP (ps.map eZ)=true
 | []=>by simp[Dt.dP]
 | p::ps=>by rw[List.map_cons,Dt.dP,cS ps];simp[eZ,Dt.bb,Dt.dP]
theorem Term.bb (t:Term):t.dt.bb=true:=by simp[Term.dt,Dt.bb,Dt.dP,cS]
theorem ao.bb (s:ao):s.dt.bb=true:=by
 induction s<;>simp[ao.dt,Dt.bb,Dt.dP,Term.bb, *]
theorem uw:∀ps:List (Str×Int),Dt.deps (ps.map eZ)≤1
 | []=>by simp[Dt.deps]
 | p::ps=>by
  have:=uw ps
  rw[List.map_cons,Dt.deps]
  simp[eZ,Dt.dep,Dt.deps]
  omega
theorem Term.dep (t:Term):t.dt.dep≤3:=by
 have:=uw t.parts
 simp[Term.dt,Dt.dep,Dt.deps]
 omega
theorem ao.dep (s:ao):s.dt.dep≤s.deep+4:=by
 induction s with
 | same t u=>have:=t.dep;have:=u.dep;simp[ao.dt,Dt.dep,Dt.deps,ao.deep];omega
 | less t u=>have:=t.dep;have:=u.dep;simp[ao.dt,Dt.dep,Dt.deps,ao.deep];omega
 | sign a t s=>have:=t.dep;simp[ao.dt,Dt.dep,Dt.deps,ao.deep];omega
 | alike a t b u=>have:=t.dep;have:=u.dep;simp[ao.dt,Dt.dep,Dt.deps,ao.deep];omega
 | no f ih=>simp[ao.dt,Dt.dep,Dt.deps,ao.deep];omega
 | and f g ih1 ih2=>simp[ao.dt,Dt.dep,Dt.deps,ao.deep];omega
 | or f g ih1 ih2=>simp[ao.dt,Dt.dep,Dt.deps,ao.deep];omega
 | some n f ih=>simp[ao.dt,Dt.dep,Dt.deps,ao.deep];omega
 | each n f ih=>simp[ao.dt,Dt.dep,Dt.deps,ao.deep];omega
def bV (H:Hp) (d:Addr):Prop:=∃ms:List Int,H d=some (.lst (ms.map V.int))
theorem bV.same {H H':Hp} {d:Addr} (h:bV H d) (s:Same H H'):bV H' d:=let ⟨ms,a⟩:=h;⟨ms,s _ _ a⟩
theorem bV.kb {H H':Hp} {d e:Addr} (h:bV H d) (s:KB e H H') (n:d≠e):bV H' d:=let ⟨ms,a⟩:=h;⟨ms,s _ _ a n⟩
theorem bV.is {H:Hp} {d:Addr} (h:bV H d):∃xs,H d=some (.lst xs):=let ⟨ms,a⟩:=h;⟨_,a⟩
theorem bV.ne {H:Hp} {d e:Addr} (h:bV H d) (n:H e=none):d≠e:=let ⟨ms,a⟩:=h;aU a n
theorem bV.kts {K:PySem.W.Frag} {H H':Hp} {d:Addr} (h:bV H d) (s:KB d H H'):eJ K H H':=let ⟨ms,a⟩:=h;KB.kts a s
def G1 (K:PySem.W.Frag):Sp:=fun vs H Q _=>∃(a:Addr) (ns:List Int),vs=[.ref a,.int 700]∧bW K H a (ns.map V.int)∧ns.length≤63∧
 ∀(D:Addr) (H':Hp),H D=none→Same H H'→bV H' D→Q (.ref D) H'
def zA:Sp:=fun vs H Q _=>∃(d:Addr) (m:Int),vs=[.ref d,.int m]∧bV H d∧0<m∧∀(r:Int) (H':Hp),0≤r→r<m→KB d H H'→bV H' d→Q (.int r) H'
section
variable {P:Program} {w:World} {K:PySem.W.Frag} {mg:Str→Option Value} {base:Heap}
theorem CL:aY ["_law_deck_here","_law_many"] ["_law_deck_here","_law_many"] (au ji):=⟨rfl,rfl,rfl,by decide+kernel,rfl,by decide+kernel,by decide+kernel⟩
theorem jS {a:dn} (T:Txt K mg a):aR P w K mg base cX 1 a.nN a.pb ["_law_deck_here","_law_many"] zA:=by
 refine T.Ek.ok CL (fun vs H Q E h=>?_) (fun cdv A outer s H vs Q E hr h=>?_)
 ·obtain⟨d,m,rfl,_⟩:=h
  rfl
 ·obtain⟨d,m,rfl,⟨ms,hd⟩,hm,k⟩:=h
  refine⟨_,(ai (bw (aJ cb (bz (bJ K) (by rfl) T.dm cz (ae (pv 0) af)) ah (aN _))
   (aw (aL ah))
   aS)
  (aw (aL (aD cR (oX PySem.F.plainAttrs_list PySem.F.slot_list_pop PySem.F.type_list_pop rC (pv 0)) (pv 1))))),?_⟩
  refine⟨_,rfl,_,ms.length,rfl,.inl ⟨_,.of hd,by rw[List.length_map]⟩,rfl,_,rfl,?_⟩
  refine dM (fun hl=>?_) (fun hl=>?_)
  ·exact k 0 H (Int.le_refl _) hm (KB.refl d H) ⟨ms,hd⟩
  ·have hl':0<ms.length:=by
    by_cases z:ms.length=0
    ·exact absurd (dI (show((ms.length:Nat):Int)=0 by omega)) hl
    ·omega
   obtain⟨x,hx⟩:∃x,ms[ms.length-1]? =some x:=⟨_,List.getElem?_eq_getElem (by omega)⟩
   refine⟨_,rfl,.inl ⟨rfl,_,.of hd⟩,d,_,V.int x,rfl,rfl,hd,?_,_,rfl,_,_,rfl,rfl,cpos hm,?_⟩
   ·rw[List.length_map,List.getElem?_map,hx];rfl
   ·exact k _ _ (Int.emod_nonneg _ (by omega)) (Int.emod_lt_of_pos _ hm) KB.write ⟨ms.dropLast,by rw[ag,List.map_dropLast]⟩
theorem cM:aY ["_law_script","_law_many","_law_deck_here","_law_k","_law_cell","_law_j","_law_number"] ["_law_script","_law_many"] (au jh):=⟨rfl,rfl,rfl,by decide+kernel,rfl,by decide+kernel,by decide+kernel⟩
theorem G2 (ms:List Int) (n:Nat):sP (ms.map V.int) none (some (n:Int))=(ms.take n).map V.int:=by
 unfold sP
 rw[show HT.cp (ms.map V.int).length 0 none=0 from rfl,HT.i']
 rw[List.drop_zero,List.length_map,Nat.sub_zero,←List.map_take]
 congr 1
 by_cases h:n≤ms.length
 ·rw[Nat.min_eq_left h]
 ·rw[Nat.min_eq_right (by omega),List.take_of_length_le (Nat.le_refl _),List.take_of_length_le (by omega)]
theorem CM {a:dn} (T:Txt K mg a):aR P w K mg base cX 1 a.nM a.o9 ["_law_script","_law_many"] (G1 K):=by
 refine T.Eg.ok cM (fun vs H Q E h=>?_) (fun cdv A outer s H vs Q E hr h=>?_)
 ·obtain⟨a,ns,rfl,_⟩:=h
  rfl
 ·obtain⟨sa,ns,rfl,hS,hns,k⟩:=h
  refine⟨_,(ai (aI (i:=2) cM.nd rfl (Or.inl rfl) (cx af))
  (ai (iK PassesOwn.never rfl (gF rfl T.iE (ae (bz (tW rfl) (by rfl) T.Fx B3 (ae ah (ae (bz (bJ K) (by rfl) T.dm cz (ae (pv 0) af)) af))) af)) (cf (i:=3) cM.nd rfl (Or.inl rfl))
   (ai (aI (i:=4) cM.nd rfl (Or.inl rfl) (aB (bH K) (pv 0) (pv 3) (fun _ _=>rfl)))
   (aw (bw (aJ KJ (pv 4) (aD Ho ah ah) (aN _))
    (aw (iK PassesOwn.never rfl (gF rfl T.iE (ae ah af)) (cf (i:=5) cM.nd rfl (Or.inl rfl))
     (aw (bw (aJ nq (pv 4) ah (aN _))
      (ai (dF (cU PySem.F.plainAttrs_list PySem.F.slot_list_append PySem.F.type_list_append cQ (pv 2) (ae (aD cR (pv 4) ah) af)))
      (aw (aI (i:=4) cM.nd rfl (Or.inl rfl) (aD qH (pv 4) ah))))
      aS))))
    (ai (aI (i:=6) cM.nd rfl (Or.inl rfl) (aD cR (aD cN (aD cN (aD gG (aD cR (pv 4) ah) ah) (aD gG ah (pv 3))) ah) ah))
    (ai (aI (i:=6) cM.nd rfl (Or.inl rfl) (aD cR (aD cN (aD gG (pv 6) (aD cN (aD qH (pv 6) ah) ah)) (aD gG ah (pv 3))) ah))
    (aw (dF (cU PySem.F.plainAttrs_list PySem.F.slot_list_extend PySem.F.type_list_extend BU (pv 2) (ae (cx (ae (aD cR (pv 6) ah) (ae (aD cR (aD cR (aD gG (pv 6) ah) ah) ah) af))) af))))))))))
  (ai (iK PassesOwn.never rfl (BH rfl T.iE (ae (bz (bJ K) (by rfl) T.dm cz (ae (pv 2) af)) (ae (pv 1) af))) (cf (i:=3) cM.nd rfl (Or.inl rfl))
   (ai (aI (i:=6) cM.nd rfl (Or.inl rfl) ah)
   (ai (bw (aJ nq (bz (bJ K) (by rfl) T.dm cz (ae (pv 0) af)) ah (aN _))
    (aw (aI (i:=6) cM.nd rfl (Or.inl rfl) (aD cR (aB (bH K) (pv 0) (aD cR (pv 3) (bz (tW rfl) (by rfl) T.Fx B3 (ae ah (ae (bz (bJ K) (by rfl) T.dm cz (ae (pv 0) af)) af)))) (fun _ _=>rfl)) ah)))
    aS)
   (ai (aI (i:=6) cM.nd rfl (Or.inl rfl) (aD cR (aD cN (aD cN (aD gG (pv 6) ah) (aD gG ah (pv 3))) ah) ah))
   (ai (aI (i:=6) cM.nd rfl (Or.inl rfl) (aD cR (aD cN (aD gG (pv 6) (aD cN (aD qH (pv 6) ah) ah)) (aD gG ah (pv 3))) ah))
   (aw (dF (cU PySem.F.plainAttrs_list PySem.F.slot_list_append PySem.F.type_list_append cQ (pv 2) (ae (aD cR (aD cR (aD gG (pv 6) ah) ah) ah) af)))))))))
  (ai (aI (i:=2) cM.nd rfl (Or.inl rfl) (fN (DQ K) (pv 2) qa (dG (pv 1))))
  (ai (dF (oX PySem.F.plainAttrs_list PySem.F.slot_list_reverse PySem.F.type_list_reverse Ak (pv 2)))
  (aw (aL (pv 2)))))))),?_⟩
  refine⟨by decide,fun d hd=>?_⟩
  have s0:Same H (upd H d (.lst [])):=Same.new hd
  have En:∀{H':Hp},Same H H'→Dy K (.ref sa) H' ns.length:=fun s=>.inl ⟨_,s.seq hS,by rw[List.length_map]⟩
  have RY:∀x:Int,0≤x % 2147483629∧x % 2147483629<2147483629:=fun x=>⟨Int.emod_nonneg _ (by decide),Int.emod_lt_of_pos _ (by decide)⟩
  have IC:∀x y:Int,Ad (x % 2147483629) y:=fun x y=>.inl (by have:=RY x;constructor<;>omega)
  refine⟨_,rfl,_,ns.length,rfl,En s0,63,(ns.length:Int),rfl,_,rfl,by split<;>omega,by split<;>omega,
   jM (fun i σ H'=>∃(ms:List Int) (v3 v4 v5 v6:Option V),σ=[some (.ref sa),some (.int 700),some (.ref d),v3,v4,v5,v6]∧Same H H'∧H' d=some (.lst (ms.map V.int))∧ms.length≤60*i)
    ⟨[],none,none,none,none,rfl,s0,ag,by simp⟩ ?_ ?_⟩
  ·rintro i σ H1 hi ⟨ms,v3,v4,v5,v6,rfl,s1,e1,hl⟩
   have hi':i<ns.length:=by split at hi<;>omega
   have Vk:i<63:=by split at hi<;>omega
   obtain⟨c,hc⟩:∃c,ns[i]? =some c:=⟨_,List.getElem?_eq_getElem hi'⟩
   refine⟨_,rfl,_,rfl,sa,_,_,V.int c,rfl,rfl,s1.seq hS,?_,?_⟩
   ·rw[show(0:Int)+(i:Int)=(i:Int) by omega]
    exact aj (by rw[List.getElem?_map,hc];rfl)
   refine⟨_,rfl,_,_,rfl,rfl,⟨by decide,by decide,by decide⟩,_,_,rfl,rfl,_,rfl,?_⟩
   refine dM (fun _=>?_) (fun _=>?_)
   ·refine⟨(60:Int),rfl,by decide,by decide,jM (fun j σ H2=>∃(ms:List Int) (c:Int) (v5 v6:Option V),σ=[some (.ref sa),some (.int 700),some (.ref d),some (.int (0+(i:Int))),some (.int c),v5,v6]∧Same H H2∧H2 d=some (.lst (ms.map V.int))∧ms.length≤60*i+j)
     ⟨ms,c,v5,v6,rfl,s1,e1,hl⟩ ?_ ?_⟩
    ·rintro j σ H2 hj ⟨ms,c,v5,v6,rfl,s2,e2,hl2⟩
     have hj':j<60:=hj
     refine⟨_,rfl,_,_,rfl,rfl,_,rfl,?_⟩
     refine dM (fun _=>?_) (fun _=>?_)
     ·refine⟨_,rfl,.inl ⟨rfl,_,.of e2⟩,_,rfl,_,_,rfl,rfl,cpos (by decide),d,_,_,rfl,rfl,e2,?_,?_⟩
      ·rw[List.length_map];exact Nat.lt_of_lt_of_le (show ms.length<10000 by omega) (by decide)
      refine⟨_,rfl,_,_,rfl,rfl,⟨by decide,by decide⟩,ms++[c % 720720],c / 720720,_,_,rfl,s2.kbn hd KB.write,?_,?_⟩
      ·rw[ag,List.map_append];rfl
      ·rw[List.length_append];show ms.length+1≤_;omega
     ·exact⟨ms,c,_,_,rfl,s2,e2,by omega⟩
    ·rintro σ H2 ⟨ms,c,v5,v6,rfl,s2,e2,hl2⟩
     have hl2':ms.length≤60*i+60:=hl2
     exact⟨ms,_,_,_,_,rfl,s2,e2,by omega⟩
   ·refine⟨_,rfl,_,_,rfl,rfl,cpos (by decide),_,_,rfl,rfl,.inr (by decide),_,rfl,_,_,rfl,rfl,.inl (by decide),_,_,rfl,rfl,_,_,rfl,rfl,_,_,rfl,rfl,cpos (by decide),?_⟩
    refine⟨_,rfl,_,rfl,_,_,rfl,rfl,⟨by decide,by decide⟩,_,_,rfl,rfl,_,_,rfl,rfl,IC _ _,_,rfl,_,_,rfl,rfl,.inl (by decide),_,_,rfl,rfl,_,_,rfl,rfl,cpos (by decide),?_⟩
    refine⟨_,rfl,.inl ⟨rfl,_,.of e1⟩,_,rfl,_,_,rfl,rfl,cpos (by decide),_,rfl,_,_,rfl,rfl,.inr (by decide),_,_,rfl,rfl,cpos (by decide),_,_,rfl,rfl,cpos (by decide),by show 2≤sizeLine;decide,fun L hL=>?_⟩
    have RZ:d≠L:=aU e1 hL
    refine⟨d,L,_,_,rfl,rfl,by rw[br RZ];exact e1,ag,?_,?_⟩
    ·rw[List.length_map];exact Nat.le_trans (show ms.length+2≤10000 by omega) (by decide)
    refine⟨ms++[?x1,?x2],_,_,_,_,rfl,(s1.trans (Same.new hL)).kbn hd KB.write,?eq,?len⟩
    case eq=>rw[ag,List.map_append];rfl
    case len=>rw[List.length_append];show ms.length+2≤_;omega
  ·rintro σ H1 ⟨ms,v3,v4,v5,v6,rfl,s1,e1,hl⟩
   have hl':ms.length≤3780:=by split at hl<;>omega
   refine⟨_,rfl,_,ms.length,rfl,.inl ⟨_,.of e1,by rw[List.length_map]⟩,_,rfl,(ms.length:Int),700,rfl,by omega,jM (fun j σ H'=>∃(wA:List Int) (v3 v4 v5 v6:Option V),σ=[some (.ref sa),some (.int 700),some (.ref d),v3,v4,v5,v6]∧Same H H'∧H' d=some (.lst (wA.map V.int))∧wA.length=ms.length+j)
    ⟨ms,v3,v4,v5,v6,rfl,s1,e1,rfl⟩ ?_ ?_⟩
   ·rintro j σ H2 hj ⟨wA,v3,v4,v5,v6,rfl,s2,e2,hl2⟩
    dsimp only[iJ]
    refine B9 ?_
    refine vX (t:=sM _ _ _) (u:=qF _ _) (fun σ H'=>∃(x:Int),σ=[some (.ref sa),some (.int 700),some (.ref d),some (.int ((ms.length:Int)+(j:Int))),v4,v5,some (.int x)]∧H'=H2) ?_ (fun rest=>?_)
    ·rintro σ H3 ⟨x,rfl,rfl⟩
     refine⟨_,rfl,_,_,rfl,rfl,.inr (by decide),_,rfl,_,_,rfl,rfl,.inl (by decide),_,_,rfl,rfl,_,_,rfl,rfl,_,_,rfl,rfl,cpos (by decide),?_⟩
     refine⟨_,rfl,_,rfl,_,_,rfl,rfl,⟨by decide,by decide⟩,_,_,rfl,rfl,_,_,rfl,rfl,IC _ _,_,rfl,_,_,rfl,rfl,.inl (by decide),_,_,rfl,rfl,_,_,rfl,rfl,cpos (by decide),?_⟩
     refine⟨_,rfl,.inl ⟨rfl,_,.of e2⟩,_,rfl,_,_,rfl,rfl,.inr (by decide),_,_,rfl,rfl,cpos (by decide),_,_,rfl,rfl,cpos (by decide),d,_,_,rfl,rfl,e2,?_,?_⟩
     ·rw[List.length_map];exact Nat.lt_of_lt_of_le (show wA.length<10000 by omega) (by decide)
     refine⟨wA++[?y1],_,_,_,_,rfl,s2.kbn hd KB.write,?eq2,?len2⟩
     case eq2=>rw[ag,List.map_append];rfl
     case len2=>rw[List.length_append,hl2];rfl
    ·refine⟨_,rfl,_,ns.length,rfl,En s2,_,_,rfl,rfl,_,rfl,?_⟩
     refine dM (fun hp=>?_) (fun _=>rest _ _ ⟨11,rfl,rfl⟩)
     have hp':0<ns.length:=by have:=of_decide_eq_true hp;omega
     refine⟨_,rfl,_,rfl,_,rfl,_,ns.length,rfl,En s2,63,(ns.length:Int),rfl,_,_,rfl,rfl,cpos (by split<;>omega),?_⟩
     obtain⟨q,hq1,hq2⟩:∃q:Nat,((ms.length:Int)+(j:Int)) % (if(ns.length:Int)<63 then(ns.length:Int) else 63)=(q:Int)∧q<ns.length:=by
      refine⟨(((ms.length:Int)+(j:Int)) % (if(ns.length:Int)<63 then(ns.length:Int) else 63)).toNat,?_,?_⟩
      ·have:=Int.emod_nonneg ((ms.length:Int)+(j:Int)) (show(if(ns.length:Int)<63 then(ns.length:Int) else 63)≠0 by split<;>omega)
       omega
      ·have:=Int.emod_nonneg ((ms.length:Int)+(j:Int)) (show(if(ns.length:Int)<63 then(ns.length:Int) else 63)≠0 by split<;>omega)
       have h2:=Int.emod_lt_of_pos ((ms.length:Int)+(j:Int)) (show(0:Int)<(if(ns.length:Int)<63 then(ns.length:Int) else 63) by split<;>omega)
       split at h2<;>split<;>omega
     obtain⟨c,hc⟩:∃c,ns[q]? =some c:=⟨_,List.getElem?_eq_getElem hq2⟩
     refine⟨sa,_,_,V.int c,rfl,rfl,s2.seq hS,?_,_,_,rfl,rfl,cpos (by decide),rest _ _ ⟨_,rfl,rfl⟩⟩
     rw[hq1]
     exact aj (by rw[List.getElem?_map,hc];rfl)
   ·rintro σ H2 ⟨wA,v3,v4,v5,v6,rfl,s2,e2,hl2⟩
    refine⟨_,rfl,_,rfl,_,rfl,d,_,rfl,.of e2,fun D hD=>?_⟩
    rw[show(some (700:Int))=some ((700:Nat):Int) from rfl,G2]
    refine⟨_,rfl,.inl ⟨rfl,_,.of ag⟩,D,_,rfl,rfl,ag,?_⟩
    exact⟨_,rfl,k D _ (s2.free hD) ((s2.trans (Same.new hD)).kbn (s2.free hD) KB.write) ⟨(wA.take 700).reverse,by rw[ag,List.map_reverse]⟩⟩
def abc (g:Bool):Str:=if g then "ABCDEFGHIJKLMNOPQRSTUVWXYZ" else "abcdefghijklmnopqrstuvwxyz"
theorem tq (g:Bool):(abc g).cps.toList.length=26:=by cases g<;>decide+kernel
theorem wB (g:Bool):(abc g).length≤sizeLine:=by
 have:(abc g).length=26:=by cases g<;>decide+kernel
 rw[this];decide
theorem CN (g:Bool) (r:Int) (h0:0≤r) (h1:r<26):∃c,j2 (abc g).cps.toList r=some c:=by
 obtain⟨n,hn⟩:∃n:Nat,r=(n:Int):=⟨r.toNat,by omega⟩
 subst hn
 exact⟨_,aj (List.getElem?_eq_getElem (by rw[tq];omega))⟩
theorem wC (a y:PySem.Str):(a++y).cps.toList=a.cps.toList++y.cps.toList:=by
 show(a.cps++y.cps).toList=_
 rw[Array.toList_append]
def iu (g:Bool) (x:Int):Nat:=(abc g).cps.toList.getD x.toNat 0
theorem zB {g:Bool} {x:Int} {c:Nat} (h0:0≤x) (h1:x<26) (h:j2 (abc g).cps.toList x=some c):c=iu g x:=by
 obtain⟨n,rfl⟩:∃n:Nat,x=(n:Int):=⟨x.toNat,by omega⟩
 have e:j2 (abc g).cps.toList (n:Int)=(abc g).cps.toList[n]? :=by
  have:=List.getElem?_eq_getElem (l:=(abc g).cps.toList) (i:=n) (by rw[tq];omega)
  rw[aj this,this]
 rw[e] at h
 unfold iu
 rw[Int.toNat_natCast,List.getD_eq_getElem?_getD,h]
 rfl
theorem Eo {g:Bool} {x y:Int} (x0:0≤x) (x1:x<26) (y0:0≤y) (y1:y<26) (h:iu g x=iu g y):x=y:=by
 have key:∀g:Bool,∀i j:Fin 26,(abc g).cps.toList.getD i.val 0=(abc g).cps.toList.getD j.val 0→i=j:=by decide+kernel
 have:=key g ⟨x.toNat,by omega⟩ ⟨y.toNat,by omega⟩ h
 have e:x.toNat=y.toNat:=Fin.mk.inj this
 omega
def qz (rs:List Int) (pl:Int) (i j:Nat):Int:=(rs.getD j 0+(i:Int)*(if(j:Int)=pl then 1 else 0)) % 26
theorem mW (rs:List Int) (pl:Int) (i j:Nat):0≤qz rs pl i j∧qz rs pl i j<26:=⟨Int.emod_nonneg _ (by decide),Int.emod_lt_of_pos _ (by decide)⟩
def cw (g:Bool) (rs:List Int) (pl:Int) (i:Nat):List Nat:=(List.range rs.length).map fun j=>iu g (qz rs pl i j)
theorem pJ (g:Bool) (rs:List Int) (pl:Int) (i:Nat):(cw g rs pl i).length=rs.length:=by simp[cw]
theorem vd {g:Bool} {rs:List Int} {pl:Int} {i j:Nat} (h:j<rs.length):(cw g rs pl i)[j]? =some (iu g (qz rs pl i j)):=by
 unfold cw
 rw[List.getElem?_map,List.getElem?_range h]
 rfl
theorem wD {g:Bool} {rs:List Int} {pl:Int} {i k:Nat} (p0:0≤pl) (p1:pl<rs.length) (hi:i<26) (hk:k<26) (h:cw g rs pl i=cw g rs pl k):i=k:=by
 have hp:pl.toNat<rs.length:=by omega
 have e1:=vd (g:=g) (pl:=pl) (i:=i) hp
 rw[h,vd hp] at e1
 have e2:=Eo (mW rs pl k _).1 (mW rs pl k _).2 (mW rs pl i _).1 (mW rs pl i _).2 (Option.some.inj e1)
 unfold qz at e2
 rw[if_pos (by omega)] at e2
 omega
theorem Ep {g:Bool} {rs:List Int} {pl:Int} {i k j:Nat} (h:(j:Int)≠pl) (hj:j<rs.length):(cw g rs pl i)[j]? =(cw g rs pl k)[j]? :=by
 rw[vd hj,vd hj]
 unfold qz
 rw[if_neg h,Int.mul_zero,Int.mul_zero]
def kX:List (List Nat):=[("not":Str).cps.toList,("and":Str).cps.toList,("or":Str).cps.toList]
def fw (g:Bool) (rs:List Int) (pl lo:Int) (i:Nat):List Nat:=
 if cw g rs pl i∈kX then(cw g rs pl i).dropLast else if lo=1∧i % 2=1∧rs.length<3 then cw g rs pl i++[iu g 16] else cw g rs pl i
theorem IE {g:Bool} {rs:List Int} {pl lo:Int} {i k:Nat} (l0:0<rs.length) (p0:0≤pl) (p1:pl<rs.length) (hi:i<26) (hk:k<26) (h:fw g rs pl lo i=fw g rs pl lo k):i=k:=by
 have li:=pJ g rs pl i
 have lk:=pJ g rs pl k
 unfold fw at h
 by_cases ni:cw g rs pl i∈kX
 ·rw[if_pos ni] at h
  by_cases nk:cw g rs pl k∈kX
  ·rw[if_pos nk] at h
   refine wD (g:=g) p0 p1 hi hk ?_
   unfold kX at ni nk
   simp only[List.mem_cons,List.not_mem_nil,or_false] at ni nk
   have at_:∀j:Nat,(j:Int)≠pl→j<rs.length→(cw g rs pl i)[j]? =(cw g rs pl k)[j]? :=fun j a b=>Ep a b
   rcases ni with a | a | a<;>rcases nk with b | b | b<;>first | (rw[a,b];done) | skip
   all_goals (exfalso;rw[a,b] at at_;rw[a] at li;rw[b] at lk)
   ·have l3:rs.length=3:=by rw[←li];decide
    have h0:=at_ 0
    have h1:=at_ 1
    by_cases z:pl=0
    ·exact absurd (h1 (by omega) (by omega)) (by decide)
    ·exact absurd (h0 (by omega) (by omega)) (by decide)
   ·rw[←lk] at li;exact absurd li (by decide)
   ·have l3:rs.length=3:=by rw[←li];decide
    have h0:=at_ 0
    have h1:=at_ 1
    by_cases z:pl=0
    ·exact absurd (h1 (by omega) (by omega)) (by decide)
    ·exact absurd (h0 (by omega) (by omega)) (by decide)
   ·rw[←lk] at li;exact absurd li (by decide)
   ·rw[←lk] at li;exact absurd li (by decide)
   ·rw[←lk] at li;exact absurd li (by decide)
  ·rw[if_neg nk] at h
   have:=congrArg List.length h
   rw[List.length_dropLast,li] at this
   split at this
   ·rw[List.length_append,lk] at this;simp at this<;>omega
   ·rw[lk] at this;omega
 ·rw[if_neg ni] at h
  by_cases nk:cw g rs pl k∈kX
  ·rw[if_pos nk] at h
   have:=congrArg List.length h
   rw[List.length_dropLast,lk] at this
   split at this
   ·rw[List.length_append,li] at this;simp at this<;>omega
   ·rw[li] at this;omega
  ·rw[if_neg nk] at h
   split at h<;>split at h
   ·exact wD p0 p1 hi hk (List.append_cancel_right h)
   ·have:=congrArg List.length h;rw[List.length_append,li,lk] at this;simp at this
   ·have:=congrArg List.length h;rw[List.length_append,li,lk] at this;simp at this
   ·exact wD p0 p1 hi hk h
theorem AZ:∀l:List Nat,(Txt.join ("":Str) (l.map fun c=>(⟨#[c]⟩:Str))).cps.toList=l:=by
 intro l
 unfold Txt.join
 rw[StrLaws.glued_eq_join]
 induction l with
 | nil=>rfl
 | cons c l ih=>
  cases l with
  | nil=>rfl
  | cons c2 l=>
   rw[List.map_cons,List.map_cons] at*
   show((⟨#[c]⟩:Str)++("":Str)++Str.join "" ((⟨#[c2]⟩:Str)::l.map fun c=>(⟨#[c]⟩:Str))).cps.toList=_
   rw[wC,wC,ih]
   rfl
theorem wF {α:Type} {l:List α}:l.Nodup↔∀i j:Nat,i<j→j<l.length→l[i]? ≠l[j]? :=by
 unfold List.Nodup
 rw[List.pairwise_iff_getElem]
 constructor
 ·intro h i j hij hj e
  rw[List.getElem?_eq_getElem (by omega),List.getElem?_eq_getElem hj] at e
  exact h i j (by omega) hj hij (Option.some.inj e)
 ·intro h i j hi hj hij e
  exact h i j hij hj (by rw[List.getElem?_eq_getElem hi,List.getElem?_eq_getElem hj,e])
theorem CO {α:Type} {l:List α} (h:l.Nodup) {y:α} (hy:y ∉ l) (q:Nat):(l.set q y).Nodup:=by
 rw[wF] at h ⊢
 intro i j hij hj
 rw[List.length_set] at hj
 intro e
 rw[List.getElem?_set,List.getElem?_set] at e
 have hm:∀t,t<l.length→l[t]? ≠some y:=fun t _ z=>hy (List.mem_of_getElem? z)
 by_cases a:q=i<;>by_cases b:q=j
 ·omega
 ·rw[if_pos a,if_neg b,if_pos (by omega)] at e;exact hm j hj e.symm
 ·rw[if_neg a,if_pos b,if_pos (by omega)] at e;exact hm i (by omega) e
 ·rw[if_neg a,if_neg b] at e;exact h i j hij hj e
def lZ (g:Bool) (rs:List Int) (pl lo:Int) (i:Nat):Str:=⟨(fw g rs pl lo i).toArray⟩
theorem Er {g:Bool} {rs:List Int} {pl lo:Int} (l0:0<rs.length) (p0:0≤pl) (p1:pl<rs.length) (m:Nat) (hm:m≤26):((List.range m).map (lZ g rs pl lo)).Nodup:=by
 rw[wF]
 intro i j hij hj e
 rw[List.length_map,List.length_range] at hj
 rw[List.getElem?_map,List.getElem?_map,List.getElem?_range (by omega),List.getElem?_range hj] at e
 have e1:lZ g rs pl lo i=lZ g rs pl lo j:=Option.some.inj e
 have e2:fw g rs pl lo i=fw g rs pl lo j:=by
  have:=congrArg (fun z:Str=>z.cps.toList) e1
  simpa[lZ] using this
 have:=IE l0 p0 p1 (by omega) (by omega) e2
 omega
theorem iF {x y:Str} (h:x.cps.toList=y.cps.toList):x=y:=by
 obtain⟨a⟩:=x
 obtain⟨b⟩:=y
 have:a=b:=Array.toList_inj.mp h
 rw[this]
theorem kY (z:Str):∀l:List Str,inV (.str z) (l.map V.str)=decide (z∈l)
 | []=>by simp[inV]
 | x::l=>by
  have ih:=kY z l
  unfold inV at ih ⊢
  rw[List.map_cons,List.any_cons,ih]
  show((x == z)||_)=_
  by_cases e:x=z
  ·subst e;simp
  ·have e':¬z=x:=fun q=>e q.symm
   simp[e,e']
theorem qf {z:Str} {l:List Nat} (e:z.cps.toList=l):z∈(["not","and","or"]:List Str)↔l∈kX:=by
 unfold kX
 subst e
 simp only[List.mem_cons,List.not_mem_nil,or_false]
 constructor
 ·rintro(rfl | rfl | rfl)
  ·exact .inl rfl
  ·exact .inr (.inl rfl)
  ·exact .inr (.inr rfl)
 ·rintro(h | h | h)
  ·exact .inl (iF h)
  ·exact .inr (.inl (iF h))
  ·exact .inr (.inr (iF h))
theorem A_ {z:Str} (h:z∈(["not","and","or"]:List Str)):(Txt.slice z none (some (-1))).cps.toList=z.cps.toList.dropLast:=by
 simp only[List.mem_cons,List.not_mem_nil,or_false] at h
 rcases h with rfl | rfl | rfl<;>decide+kernel
theorem IG {g:Bool} {rs:List Int} {pl lo:Int} {i:Nat} {z:Str} (e:z.cps.toList=cw g rs pl i) (h:z∈(["not","and","or"]:List Str)):Txt.slice z none (some (-1))=lZ g rs pl lo i:=by
 refine iF ?_
 rw[A_ h,e]
 show _=(fw g rs pl lo i).toArray.toList
 unfold fw
 rw[if_pos ((qf e).mp h)]
theorem IH {g:Bool} {rs:List Int} {pl lo:Int} {i:Nat} {z:Str} {c:Nat} (e:z.cps.toList=cw g rs pl i) (h:z ∉ (["not","and","or"]:List Str)) (hc:c=iu g 16) (h1:lo=1) (h2:i % 2=1) (h3:z.length<3):z++(⟨#[c]⟩:Str)=lZ g rs pl lo i:=by
 refine iF ?_
 rw[wC,e]
 show _=(fw g rs pl lo i).toArray.toList
 unfold fw
 have l:rs.length<3:=by rw[←pJ g rs pl i,←e];exact h3
 rw[if_neg (fun q=>h ((qf e).mpr q)),if_pos ⟨h1,h2,l⟩,hc]
theorem tu {g:Bool} {rs:List Int} {pl lo:Int} {i:Nat} {z:Str} (e:z.cps.toList=cw g rs pl i) (h:z ∉ (["not","and","or"]:List Str)) (h1:¬(lo=1∧i % 2=1∧z.length<3)):z=lZ g rs pl lo i:=by
 refine iF ?_
 rw[e]
 show _=(fw g rs pl lo i).toArray.toList
 unfold fw
 have l:rs.length=z.length:=by rw[←pJ g rs pl i,←e];rfl
 rw[if_neg (fun q=>h ((qf e).mpr q)),if_neg (by rw[l];exact h1)]
def seven:List Str:=["ora","orb","ort","orz","orr","oro","ors"]
theorem drop_one {n:Str}:∀(cs:List Str),cs.Nodup→cs.length≤(cs.filter fun c=> !decide (n=c)).length+1
 | [],_=>by simp
 | c::cs,h=>by
  rw[List.nodup_cons] at h
  by_cases e:n=c
  ·subst e
   have:(cs.filter fun c=> !decide (n=c))=cs:=by
    rw[List.filter_eq_self]
    intro x hx
    have:n≠x:=fun z=>h.1 (z▸hx)
    simp[this]
   simp[this]
  ·have:=drop_one (n:=n) cs h.2
   simp[e]
   omega
theorem enough:∀(ns cs:List Str),cs.Nodup→cs.length≤(cs.filter fun c=> !(inV (.str c) (ns.map V.str))).length+ns.length
 | [],cs,_=>by
  have:(cs.filter fun c=> !(inV (.str c) (([]:List Str).map V.str)))=cs:=by
   rw[List.filter_eq_self];intro x hx;rfl
  rw[this];simp
 | n::ns,cs,h=>by
  have h1:=enough ns cs h
  have h2:=drop_one (n:=n) (cs.filter fun c=> !(inV (.str c) (ns.map V.str))) (h.sublist List.filter_sublist)
  have e:(cs.filter fun c=> !(inV (.str c) ((n::ns).map V.str)))=(cs.filter fun c=> !(inV (.str c) (ns.map V.str))).filter fun c=> !decide (n=c):=by
   rw[List.filter_filter]
   congr 1
   funext c
   unfold inV
   rw[List.map_cons,List.any_cons]
   show(!((n == c)||_))=_
   rw[Bool.not_or]
   congr 1
   first | done | (by_cases z:n=c<;>simp[z])
  rw[e,List.length_cons]
  omega
def nV (g:Bool) (x:Str):Prop:=1≤x.length∧x.length≤3∧(∀c∈x.cps.toList,c∈(abc g).cps.toList)∧x ∉ (["not","and","or"]:List Str)
theorem wG {g:Bool} {x:Int} (x0:0≤x) (x1:x<26):iu g x∈(abc g).cps.toList:=by
 unfold iu
 rw[List.getD_eq_getElem?_getD,List.getElem?_eq_getElem (by rw[tq];omega)]
 exact List.getElem_mem _
theorem wH {g:Bool} {rs:List Int} {pl:Int} {i:Nat}:∀c∈cw g rs pl i,c∈(abc g).cps.toList:=by
 intro c hc
 unfold cw at hc
 obtain⟨j,_,rfl⟩:=List.mem_map.mp hc
 exact wG (mW rs pl i j).1 (mW rs pl i j).2
theorem K9 {g:Bool} {rs:List Int} {pl lo:Int} {i:Nat} (l0:0<rs.length) (l3:rs.length≤3):nV g (lZ g rs pl lo i):=by
 have ec:(lZ g rs pl lo i).cps.toList=fw g rs pl lo i:=by unfold lZ;simp
 have el:(lZ g rs pl lo i).length=(fw g rs pl lo i).length:=by rw[←ec];simp[Str.length]
 have li:=pJ g rs pl i
 have hn:(lZ g rs pl lo i∈(["not","and","or"]:List Str))↔fw g rs pl lo i∈kX:=qf ec
 unfold nV
 rw[hn,ec,el]
 unfold fw
 split
 ·rename_i ni
  refine⟨?_,?_,fun c hc=>wH c ((List.dropLast_sublist _).subset hc),?_⟩
  ·unfold kX at ni
   simp only[List.mem_cons,List.not_mem_nil,or_false] at ni
   rcases ni with a | a | a<;>(rw[a];decide)
  ·rw[List.length_dropLast,li];omega
  ·unfold kX at ni
   simp only[List.mem_cons,List.not_mem_nil,or_false] at ni
   rcases ni with a | a | a<;>(rw[a];decide)
 ·rename_i ni
  split
  ·rename_i h
   refine⟨by rw[List.length_append];simp,by rw[List.length_append,li];simp;omega,fun c hc=>?_,fun z=>?_⟩
   ·rcases List.mem_append.mp hc with q | q
    ·exact wH c q
    ·rw[List.mem_singleton.mp q];exact wG (by decide) (by decide)
   ·have e:=congrArg (fun l:List Nat=>l.getLast?) (rfl:cw g rs pl i++[iu g 16]=cw g rs pl i++[iu g 16])
    have h1:∀l∈kX,l.getLast? ≠some (iu g 16):=by cases g<;>decide
    exact h1 _ z (by simp)
  ·exact⟨by rw[li];omega,by rw[li];omega,wH,ni⟩
theorem Es:∀y∈seven,nV false y:=by
 unfold nV seven
 decide+kernel
def G3:Sp:=fun vs H Q _=>∃(d:Addr) (m:Nat) (g:Bool),vs=[.ref d,.int m,.bl g]∧bV H d∧m≤6∧
 ∀(N:Addr) (ss:List Str) (H':Hp),H N=none→KB d H H'→bV H' d→H' N=some (.lst (ss.map V.str))→ss.length=m→ss.Nodup→(∀x∈ss,nV g x)→Q (.ref N) H'
theorem cZ:aY ["_law_deck_here","_law_many","_law_great","_law_letters","_law_base","_law_place","_law_longer","_law_names_here","_law_k","_law_word","_law_some"] ["_law_deck_here","_law_many","_law_great"] (au eX):=⟨rfl,rfl,rfl,by decide+kernel,rfl,by decide+kernel,by decide+kernel⟩
theorem A0 {a:dn} (T:Txt K mg a):aR P w K mg base cX 2 a.lT a.nO ["_law_deck_here","_law_many","_law_great"] G3:=by
 have bA:=jS (P:=P) (w:=w) (base:=base) T
 refine T.CG.ok cZ (fun vs H Q E h=>?_) (fun cdv A outer s H vs Q E hr h=>?_)
 ·obtain⟨d,m,g,rfl,_⟩:=h
  rfl
 ·obtain⟨d,m,g,rfl,hd,hm,k⟩:=h
  have bh:aP 1 _:=hr
  refine⟨_,(ai (aI (i:=3) cZ.nd rfl (Or.inr rfl) (aB (bH K) (cx (ae ay (ae ay af))) (cL lK (by rfl) T.nU kC (ae (pv 2) af)) (fun _ _=>rfl)))
  (ai (aI (i:=4) cZ.nd rfl (Or.inr rfl) (mP (bF.mk' (esc:=au eX) (N:=["_law_deck_here","_law_many","_law_great","_law_letters","_law_base","_law_place","_law_longer","_law_names_here","_law_k","_law_word","_law_some"]) (own:=["_law_k"]) (bO:=["_law_deck_here"]) (cy:=[0]) rfl rfl (by decide+kernel)) rfl (gF rfl T.iE (ae (aD cN ah (av bA bh rfl T.bK T.bL T.bM .nil aM (ae (pv 0) (ae ah af)))) af)) (fun _ _ _ _=>(cf (i:=0) (show List.Nodup (["_law_k","_law_deck_here"]:List Str) by decide+kernel) rfl (Or.inl rfl))) (fun _ _ _ _=>gH) (fun _ _ _ _=>(av bA bh rfl T.bK T.bL T.bM .nil aM (ae (pv 1) (ae ah af))))))
  (ai (aI (i:=5) cZ.nd rfl (Or.inr rfl) (av bA bh rfl T.bK T.bL T.bM .nil aM (ae (pv 0) (ae (bz (bJ K) (by rfl) T.dm cz (ae (pv 4) af)) af))))
  (ai (aI (i:=6) cZ.nd rfl (Or.inl rfl) (av bA bh rfl T.bK T.bL T.bM .nil aM (ae (pv 0) (ae ah af))))
  (ai (aI (i:=7) cZ.nd rfl (Or.inr rfl) (cx af))
  (ai (iK PassesOwn.never rfl (gF rfl T.iE (ae (pv 1) af)) (cf (i:=8) cZ.nd rfl (Or.inr rfl))
   (ai (aI (i:=9) cZ.nd rfl (Or.inl rfl) (cU PySem.F.plainAttrs_str PySem.F.slot_str_join PySem.F.type_str_join (qI K) ay (ae (mP (bF.mk' (esc:=au eX) (N:=["_law_deck_here","_law_many","_law_great","_law_letters","_law_base","_law_place","_law_longer","_law_names_here","_law_k","_law_word","_law_some"]) (own:=["_law_j"]) (bO:=["_law_letters","_law_base","_law_k","_law_place"]) (cy:=[3,4,8,5]) rfl rfl (by decide+kernel)) rfl (gF rfl T.iE (ae (bz (bJ K) (by rfl) T.dm cz (ae (pv 4) af)) af)) (fun _ _ _ _=>(cf (i:=0) (show List.Nodup (["_law_j","_law_letters","_law_base","_law_k","_law_place"]:List Str) by decide+kernel) rfl (Or.inl rfl))) (fun _ _ _ _=>gH) (fun _ _ _ _=>(aB oW (pv 1) (aD cR (aD cN (aB (bH K) (pv 2) (pv 0) (fun _ _=>rfl)) (aD gG (pv 3) (cL lK (by rfl) T.nU kC (ae (gg cb (pv 0) (pv 4) (aN _)) af)))) ah) (fun _ _=>rfl)))) af)))
   (ai (bw (aJ (mQ K) (pv 9) (cx (ae ay (ae ay (ae ay af)))) (by with_unfolding_all rfl))
    (aw (aI (i:=9) cZ.nd rfl (Or.inl rfl) (fN jN (pv 9) qa (dG (Ab vE ah)))))
    (aw (bw (PW.pt (kr (aJ cb (pv 6) ah (aN _)) (kr (aJ cb (aD cR (pv 8) ah) ah (aN _)) (mG (aJ p9 (bz (bJ K) (by rfl) T.dm cz (ae (pv 9) af)) ah (aN _))))))
     (aw (aI (i:=9) cZ.nd rfl (Or.inl rfl) (aD aO (pv 9) (aB oW (pv 3) ah (fun _ _=>rfl)))))
     aS)))
   (aw (dF (cU PySem.F.plainAttrs_list PySem.F.slot_list_append PySem.F.type_list_append cQ (pv 7) (ae (pv 9) af)))))))
  (ai (bw (PW.pt (kr (aJ nq (pv 1) ah (aN _)) (kr (ku (cI (pv 2) (fun _=>rfl))) (mG (aJ cb (av bA bh rfl T.bK T.bL T.bM .nil aM (ae (pv 0) (ae ah af))) ah (aN _))))))
   (ai (nC (i:=10) (bF.mk' (esc:=au eX) (N:=["_law_deck_here","_law_many","_law_great","_law_letters","_law_base","_law_place","_law_longer","_law_names_here","_law_k","_law_word","_law_some"]) (own:=["_law_word"]) (bO:=["_law_names_here"]) (cy:=[7]) rfl rfl (by decide+kernel)) rfl (mH (cx (ae ay (ae ay (ae ay (ae ay (ae ay (ae ay (ae ay af))))))))) (fun _ _ _ _=>(cf (i:=0) (show List.Nodup (["_law_word","_law_names_here"]:List Str) by decide+kernel) rfl (Or.inl rfl))) (fun _ _ _ _=>(DN (aJ (B5 K) (pv 0) (pv 1) (by with_unfolding_all rfl)))) (fun _ _ _ _=>(pv 0)) cZ.nd rfl rfl)
   (aw (BF (aB (bH K) (pv 10) ah (fun _ _=>rfl)) (BE (pv 7) (av bA bh rfl T.bK T.bL T.bM .nil aM (ae (pv 0) (ae (pv 1) af))) set_list))))
   aS)
  (aw (aL (pv 7)))))))))),?_⟩
  refine⟨by show 2≤sizeLine;decide,fun L hL=>⟨_,rfl,.inr ⟨g,rfl,L,_,_,.str (abc g),rfl,rfl,.of ag,by cases g<;>rfl,?_⟩⟩⟩
  have s1:=Same.new (o:=.lst [.str "abcdefghijklmnopqrstuvwxyz",.str "ABCDEFGHIJKLMNOPQRSTUVWXYZ"]) hL
  have d1:=hd.same s1
  refine⟨_,rfl,d,3,rfl,d1,by decide,fun t H2 t0 t1 k2 d2=>⟨_,_,rfl,rfl,_,rfl,by omega,by omega,fun B hB=>?_⟩⟩
  have Fy:B≠d:=(d2.ne hB).symm
  refine nE (fun i σ H'=>∃(rs:List Int) (v:Option V),σ=[v,some (.ref d)]∧KB d H2 H'∧bV H' d∧H' B=some (.lst (rs.map V.int))∧rs.length=i)
   ⟨[],none,rfl,(Same.new hB).kb,d2.same (Same.new hB),ag,rfl⟩ ?_ ?_
  ·rintro i σ H3 hi ⟨rs,v,rfl,k3,d3,e3,lr⟩
   refine⟨_,rfl,d,26,rfl,d3,by decide,fun r H4 r0 r1 k4 d4=>?_⟩
   refine⟨rs.map V.int,k4 _ _ e3 Fy,?_,rs++[r],_,rfl,?_,d4.kb KB.write Fy.symm,?_,?_⟩
   ·rw[List.length_map];exact Nat.lt_of_lt_of_le (show rs.length<100 by omega) (by decide)
   ·intro b o e n
    rw[br (aU e hB)]
    exact k4 b o (k3 b o e n) n
   ·rw[ag,List.map_append];rfl
   ·rw[List.length_append,lr];rfl
  rintro σ H3 ⟨rs,v,rfl,k3,d3,e3,lr⟩
  have II:0<rs.length∧rs.length≤3:=by omega
  refine⟨_,rfl,_,rfl,_,rs.length,rfl,.inl ⟨_,.of e3,by rw[List.length_map]⟩,d,(rs.length:Int),rfl,d3,by omega,fun pl H4 p0 p1 k4 d4=>?_⟩
  have e4:=k4 _ _ e3 Fy
  refine⟨_,rfl,d,2,rfl,d4,by decide,fun lo H5 l0 l1 k5 d5=>?_⟩
  have e5:=k5 _ _ e4 Fy
  refine⟨by decide,fun N hN=>?_⟩
  have oI:N≠d:=(d5.ne hN).symm
  have LV:B≠N:=aU e5 hN
  have IJ:KB d H H5:=(((s1.kb).trans k2).trans k3).trans (k4.trans k5)
  have IK:H N=none:=by
   cases z:H N with
   | none=>rfl
   | some o=>
    have:=IJ N o z oI
    rw[hN] at this;cases this
  refine⟨_,rfl,m,rfl,by omega,by omega,jM (n:=(m:Int).toNat) (fun i σ H'=>∃(ss:List Str) (v8 v9:Option V),σ=[some (.ref d),some (.int m),some (.bl g),some (.str (abc g)),some (.ref B),some (.int pl),some (.int lo),some (.ref N),v8,v9,none]∧KB d H H'∧bV H' d∧H' B=some (.lst (rs.map V.int))∧H' N=some (.lst (ss.map V.str))∧ss.length=i∧ss=(List.range i).map (lZ g rs pl lo))
   ⟨[],none,none,rfl,IJ.trans (Same.new hN).kb,d5.same (Same.new hN),by rw[br LV];exact e5,ag,rfl,rfl⟩ ?_ ?_⟩
  ·rintro i σ H6 hi ⟨ss,v8,v9,rfl,k6,d6,e6,n6,ls,ess⟩
   rw[Int.toNat_natCast] at hi
   refine⟨rfl,_,rfl,_,rs.length,rfl,.inl ⟨_,.of e6,by rw[List.length_map]⟩,_,rfl,by omega,by omega,fun C hC=>?_⟩
   refine nE (fun j σ H'=>∃(ys:List Str) (v:Option V),σ=[v,some (.str (abc g)),some (.ref B),some (.int (0+(i:Int))),some (.int pl)]∧Same H6 H'∧H' C=some (.lst (ys.map V.str))∧ys.length=j∧(ys.map (·.length)).sum=j∧ys=(List.range j).map fun t=>(⟨#[iu g (qz rs pl i t)]⟩:Str))
    ⟨[],none,rfl,Same.new hC,ag,rfl,rfl,rfl⟩ ?_ ?_
   ·rintro j σ H7 hj ⟨ys,v,rfl,s7,e7,ly,Fz,eys⟩
    rw[Int.toNat_natCast] at hj
    obtain⟨q,hq⟩:∃q,rs[j]? =some q:=⟨_,List.getElem?_eq_getElem hj⟩
    refine⟨_,rfl,_,rfl,_,rfl,B,_,_,V.int q,rfl,rfl,.of (s7 _ _ e6),?_,_,rfl,_,rfl,_,rfl,rfl,.inr ⟨_,rfl,_,_,rfl,rfl,.inl (by constructor<;>omega),_,_,rfl,rfl,_,_,rfl,rfl,cpos (by decide),?_⟩⟩
    ·rw[show(0:Int)+(j:Int)=(j:Int) by omega]
     exact aj (by rw[List.getElem?_map,hq];rfl)
    generalize hx:(q+(0+(i:Int))*(if decide (V.int (0+(j:Int))=V.int pl) then 1 else 0)) % 26=x
    have x0:0≤x:=by rw[←hx];exact Int.emod_nonneg _ (by decide)
    have x1:x<26:=by rw[←hx];exact Int.emod_lt_of_pos _ (by decide)
    obtain⟨c,hc⟩:=CN g x x0 x1
    refine⟨abc g,x,c,rfl,by rw[←hx],wB g,hc,ys.map V.str,e7,?_,ys++[⟨#[c]⟩],_,rfl,s7.kbn hC KB.write,?_,?_,?_,?_⟩
    ·rw[List.length_map];exact Nat.lt_of_lt_of_le (show ys.length<100 by omega) (by decide)
    ·rw[ag,List.map_append];rfl
    ·rw[List.length_append,ly];rfl
    ·rw[List.map_append,List.sum_append,Fz];rfl
    ·have ex:x=qz rs pl i j:=by
      rw[←hx]
      unfold qz
      rw[List.getD_eq_getElem?_getD,hq]
      have e1:(0:Int)+(i:Int)=(i:Int):=by omega
      have e2:(if decide (V.int (0+(j:Int))=V.int pl)=true then(1:Int) else 0)=if(j:Int)=pl then 1 else 0:=by
       by_cases z:(j:Int)=pl
       ·rw[dI (by omega),if_pos z];rfl
       ·rw[B7 (by omega),if_neg z];rfl
      rw[e1,e2]
      rfl
     rw[zB x0 x1 hc,ex,List.range_succ,List.map_append,eys]
     rfl
   rintro σ H7 ⟨ys,v,rfl,s7,e7,ly,Fz,eys⟩
   rw[Int.toNat_natCast] at ly Fz eys
   refine⟨"",C,ys,rfl,rfl,.of e7,?_,fun z hz R_=>?_⟩
   ·rw[Fz,ly]
    have:(Str.length ("":Str))=0:=rfl
    rw[this];omega
   have Vl:z.length≤sizeLine:=hz
   have zc:z.cps.toList=cw g rs pl i:=by
    rw[R_,eys,show((List.range rs.length).map fun t=>(⟨#[iu g (qz rs pl i t)]⟩:Str))=(cw g rs pl i).map fun c=>(⟨#[c]⟩:Str) by unfold cw;rw[List.map_map];rfl]
    exact AZ _
   dsimp only[iJ]
   have k7:KB d H H7:=k6.trans s7.kb
   refine vX (t:=sM _ _ _) (u:=zZ _) (fun σ H'=>∃z:Str,σ=[some (.ref d),some (.int m),some (.bl g),some (.str (abc g)),some (.ref B),some (.int pl),some (.int lo),some (.ref N),some (.int (0+(i:Int))),some (.str z),none]∧Same H7 H'∧z=lZ g rs pl lo i) ?_ (fun rest=>?_)
   ·rintro σ H8 ⟨z,rfl,s8,ez⟩
    have n8:=s8 _ _ (s7 _ _ n6)
    refine⟨_,rfl,.inl ⟨rfl,_,.of n8⟩,_,rfl,N,_,_,rfl,rfl,n8,?_,?_⟩
    ·rw[List.length_map];exact Nat.lt_of_lt_of_le (show ss.length<100 by omega) (by decide)
    refine⟨ss++[z],_,_,rfl,?_,((d6.same s7).same s8).kb KB.write oI.symm,?_,?_,?_,by rw[List.range_succ,List.map_append,ess,ez];rfl⟩
    ·intro b o e n
     rw[br (aU e IK)]
     exact s8 _ _ (k7 b o e n)
    ·rw[br LV];exact s8 _ _ (s7 _ _ e6)
    ·rw[ag,List.map_append];rfl
    ·rw[List.length_append,ls];rfl
   ·refine⟨_,rfl,by show 3≤sizeLine;decide,fun W hW=>⟨W,_,rfl,.inl (.of ag),rfl,rfl,_,rfl,?_⟩⟩
    have sW:=Same.new (o:=.lst [.str "not",.str "and",.str "or"]) hW
    rw[show inV (V.str z) [V.str "not",V.str "and",V.str "or"]=decide (z∈(["not","and","or"]:List Str)) from kY z ["not","and","or"]]
    refine dM (fun hn=>?_) (fun hn=>?_)
    ·exact⟨_,rfl,_,rfl,_,rfl,z,rfl,hz,rest _ _ ⟨_,rfl,sW,IG zc (of_decide_eq_true hn)⟩⟩
    ·have hn':z ∉ (["not","and","or"]:List Str):=fun q=>hn (decide_eq_true q)
     refine⟨_,rfl,rfl,_,rfl,?_⟩
     refine dM (fun h1=>?_) (fun h1=>aG (rest _ _ ⟨z,rfl,sW,tu zc hn' fun q=>h1 (dI q.1)⟩))
     have h1':lo=1:=V.int.inj (of_decide_eq_true h1)
     refine⟨_,rfl,_,_,rfl,rfl,cpos (by decide),rfl,_,rfl,?_⟩
     refine dM (fun h2=>?_) (fun h2=>aG (rest _ _ ⟨z,rfl,sW,tu zc hn' fun q=>h2 (dI (by have:=q.2.1;omega))⟩))
     have h2':i % 2=1:=by
      have:(0+(i:Int)) % 2=1:=V.int.inj (of_decide_eq_true h2)
      omega
     refine⟨_,rfl,_,z.length,rfl,⟨hz,rfl⟩,_,_,rfl,rfl,_,rfl,?_⟩
     refine dM (fun hl=>?_) (fun hl=>rest _ _ ⟨z,rfl,sW,tu zc hn' fun q=>hl (decide_eq_true (by have:=q.2.2;omega))⟩)
     have hl':z.length<3:=by have:=of_decide_eq_true hl;omega
     obtain⟨c,hc⟩:=CN g 16 (by decide) (by decide)
     refine⟨_,rfl,_,rfl,abc g,16,c,rfl,rfl,wB g,hc,z,⟨#[c]⟩,rfl,rfl,?_,rest _ _ ⟨_,rfl,sW,IH zc hn' (zB (by decide) (by decide) hc) h1' h2' hl'⟩⟩
     show z.length+1≤sizeLine
     exact Nat.le_trans (show z.length+1≤10 by omega) (by decide)
  ·rintro σ H6 ⟨ss,v8,v9,rfl,k6,d6,e6,n6,ls,ess⟩
   rw[Int.toNat_natCast] at ls ess
   have nd:ss.Nodup:=by rw[ess];exact Er II.1 p0 p1 m (by omega)
   have nk:∀x∈ss,nV g x:=by
    intro x hx
    rw[ess] at hx
    obtain⟨t,_,rfl⟩:=List.mem_map.mp hx
    exact K9 II.1 II.2
   have fin:∀(σ:St) (H':Hp),(∃(ss:List Str) (v8 v9 v10:Option V),σ=[some (.ref d),some (.int m),some (.bl g),some (.str (abc g)),some (.ref B),some (.int pl),some (.int lo),some (.ref N),v8,v9,v10]∧KB d H H'∧bV H' d∧H' N=some (.lst (ss.map V.str))∧ss.length=m∧ss.Nodup∧∀x∈ss,nV g x)→
     ∃v,σ[7]? =some (some v)∧Q v H':=by
    rintro σ H' ⟨ss,v8,v9,v10,rfl,k7,d7,n7,l7,u7,w7⟩
    exact⟨_,rfl,k N ss H' IK k7 d7 n7 l7 u7 w7⟩
   refine⟨_,rfl,_,_,rfl,rfl,_,rfl,?_⟩
   refine dM (fun hm0=>?_) (fun _=>aG (fin _ _ ⟨ss,_,_,_,rfl,k6,d6,n6,ls,nd,nk⟩))
   have Vm:0<m:=by have:=of_decide_eq_true hm0;omega
   refine⟨_,rfl,g,rfl,?_⟩
   refine dM (fun hgf=>?_) (fun _=>aG (fin _ _ ⟨ss,_,_,_,rfl,k6,d6,n6,ls,nd,nk⟩))
   refine⟨_,rfl,d,6,rfl,d6,by decide,fun r H7 r0 r1 k7 d7=>⟨rfl,_,rfl,?_⟩⟩
   have n7:=k7 _ _ n6 oI
   have LW:=k6.trans k7
   refine dM (fun _=>?_) (fun _=>fin _ _ ⟨ss,_,_,_,rfl,LW,d7,n7,ls,nd,nk⟩)
   refine⟨by show 7≤sizeLine;decide,fun S hS=>⟨S,rfl,⟨_,.of ag⟩,fun C hC=>?_⟩⟩
   have Vv:N≠S:=aU n7 hS
   have FA:=(Same.new (o:=.lst [.str "ora",.str "orb",.str "ort",.str "orz",.str "orr",.str "oro",.str "ors"]) hS) _ _ n7
   have R0:S≠C:=aU ag hC
   refine oY (xs:=seven.map V.str) (fun i σ H'=>∃v:Option V,σ=[v,some (.ref N)]∧KB C (upd H7 S (.lst [.str "ora",.str "orb",.str "ort",.str "orz",.str "orr",.str "oro",.str "ors"])) H'∧H' C=some (.lst (((seven.take i).filter fun c=> !(inV (.str c) (ss.map V.str))).map V.str)))
    ⟨none,rfl,(Same.new hC).kb,ag⟩ (fun i σ H' _ ⟨_,_,h,_⟩=>.of (h _ _ ag R0)) ?_ ?_
   ·rintro i x σ H8 hx ⟨v,rfl,k8,e8⟩
    obtain⟨c,rfl,hc⟩:=sV hx
    have IL:N≠C:=aU FA hC
    refine⟨_,rfl,_,rfl,N,_,rfl,.inl (.of (k8 _ _ FA IL)),rfl,?_,_,rfl,?_⟩
    ·rw[List.all_map];exact List.all_eq_true.mpr fun _ _=>rfl
    have et:seven.take (i+1)=seven.take i++[c]:=by rw[List.take_add_one,hc];rfl
    refine dM (fun hin=>?_) (fun hin=>?_)
    ·refine⟨_,rfl,_,e8,?_,_,rfl,k8.trans KB.write,?_⟩
     ·rw[List.length_map]
      refine Nat.lt_of_le_of_lt (List.length_filter_le _ _) ?_
      rw[List.length_take]
      exact Nat.lt_of_le_of_lt (Nat.min_le_right _ _) (by decide)
     ·rw[ag,et,List.filter_append,List.map_append]
      have Et:(!(inV (.str c) (ss.map V.str)))=true:=hin
      simp[Et]
    ·refine⟨_,rfl,k8,?_⟩
     have Et:(!(inV (.str c) (ss.map V.str)))=false:=by
      cases z:(!(inV (.str c) (ss.map V.str))) with
      | false=>rfl
      | true=>exact absurd z hin
     rw[e8,et,List.filter_append]
     simp[Et]
   rintro σ H8 ⟨v,rfl,k8,e8⟩
   have IL:N≠C:=aU FA hC
   have n8:=k8 _ _ FA IL
   have hlen:=enough ss seven (by decide+kernel)
   have h7:seven.length=7:=rfl
   rw[show seven.take (seven.map V.str).length=seven from rfl] at e8
   obtain⟨y,ys,hy⟩:∃y ys,(seven.filter fun c=> !(inV (.str c) (ss.map V.str)))=y::ys:=by
    cases z:(seven.filter fun c=> !(inV (.str c) (ss.map V.str))) with
    | nil=>rw[z] at hlen;simp at hlen;omega
    | cons y ys=>exact⟨y,ys,rfl⟩
   rw[hy] at e8
   refine⟨_,rfl,C,_,0,.str y,rfl,rfl,.of e8,aj (j:=0) rfl,?_⟩
   have R3:C≠d:=by
    obtain⟨xd,IM⟩:=(d7.same (Same.new (o:=.lst [.str "ora",.str "orb",.str "ort",.str "orz",.str "orr",.str "oro",.str "ors"]) hS)).is
    exact(aU IM hC).symm
   have d8:bV H8 d:=(d7.same (Same.new (o:=.lst [.str "ora",.str "orb",.str "ort",.str "orz",.str "orr",.str "oro",.str "ors"]) hS)).kb k8 R3.symm
   refine⟨_,rfl,_,rfl,_,rfl,d,m,rfl,d8,by omega,fun r' H9 zC r1' k9 d9=>?_⟩
   have n9:=k9 _ _ n8 oI
   obtain⟨q,hq⟩:∃q:Nat,r'=(q:Int):=⟨r'.toNat,by omega⟩
   subst hq
   refine⟨N,_,_,q,rfl,rfl,n9,?_,?_⟩
   ·unfold qu;rw[if_pos (by omega),List.length_map,if_pos (by omega)];rfl
   have R4:y ∉ ss:=by
    have:y∈seven.filter fun c=> !(inV (.str c) (ss.map V.str)):=by rw[hy];exact List.mem_cons_self
    have:=(List.mem_filter.mp this).2
    rw[kY] at this
    intro z
    rw[decide_eq_true z] at this
    cases this
   have hg':g=false:=by cases g<;>first | rfl | exact absurd hgf (by decide)
   have hys:y∈seven:=(List.mem_filter.mp (by rw[hy];exact List.mem_cons_self:y∈seven.filter fun c=> !(inV (.str c) (ss.map V.str)))).1
   refine fin _ _ ⟨ss.set q y,_,_,_,rfl,?_,d9.kb KB.write oI.symm,?_,?_,CO nd R4 q,fun x hx=>?_⟩
   ·intro b o e n
    have n1:b≠N:=aU e IK
    rw[br n1]
    have e7:=LW b o e n
    have n2:b≠S:=aU e7 hS
    have LX:=(Same.new (o:=.lst [.str "ora",.str "orb",.str "ort",.str "orz",.str "orr",.str "oro",.str "ors"]) hS) _ _ e7
    exact k9 _ _ (k8 _ _ LX (aU LX hC)) n
   ·rw[ag,List.map_set]
   ·rw[List.length_set,ls]
   ·rcases List.mem_or_eq_of_mem_set hx with z | z
    ·exact nk x z
    ·rw[z,hg'];exact Es y hys
structure gB where
 D:Addr
 c4:Addr
 f4:Addr
 IP:FuncData
abbrev tB:Stmt:=inClass (top 2) 0
structure TX (K:PySem.W.Frag) (mg:Str→Option Value) (x:gB):Prop where
 xD:XC K x.D j3
 iD:XI K x.D
 mD:mg "JudgeError"=some (.ref x.D)
 zV:mg "ValueError"=none
 x4:XC K x.c4 (.ref x.D::j3)
 M4:XM K x.c4 x.f4
 m4:mg "NoText"=some (.ref x.c4)
 F4:cO K "__init__" "NoText.__init__" tB x.f4 x.IP
 b4:Binds K x.IP ["self"] []
 ne:¬x.c4=x.D
 E_:∃h:Heap,K.In h
def zD (K:PySem.W.Frag):Sp:=fun vs H Q _=>∃(a C:Addr) (bm:List Value),vs=[.ref a]∧H a=some (xo true a C none)∧XC K C bm∧Q .non H
theorem K':aY ["self"] ["self"] (au tB):=⟨rfl,rfl,rfl,by decide+kernel,rfl,by decide+kernel,by decide+kernel⟩
theorem r_ {x:gB} (T:TX K mg x):aR P w K mg base cX 1 x.f4 x.IP ["self"] (zD K):=by
 refine T.F4.ok (k:=0) K' (fun vs H Q E h=>?_) (fun cdv A outer s H vs Q E hr h=>?_)
 ·obtain⟨a,C,bm,rfl,_⟩:=h
  rfl
 ·obtain⟨a,C,bm,rfl,Ha,c,k⟩:=h
  refine⟨_,(aw (dF (K3 T.iD (by rfl) T.mD (ae (pv 0) af)))),?_⟩
  exact⟨_,rfl,a,C,none,bm,[],rfl,by simp,Ha,c,k⟩
def jT (z:Str):Prop:=(∀c∈z.cps.toList,c<128)∧z.length≤100000
theorem jT.all {z:Str} (h:jT z):z.cps.all (· <128)=true:=by
 rw[Array.all_eq_true]
 intro i hi
 exact decide_eq_true (h.1 _ (by rw[←Array.getElem_toList];exact List.getElem_mem _))
def cJ (c:Nat):Bool:=decide (48≤c)&&decide (c≤57)
def dig (z:Str):Option Nat:=match z.cps.toList with
 | [c]=>if cJ c then some (c-48) else none
 | _=>none
theorem qg {z:Str} {c:Nat} (e:z.cps.toList=[c]):dig z=if cJ c then some (c-48) else none:=by unfold dig;rw[e]
theorem zE {z:Str} (h:z.length≠1):dig z=none:=by
 unfold dig
 split
 ·rename_i c e
  have:z.cps.toList.length=1:=by rw[e];rfl
  rw[dB] at this
  exact absurd this h
 ·rfl
theorem one_sign {z:Str} (h:z.length=1):∃c,z=⟨#[c]⟩:=by
 have hl:z.cps.toList.length=1:=by rw[dB];exact h
 match e:z.cps.toList,hl with
 | [c],_=>exact⟨c,bD e⟩
theorem zF {c:Nat} (h:cJ c=true):PySem.intText? ⟨#[c]⟩=some ((c-48:Nat):Int):=by
 have key:∀k:Fin 10,PySem.intText? ⟨#[k.val+48]⟩=some ((k.val:Nat):Int):=by decide+kernel
 unfold cJ at h
 rw[Bool.and_eq_true] at h
 have h1:=of_decide_eq_true h.1
 have h2:=of_decide_eq_true h.2
 have:=key ⟨c-48,by omega⟩
 rw[show(c-48)+48=c by omega] at this
 exact this
theorem qh (c:Nat):(c∈("0123456789":Str).cps.toList)↔cJ c=true:=by
 have e:("0123456789":Str).cps.toList=[48,49,50,51,52,53,54,55,56,57]:=by decide+kernel
 rw[e]
 unfold cJ
 rw[Bool.and_eq_true,decide_eq_true_eq,decide_eq_true_eq]
 simp only[List.mem_cons,List.not_mem_nil,or_false]
 omega
def Rz (c:Addr) (H:Hp) (E:XK):Prop:=∀H' a,Same H H'→H' a=some (xo false a c none)→E (.ref a) none H'
theorem Rz.same {c:Addr} {H H':Hp} {E:XK} (h:Rz c H E) (s:Same H H'):Rz c H' E:=fun H2 a s2 e=>h H2 a (s.trans s2) e
theorem fQ {K:PySem.W.Frag} {mg:Str→Option Value} {x:gB} {H:Hp} {E:XK} {D:Ends} {σ:St} (TE:TX K mg x) (rz:Rz x.c4 H E):LQ K x.c4 (LP x.c4 (zD K) iM) E D σ H:=fun y hy=>by
 refine⟨y,x.c4,_,rfl,ag,TE.x4,rfl,y,none,rfl,ag,rz _ y (fun b o e=>?_) ag⟩
 have n:b≠y:=aU e hy
 rw[br n,br n]
 exact e
def iZ (x y:Str):Bool:=x.cps.toList.all fun c=>decide (c∈y.cps.toList)
def IQ:Sp:=fun vs H Q _=>∃x y:Str,vs=[.str x,.str y]∧jT x∧∀H',Same H H'→Q (.bl (iZ x y)) H'
def nameB (y x:Str):Bool:=decide (1≤x.length)&&(decide (x.length≤3)&&(iZ x y&& !decide (x∈(["not","and","or"]:List Str))))
def r6 (c4:Addr):Sp:=fun vs H Q E=>∃x y:Str,vs=[.str x,.str y]∧jT x∧(nameB y x=true→∀H',Same H H'→Q (.str x) H')∧(nameB y x=false→Rz c4 H E)
def wI (c4:Addr):Sp:=fun vs H Q E=>∃z:Str,vs=[.str z]∧z.length≤100000∧(∀n,dig z=some n→∀H',Same H H'→Q (.int (n:Nat)) H')∧(dig z=none→Rz c4 H E)
def dv {α β:Type} (f:α→Option β):List α→Option (List β)
 | []=>some []
 | x::r=>match f x,dv f r with
  | some y,some ys=>some (y::ys)
  | _,_=>none
theorem ux {α β:Type} {f:α→Option β} {x:α} {y:β}:∀{l:List α} {ys:List β},dv f l=some ys→f x=some y→dv f (l++[x])=some (ys++[y])
 | [],ys,h,e=>by
  have:ys=[]:=(Option.some.inj h).symm
  subst this
  show dv f [x]=_
  unfold dv dv
  rw[e];rfl
 | a::l,ys,h,e=>by
  unfold dv at h
  cases h1:f a with
  | none=>rw[h1] at h;cases h
  | some b=>
   cases h2:dv f l with
   | none=>rw[h1,h2] at h;cases h
   | some bs=>
    rw[h1,h2] at h
    have:b::bs=ys:=Option.some.inj h
    subst this
    have:=ux (f:=f) h2 e
    show dv f (a::(l++[x]))=_
    unfold dv
    rw[h1,this]
    rfl
theorem uy {α β:Type} {f:α→Option β} {x:α}:∀{l:List α},x∈l→f x=none→dv f l=none
 | a::l,h,e=>by
  unfold dv
  rcases List.mem_cons.mp h with z | z
  ·rw[←z,e]
  ·rw[uy z e]
   cases f a<;>rfl
theorem qS {α β:Type} {f:α→Option β}:∀{l:List α} {ys:List β},dv f l=some ys→ys.length=l.length
 | [],ys,h=>by
  have:ys=[]:=(Option.some.inj h).symm
  subst this;rfl
 | a::l,ys,h=>by
  unfold dv at h
  cases h1:f a with
  | none=>rw[h1] at h;cases h
  | some b=>
   cases h2:dv f l with
   | none=>rw[h1,h2] at h;cases h
   | some bs=>
    rw[h1,h2] at h
    have:b::bs=ys:=Option.some.inj h
    subst this
    rw[List.length_cons,List.length_cons,qS h2]
theorem CP {c:Nat}:∀{xs:List (List Nat)} {x:List Nat},x∈xs→x.length≤(jn c xs).length
 | [y],x,h=>by rw[List.mem_singleton.mp h];exact Nat.le_refl _
 | y::z::r,x,h=>by
  show x.length≤(y++c::jn c (z::r)).length
  rw[List.length_append,List.length_cons]
  rcases List.mem_cons.mp h with e | e
  ·rw[e];omega
  ·have:=CP (c:=c) e;omega
theorem CQ {c d:Nat}:∀{xs:List (List Nat)} {x:List Nat},x∈xs→d∈x→d∈jn c xs
 | [y],x,h,hd=>by rw[←List.mem_singleton.mp h];exact hd
 | y::z::r,x,h,hd=>by
  show d∈y++c::jn c (z::r)
  rcases List.mem_cons.mp h with e | e
  ·exact List.mem_append_left _ (e▸hd)
  ·exact List.mem_append_right _ (List.mem_cons_of_mem _ (CQ e hd))
theorem G4 {c:Nat} {z p:Str} (h:p∈spl c z):p.length≤z.length:=by
 rw[←dB,←dB z,←kI c z]
 exact CP (List.mem_map.mpr ⟨p,h,rfl⟩)
theorem zG {c:Nat}:∀xs:List (List Nat),xs.length≤(jn c xs).length+1
 | []=>Nat.zero_le _
 | [_]=>by simp
 | y::z::r=>by
  have:=zG (c:=c) (z::r)
  show _≤(y++c::jn c (z::r)).length+1
  rw[List.length_append,List.length_cons]
  rw[List.length_cons] at this ⊢
  rw[List.length_cons]
  omega
theorem Eu {c:Nat} {z:Str}:(spl c z).length≤z.length+1:=by
 have:=zG (c:=c) ((spl c z).map fun x=>x.cps.toList)
 rw[kI,List.length_map,dB] at this
 exact this
theorem jT.part {c:Nat} {z p:Str} (h:jT z) (hp:p∈spl c z):jT p:=by
 refine⟨fun d hd=>h.1 d ?_,Nat.le_trans (G4 hp) h.2⟩
 rw[←kI c z]
 exact CQ (List.mem_map.mpr ⟨p,hp,rfl⟩) hd
def bX:Str:="ABCDEFGHIJKLMNOPQRSTUVWXYZ"
abbrev az (z:Str):List Nat:=z.cps.toList
theorem CS {α β:Type} {f:α→Option β} {x:α} {l:List α} {ys:List β} (h:dv f (x::l)=some ys):∃y r,ys=y::r∧f x=some y∧dv f l=some r:=by
 unfold dv at h
 cases h1:f x with
 | none=>rw[h1] at h;cases h
 | some b=>
  cases h2:dv f l with
  | none=>rw[h1,h2] at h;cases h
  | some bs=>
   rw[h1,h2] at h
   exact⟨b,bs,(Option.some.inj h).symm,rfl,rfl⟩
theorem wJ {α β:Type} {f:α→Option β} {R:α→β→Prop} (hR:∀x y,f x=some y→R x y):∀{l:List α} {ys:List β},dv f l=some ys→Paired R l ys
 | [],ys,h=>by
  have:ys=[]:=(Option.some.inj h).symm
  subst this;exact .nil
 | a::l,ys,h=>by
  obtain⟨y,r,rfl,h1,h2⟩:=CS h
  exact .cons (hR _ _ h1) (wJ hR h2)
theorem zH {α β:Type} {f:α→Option β}:∀{l:List α} {ys:List β},Paired (fun x y=>f x=some y) l ys→dv f l=some ys
 | _,_,.nil=>rfl
 | _,_,.cons h t=>by
  unfold dv
  rw[h,zH t]
theorem r9 {α β γ:Type} {R:α→β→Prop} {f:α→γ} {g:β→γ} (hR:∀x y,R x y→f x=g y):∀{l:List α} {ys:List β},Paired R l ys→l.map f=ys.map g
 | _,_,.nil=>rfl
 | _,_,.cons h t=>by rw[List.map_cons,List.map_cons,hR _ _ h,r9 hR t]
theorem sd {α β:Type} {R:α→β→Prop}:∀{l:List α} {ys:List β} {y:β},Paired R l ys→y∈ys→∃x∈l,R x y
 | _,_,y,.cons h t,hy=>by
  rcases List.mem_cons.mp hy with e | e
  ·exact⟨_,List.mem_cons_self,e▸h⟩
  ·obtain⟨x,hx,r⟩:=sd t e
   exact⟨x,List.mem_cons_of_mem _ hx,r⟩
theorem oJ {α β:Type} {R:α→β→Prop} {f:β→α}:∀{ys:List β},(∀y∈ys,R (f y) y)→Paired R (ys.map f) ys
 | [],_=>.nil
 | y::ys,h=>.cons (h y List.mem_cons_self) (oJ fun z hz=>h z (List.mem_cons_of_mem _ hz))
def txt (l:List Nat):Str:=⟨l.toArray⟩
theorem aK (l:List Nat):az (txt l)=l:=by unfold az txt;simp
theorem gY (z:Str):txt (az z)=z:=bD (aK _)
theorem qA:bX.cps.toList=(List.range 26).map (65+ ·):=by decide+kernel
theorem uz {c:Nat} (h:c∈bX.cps.toList):65≤c∧c≤90:=by
 rw[qA] at h
 obtain⟨k,hk,rfl⟩:=List.mem_map.mp h
 have:=List.mem_range.mp hk
 omega
theorem cj {x:Str} (h:nameB bX x=true):1≤x.length∧x.length≤3∧∀c∈az x,65≤c∧c≤90:=by
 unfold nameB at h
 simp only[Bool.and_eq_true,decide_eq_true_eq] at h
 refine⟨h.1,h.2.1,fun c hc=>uz ?_⟩
 have:=List.all_eq_true.mp h.2.2.1 c hc
 exact of_decide_eq_true this
def rising (ns:List Str):Bool:=PyProof.Rows.sortedS ns&&decide ns.Nodup
theorem ma {K:PySem.W.Frag} {H:Hp}:∀l:List Str,aF K H (l.map V.str) (l.map Dt.str)
 | []=>by simp[aF]
 | x::l=>by rw[List.map_cons,List.map_cons,aF];exact⟨by rw[aq],ma l⟩
theorem pK:∀l m:List Str,Dt.dO (l.map Dt.str) (m.map Dt.str)=decide (l=m)
 | [],[]=>by simp[Dt.dO]
 | [],_::_=>by simp[Dt.dO]
 | _::_,[]=>by simp[Dt.dO]
 | x::l,y::m=>by
  rw[List.map_cons,List.map_cons,Dt.dO,pK l m,Dt.beq]
  by_cases e:x=y<;>by_cases e2:l=m<;>simp[e,e2]
theorem pL:∀l:List Str,Dt.deps (l.map Dt.str)=0
 | []=>by simp[Dt.deps]
 | x::l=>by rw[List.map_cons,Dt.deps,pL l];simp[Dt.dep]
theorem A1 {ns ks ss:List Str} (p:ss.Perm ks) (nd:ks.Nodup) (m:∀y,y∈ks↔y∈ns) (so:PyProof.Rows.sortedS ss=true):decide (ns=ss)=rising ns:=by
 have FC:ss.Nodup:=p.nodup_iff.mpr nd
 have ms:∀y,y∈ss↔y∈ns:=fun y=>(p.mem_iff).trans (m y)
 unfold rising
 by_cases e:ns=ss
 ·rw[decide_eq_true e,e,so,decide_eq_true FC];rfl
 ·rw[decide_eq_false e]
  cases h1:PyProof.Rows.sortedS ns with
  | false=>rfl
  | true=>
   by_cases h2:ns.Nodup
   ·exact absurd (qy h1 so h2 FC fun y=>(ms y).symm) e
   ·rw[decide_eq_false h2];rfl
theorem mX {n:Nat} (h:n<10):az (Str.ofString (toString ((n:Nat):Int)))=[48+n]:=by
 have key:∀k:Fin 10,(Str.ofString (toString ((k.val:Nat):Int))).cps.toList=[48+k.val]:=by decide+kernel
 exact key ⟨n,h⟩
theorem qi {n:Nat} (h:n<10):((n:Nat):Int).natAbs.log2<1920:=by
 have key:∀k:Fin 10,((k.val:Nat):Int).natAbs.log2<1920:=by decide+kernel
 exact key ⟨n,h⟩
theorem qj {n:Nat} (h:n<10):(Str.ofString (toString ((n:Nat):Int))).length=1:=by rw[←dB,show(Str.ofString (toString ((n:Nat):Int))).cps.toList=[48+n] from mX h];rfl
theorem aZ (a b:Str):az (a++b)=az a++az b:=kH a b
theorem bE (a:Str):a.length=(az a).length:=(dB a).symm
theorem tD {c:Nat}:∀xs:List (List Nat),(jn c xs).length≤(xs.map List.length).sum+xs.length
 | []=>by simp[jn]
 | [x]=>by simp[jn]
 | x::y::r=>by
  have:=tD (c:=c) (y::r)
  show(x++c::jn c (y::r)).length≤_
  rw[List.length_append,List.length_cons,List.map_cons,List.sum_cons,List.length_cons]
  omega
theorem wK {l:List Nat} {k:Nat} (h:∀x∈l,x≤k):l.sum≤l.length*k:=by
 induction l with
 | nil=>simp
 | cons a r ih=>
  have h1:=h a List.mem_cons_self
  have h2:=ih fun x hx=>h x (List.mem_cons_of_mem _ hx)
  rw[List.sum_cons,List.length_cons,Nat.succ_mul]
  omega
theorem G5 {l:List Str} {k:Nat} (h:∀x∈l,x.length≤k):(l.map (·.length)).sum≤l.length*k:=by
 have:=wK (l:=l.map (·.length)) (k:=k) (fun y hy=>by
  obtain⟨z,hz,rfl⟩:=List.mem_map.mp hy
  exact h z hz)
 rw[List.length_map] at this
 exact this
theorem aH (l:List Nat):(txt l).length=l.length:=by rw[bE,aK]
theorem CT {d c:Nat}:∀{xs:List (List Nat)},c∈jn d xs→c=d∨∃x∈xs,c∈x
 | [],h=>by cases h
 | [x],h=>.inr ⟨x,List.mem_singleton.mpr rfl,h⟩
 | x::y::r,h=>by
  rcases List.mem_append.mp (show c∈x++d::jn d (y::r) from h) with q | q
  ·exact .inr ⟨x,List.mem_cons_self,q⟩
  ·rcases List.mem_cons.mp q with e | e
   ·exact .inl e
   ·rcases CT e with z | ⟨z,hz,hc⟩
    ·exact .inl z
    ·exact .inr ⟨z,List.mem_cons_of_mem _ hz,hc⟩
theorem A2 {x:Str} (h:nV true x):nameB bX x=true:=by
 obtain⟨h1,h2,h3,h4⟩:=h
 unfold nameB
 rw[decide_eq_true h1,decide_eq_true h2,decide_eq_false h4]
 have:iZ x bX=true:=by
  unfold iZ
  rw[List.all_eq_true]
  exact fun c hc=>decide_eq_true (h3 c hc)
 rw[this];rfl
theorem wL {l:List Str} {k n:Nat} (h:∀x∈l,x.length≤k) (hn:l.length≤n):(l.map (·.length)).sum≤n*k:=Nat.le_trans (G5 h) (Nat.mul_le_mul_right k hn)
def bU:Str:="abcdefghijklmnopqrstuvwxyz"
theorem yE:bU.cps.toList=[97,98,99,100,101,102,103,104,105,106,107,108,109,110,111,112,113,114,115,116,117,118,119,120,121,122]:=by decide+kernel
def bT (c:Nat):Bool:=decide (97≤c)&&decide (c≤122)
def bQ (c:Nat):Bool:=decide (65≤c)&&decide (c≤90)
def fb (c:Nat):Bool:=bT c||(cJ c||decide (c=43))
theorem dS {c:Nat}:bT c=true↔97≤c∧c≤122:=by unfold bT;rw[Bool.and_eq_true,decide_eq_true_eq,decide_eq_true_eq]
theorem j8 {c:Nat}:bQ c=true↔65≤c∧c≤90:=by unfold bQ;rw[Bool.and_eq_true,decide_eq_true_eq,decide_eq_true_eq]
theorem eI {c:Nat}:cJ c=true↔48≤c∧c≤57:=by unfold cJ;rw[Bool.and_eq_true,decide_eq_true_eq,decide_eq_true_eq]
theorem kj {c:Nat}:fb c=true↔(97≤c∧c≤122)∨(48≤c∧c≤57)∨c=43:=by unfold fb;rw[Bool.or_eq_true,Bool.or_eq_true,dS,eI,decide_eq_true_eq]
theorem pM (c:Nat):(c∈bU.cps.toList)↔bT c=true:=by
 rw[yE,dS]
 constructor
 ·intro h;simp only[List.mem_cons,List.not_mem_nil,or_false] at h;omega
 ·intro h;simp only[List.mem_cons,List.not_mem_nil,or_false];omega
theorem bR {x:Str} (h:nameB bU x=true):1≤x.length∧x.length≤3∧(∀c∈az x,bT c=true)∧x ∉ (["not","and","or"]:List Str):=by
 unfold nameB at h
 simp only[Bool.and_eq_true,decide_eq_true_eq,Bool.not_eq_true',decide_eq_false_iff_not] at h
 refine⟨h.1,h.2.1,fun c hc=>(pM c).mp ?_,h.2.2.2⟩
 have:=List.all_eq_true.mp h.2.2.1 c hc
 exact of_decide_eq_true this
theorem CU (y:Str):nameB y (txt [])=false:=by
 unfold nameB
 rw[show decide (1≤(txt []).length)=false from rfl,Bool.false_and]
def dU (n:Nat):List Nat:=if n<10 then [48+n] else [48+n / 10,48+n % 10]
def fR:List Nat→Option Nat
 | [c]=>if cJ c=true then some (c-48) else none
 | [c,d]=>if cJ c=true∧cJ d=true∧c≠48 then some ((c-48)*10+(d-48)) else none
 | _=>none
theorem j9 {l:List Nat} {n:Nat} (h:fR l=some n):n<100∧l=dU n:=by
 unfold fR at h
 split at h
 ·rename_i c
  by_cases hc:cJ c=true
  ·rw[if_pos hc] at h
   have hc:=eI.mp hc
   have:=Option.some.inj h
   refine⟨by omega,?_⟩
   unfold dU
   rw[if_pos (by omega),show 48+n=c by omega]
  ·rw[if_neg hc] at h;cases h
 ·rename_i c d
  by_cases hc:cJ c=true∧cJ d=true∧c≠48
  ·rw[if_pos hc] at h
   have h1:=eI.mp hc.1
   have h2:=eI.mp hc.2.1
   have h3:=hc.2.2
   have:=Option.some.inj h
   refine⟨by omega,?_⟩
   unfold dU
   rw[if_neg (by omega),show 48+n / 10=c by omega,show 48+n % 10=d by omega]
  ·rw[if_neg hc] at h;cases h
 ·cases h
theorem G6 {n:Nat} (h:n<100):fR (dU n)=some n:=by
 have:∀k:Fin 100,fR (dU k.val)=some k.val:=by decide+kernel
 exact this ⟨n,h⟩
theorem qT {n:Nat} (h:n<100):∀c∈dU n,cJ c=true:=by
 have:∀k:Fin 100,∀c∈dU k.val,cJ c=true:=by decide+kernel
 exact this ⟨n,h⟩
theorem kZ {n:Nat}:(dU n).length≤2∧1≤(dU n).length:=by unfold dU;split<;>simp
theorem Ew {l:List Nat} {c:Nat} (hc:c∈l) (h:cJ c=false):fR l=none:=by
 cases e:fR l with
 | none=>rfl
 | some n=>
  obtain⟨h1,h2⟩:=j9 e
  rw[h2] at hc
  rw[qT h1 c hc] at h
  cases h
theorem wM {n:Nat} (h:n<100):az (Str.ofString (toString ((n:Nat):Int)))=dU n:=by
 have:∀k:Fin 100,az (Str.ofString (toString ((k.val:Nat):Int)))=dU k.val:=by decide+kernel
 exact this ⟨n,h⟩
theorem CV {n:Nat} (h:dU n=[48]):n=0:=by
 unfold dU at h
 split at h
 ·have:=List.cons.inj h;omega
 ·simp at h
def bo (p:Str×Int):List Nat:=(if p.2=1 then [] else [48+p.2.toNat])++az p.1
def bB (t:Term):List (List Nat):=t.parts.map bo++(if t.num≠0∨t.parts=[] then [dU t.num.toNat] else [])
def aQ (t:Term):List Nat:=jn 43 (bB t)
def i_ (p:Str×Int):Prop:=nameB bU p.1=true∧1≤p.2∧p.2≤9
def bZ (t:Term):Prop:=(0≤t.num∧t.num<100)∧rising (t.parts.map (·.1))=true∧∀p∈t.parts,i_ p
def fS (x:Str):Option (Str×Int):=match az x with
 | c::r=>if 50≤c∧c≤57 then(if nameB bU (txt r)=true then some (txt r,((c-48:Nat):Int)) else none) else(if nameB bU x=true then some (x,1) else none)
 | []=>none
theorem yF {x:Str} {p:Str×Int} (h:fS x=some p):i_ p∧az x=bo p:=by
 unfold fS at h
 split at h
 ·rename_i c r e
  by_cases hc:50≤c∧c≤57
  ·rw[if_pos hc] at h
   by_cases hn:nameB bU (txt r)=true
   ·rw[if_pos hn] at h
    cases h
    refine⟨⟨hn,by show(1:Int)≤((c-48:Nat):Int);omega,by show((c-48:Nat):Int)≤9;omega⟩,?_⟩
    unfold bo
    rw[if_neg (by show ¬((c-48:Nat):Int)=1;omega)]
    show az x=[48+((c-48:Nat):Int).toNat]++az (txt r)
    rw[aK,e,show 48+((c-48:Nat):Int).toNat=c by omega];rfl
   ·rw[if_neg hn] at h;cases h
  ·rw[if_neg hc] at h
   by_cases hn:nameB bU x=true
   ·rw[if_pos hn] at h
    cases h
    refine⟨⟨hn,by show(1:Int)≤1;decide,by show(1:Int)≤9;decide⟩,?_⟩
    unfold bo
    rw[if_pos rfl];rfl
   ·rw[if_neg hn] at h;cases h
 ·cases h
theorem uA {x:Str} (h:nameB bU x=true):∃c r,az x=c::r∧97≤c∧c≤122:=by
 obtain⟨h1,_,h3,_⟩:=bR h
 cases e:az x with
 | nil=>rw[bE,e] at h1;exact absurd h1 (by decide)
 | cons c r=>exact⟨c,r,rfl,dS.mp (h3 c (by rw[e];exact List.mem_cons_self))⟩
theorem Ex {p:Str×Int} (h:i_ p):fS (txt (bo p))=some p:=by
 obtain⟨h1,h2,h3⟩:=h
 obtain⟨c,r,e,hc1,hc2⟩:=uA h1
 unfold fS
 rw[aK]
 unfold bo
 by_cases h:p.2=1
 ·rw[if_pos h,List.nil_append,e]
  dsimp only
  rw[if_neg (by omega),←e,gY,if_pos h1,←h]
 ·rw[if_neg h]
  rw[List.singleton_append]
  dsimp only
  rw[if_pos (by omega),gY,if_pos h1,show((48+p.2.toNat-48:Nat):Int)=p.2 by omega]
theorem CW {p:Str×Int} (h:i_ p):∀c∈bo p,bT c=true∨cJ c=true:=by
 intro c hc
 unfold bo at hc
 rcases List.mem_append.mp hc with q | q
 ·by_cases h1:p.2=1
  ·rw[if_pos h1] at q;cases q
  ·rw[if_neg h1] at q
   have:=List.mem_singleton.mp q
   have h2:=h.2
   exact .inr (eI.mpr (by omega))
 ·exact .inl ((bR h.1).2.2.1 c q)
theorem yG {p:Str×Int} (h:i_ p):∃c∈bo p,bT c=true:=by
 obtain⟨c,r,e,hc⟩:=uA h.1
 exact⟨c,by unfold bo;rw[e];simp,dS.mpr hc⟩
theorem uB {t:Term} (h:bZ t):∀w∈bB t,∀c∈w,bT c=true∨cJ c=true:=by
 intro w hw c hc
 unfold bB at hw
 rcases List.mem_append.mp hw with q | q
 ·obtain⟨p,hp,rfl⟩:=List.mem_map.mp q
  exact CW (h.2.2 p hp) c hc
 ·split at q
  ·rw[List.mem_singleton.mp q] at hc
   exact .inr (qT (by have:=h.1;omega) c hc)
  ·cases q
theorem Ey (t:Term):bB t≠[]:=by
 unfold bB
 intro z
 have:=List.append_eq_nil_iff.mp z
 have h1:t.parts=[]:=List.map_eq_nil_iff.mp this.1
 have h2:=this.2
 rw[if_pos (.inr h1)] at h2
 cases h2
theorem k_ {t:Term} (h:bZ t):∀c∈aQ t,fb c=true:=by
 intro c hc
 unfold aQ at hc
 rcases CT hc with e | ⟨w,hw,hcw⟩
 ·exact kj.mpr (.inr (.inr e))
 ·rcases uB h w hw c hcw with q | q
  ·exact kj.mpr (.inl (dS.mp q))
  ·exact kj.mpr (.inr (.inl (eI.mp q)))
def dq (x:Str):Int×List Str:=match fR (az ((spl 43 x).getLastD (txt []))) with
 | some n=>if x=Str.ofString "0"∨(spl 43 x).getLastD (txt [])≠Str.ofString "0" then((n:Int),(spl 43 x).dropLast) else(0,spl 43 x)
 | none=>(0,spl 43 x)
def ig (x:Str):Option Term:=match dv fS (dq x).2 with
 | some ps=>if rising (ps.map (·.1))=true then some ⟨(dq x).1,ps⟩ else none
 | none=>none
theorem qU:az (Str.ofString "0")=[48]:=by decide+kernel
theorem nW {l:List Str} (h:l≠[]):l=l.dropLast++[l.getLastD (txt [])]:=by
 rw[List.getLastD_eq_getLast?,List.getLast?_eq_some_getLast h]
 exact(List.dropLast_concat_getLast h).symm
theorem yH {x:Str} {t:Term} (h:ig x=some t):bZ t∧az x=aQ t:=by
 unfold ig at h
 cases e:dv fS (dq x).2 with
 | none=>rw[e] at h;cases h
 | some ps=>
  rw[e] at h
  dsimp only at h
  by_cases hr:rising (ps.map (·.1))=true
  ·rw[if_pos hr] at h
   cases h
   have pr:=wJ (R:=fun w p=>i_ p∧az w=bo p) (fun w p h=>yF h) e
   have ok:∀p∈ps,i_ p:=fun p hp=>by obtain⟨w,_,r⟩:=sd pr hp;exact r.1
   have em:(dq x).2.map az=ps.map bo:=r9 (fun _ _ h=>h.2) pr
   have hj:=kI 43 x
   have ls:=nW (mV 43 x)
   unfold dq at em ⊢
   cases en:fR (az ((spl 43 x).getLastD (txt []))) with
   | none=>
    rw[en] at em
    dsimp only at em ⊢
    refine⟨⟨⟨by show(0:Int)≤0;decide,by show(0:Int)<100;decide⟩,hr,ok⟩,?_⟩
    show x.cps.toList=jn 43 (bB ⟨0,ps⟩)
    rw[←hj]
    unfold bB
    have IT:ps≠[]:=fun z=>by
     rw[z] at em
     exact mV 43 x (List.map_eq_nil_iff.mp em)
    rw[if_neg (by rintro(z | z);exact z rfl;exact IT z),List.append_nil]
    exact congrArg (jn 43) em
   | some n=>
    rw[en] at em
    dsimp only at em ⊢
    obtain⟨Vn,el⟩:=j9 en
    by_cases hc:x=Str.ofString "0"∨(spl 43 x).getLastD (txt [])≠Str.ofString "0"
    ·rw[if_pos hc] at em ⊢
     dsimp only at em ⊢
     refine⟨⟨⟨by show(0:Int)≤(n:Int);omega,by show(n:Int)<100;omega⟩,hr,ok⟩,?_⟩
     show x.cps.toList=jn 43 (bB ⟨(n:Int),ps⟩)
     rw[←hj]
     unfold bB
     have cond:((n:Int)≠0∨ps=[]):=by
      rcases hc with hc | hc
      ·right
       have:spl 43 x=[Str.ofString "0"]:=Cu (by simp) (by decide+kernel) (by rw[hc];decide+kernel)
       rw[this] at em
       exact List.map_eq_nil_iff.mp em.symm
      ·left
       intro z
       have z':n=0:=by omega
       rw[z'] at el
       exact hc (bD (by show az _=az _;rw[el,qU];rfl))
     rw[if_pos cond,ls,List.map_append]
     show jn 43 ((spl 43 x).dropLast.map az++[az ((spl 43 x).getLastD (txt []))])=_
     rw[em,el];rfl
    ·rw[if_neg hc] at em ⊢
     dsimp only at em ⊢
     refine⟨⟨⟨by show(0:Int)≤0;decide,by show(0:Int)<100;decide⟩,hr,ok⟩,?_⟩
     show x.cps.toList=jn 43 (bB ⟨0,ps⟩)
     rw[←hj]
     unfold bB
     have IT:ps≠[]:=fun z=>by
      rw[z] at em
      exact mV 43 x (List.map_eq_nil_iff.mp em)
     rw[if_neg (by rintro(z | z);exact z rfl;exact IT z),List.append_nil]
     exact congrArg (jn 43) em
  ·rw[if_neg hr] at h;cases h
theorem nX {t:Term} (h:bZ t):ig (txt (aQ t))=some t:=by
 have e1:spl 43 (txt (aQ t))=(bB t).map txt:=by
  refine Cu (by simpa using Ey t) (fun p hp=>?_) ?_
  ·obtain⟨w,hw,rfl⟩:=List.mem_map.mp hp
   show 43 ∉ az (txt w)
   rw[aK]
   intro z
   rcases uB h w hw 43 z with q | q
   ·have:=dS.mp q;omega
   ·have:=eI.mp q;omega
  ·show az (txt (aQ t))=_
   rw[aK,List.map_map]
   show jn 43 (bB t)=_
   congr 1
   rw[show((fun x:Str=>x.cps.toList)∘txt)=id from funext fun l=>aK l,List.map_id]
 have em:dv fS (t.parts.map fun p=>txt (bo p))=some t.parts:=zH (oJ fun p hp=>Ex (h.2.2 p hp))
 have key:dq (txt (aQ t))=(t.num,t.parts.map fun p=>txt (bo p)):=by
  unfold dq
  rw[e1]
  unfold bB
  by_cases hc:t.num≠0∨t.parts=[]
  ·rw[if_pos hc,List.map_append,List.map_map]
   rw[List.map_cons,List.map_nil]
   have el:(t.parts.map (txt∘bo)++[txt (dU t.num.toNat)]).getLastD (txt [])=txt (dU t.num.toNat):=by rw[List.getLastD_concat]
   have ed:(t.parts.map (txt∘bo)++[txt (dU t.num.toNat)]).dropLast=t.parts.map fun p=>txt (bo p):=by rw[List.dropLast_concat];rfl
   rw[el,aK,G6 (by have:=h.1;omega)]
   dsimp only
   rw[ed,if_pos,show((t.num.toNat:Nat):Int)=t.num by have:=h.1;omega]
   by_cases hz:t.num=0
   ·left
    have hp:t.parts=[]:=hc.resolve_left (fun z=>z hz)
    refine bD ?_
    show az _=az _
    rw[aK,qU]
    unfold aQ bB
    rw[if_pos hc,hp,hz];rfl
   ·right
    intro z
    have:=congrArg az z
    rw[aK,qU] at this
    have:=CV this
    have:=h.1
    omega
  ·rw[if_neg hc,List.append_nil,List.map_map]
   have hz:t.num=0:=Decidable.not_not.mp fun z=>hc (.inl z)
   have hp:t.parts≠[]:=fun z=>hc (.inr z)
   have ne:t.parts.map (txt∘bo)≠[]:=by simpa using hp
   have ll:=nW ne
   have hm:(t.parts.map (txt∘bo)).getLastD (txt [])∈t.parts.map (txt∘bo):=by
    rw[List.getLastD_eq_getLast?,List.getLast?_eq_some_getLast ne]
    exact List.getLast_mem ne
   obtain⟨p,hpm,ep⟩:=List.mem_map.mp hm
   obtain⟨c,hcm,hcs⟩:=yG (h.2.2 p hpm)
   rw[←ep]
   rw[show(txt∘bo) p=txt (bo p) from rfl,aK,Ew hcm (by
    cases q:cJ c with
    | false=>rfl
    | true=>have:=eI.mp q;have:=dS.mp hcs;omega)]
   dsimp only
   rw[hz];rfl
 unfold ig
 rw[key]
 dsimp only
 rw[em]
 dsimp only
 rw[if_pos h.2.1]
def ao.Ok:ao→Prop
 | .same t u=>bZ t∧bZ u
 | .less t u=>bZ t∧bZ u
 | .sign a t s=>nameB bX a=true∧bZ t∧0≤s∧s<10
 | .alike a t b u=>nameB bX a=true∧bZ t∧nameB bX b=true∧bZ u
 | .no f=>f.Ok
 | .and f g=>f.Ok∧g.Ok
 | .or f g=>f.Ok∧g.Ok
 | .some n f=>nameB bU n=true∧f.Ok
 | .each n f=>nameB bU n=true∧f.Ok
def atT (a:Str) (t:Term):List Nat:=az a++91::(aQ t++[93])
def ak:ao→List Nat
 | .same t u=>aQ t++([32,61,32]++aQ u)
 | .less t u=>aQ t++([32,60,32]++aQ u)
 | .sign a t s=>atT a t++([32,61,32]++[48+s.toNat])
 | .alike a t b u=>atT a t++([32,126,32]++atT b u)
 | .no f=>[110,111,116,32]++ak f
 | .and f g=>40::(ak f++([32,97,110,100,32]++(ak g++[41])))
 | .or f g=>40::(ak f++([32,111,114,32]++(ak g++[41])))
 | .some n f=>[115,111,109,101,32]++(az n++32::ak f)
 | .each n f=>[101,97,99,104,32]++(az n++32::ak f)
def ao.nodes:ao→Nat
 | .no f=>f.nodes+1
 | .and f g=>f.nodes+g.nodes+1
 | .or f g=>f.nodes+g.nodes+1
 | .some _ f=>f.nodes+1
 | .each _ f=>f.nodes+1
 | _=>1
def cK (p v:List Nat):Option (List Nat):=if p.isPrefixOf v=true then some (v.drop p.length) else none
theorem dC {p v:List Nat} (h:p.isPrefixOf v=true):v=p++v.drop p.length:=by
 obtain⟨r,rfl⟩:=List.isPrefixOf_iff_prefix.mp h
 rw[List.drop_left]
theorem fT (p r:List Nat):p.isPrefixOf (p++r)=true:=List.isPrefixOf_iff_prefix.mpr ⟨r,rfl⟩
theorem fU {p v r:List Nat} (h:cK p v=some r):v=p++r:=by
 unfold cK at h
 split at h
 ·rename_i hp
  rw[←Option.some.inj h];exact dC hp
 ·cases h
theorem fD (p r:List Nat):cK p (p++r)=some r:=by
 unfold cK
 rw[if_pos (fT p r),List.drop_left]
def Stop (p:Nat→Bool) (r:List Nat):Prop:=∀c r',r=c::r'→p c=false
theorem md {p:Nat→Bool}:∀{l r:List Nat},(∀c∈l,p c=true)→Stop p r→(l++r).takeWhile p=l∧(l++r).dropWhile p=r
 | [],r,_,h=>by
  cases r with
  | nil=>exact⟨rfl,rfl⟩
  | cons c r=>rw[List.nil_append,List.takeWhile_cons,List.dropWhile_cons,h c r rfl];exact⟨rfl,rfl⟩
 | a::l,r,ha,h=>by
  obtain⟨h1,h2⟩:=md (l:=l) (fun c hc=>ha c (List.mem_cons_of_mem _ hc)) h
  rw[List.cons_append,List.takeWhile_cons,List.dropWhile_cons,ha a List.mem_cons_self]
  exact⟨by rw[if_pos rfl,h1],by rw[if_pos rfl,h2]⟩
def fV (v:List Nat):Option (Term×List Nat):=(ig (txt (v.takeWhile fb))).bind fun t=>some (t,v.dropWhile fb)
theorem jF {v r:List Nat} {t:Term} (h:fV v=some (t,r)):bZ t∧v=aQ t++r:=by
 unfold fV at h
 obtain⟨t',h1,h2⟩:=Option.bind_eq_some_iff.mp h
 cases h2
 obtain⟨ok,e⟩:=yH h1
 rw[aK] at e
 exact⟨ok,by rw[←e,List.takeWhile_append_dropWhile]⟩
theorem lj {t:Term} {r:List Nat} (ok:bZ t) (h:Stop fb r):fV (aQ t++r)=some (t,r):=by
 obtain⟨h1,h2⟩:=md (k_ ok) h
 unfold fV
 rw[h1,h2,nX ok];rfl
def mz (v:List Nat):Option (Str×Term×List Nat):=if nameB bX (txt (v.takeWhile bQ))=true then((cK [91] (v.dropWhile bQ)).bind fun v1=>(fV v1).bind fun q=>(cK [93] q.2).bind fun v3=>some (txt (v.takeWhile bQ),q.1,v3)) else none
theorem sf {v r:List Nat} {a:Str} {t:Term} (h:mz v=some (a,t,r)):nameB bX a=true∧bZ t∧v=atT a t++r:=by
 unfold mz at h
 split at h
 ·rename_i hn
  obtain⟨v1,h1,h⟩:=Option.bind_eq_some_iff.mp h
  obtain⟨⟨t',v2⟩,h2,h⟩:=Option.bind_eq_some_iff.mp h
  obtain⟨v3,h3,h⟩:=Option.bind_eq_some_iff.mp h
  cases h
  have e1:=fU h1
  obtain⟨ok,e2⟩:=jF h2
  have e3:=fU h3
  dsimp only at e3
  refine⟨hn,ok,?_⟩
  unfold atT
  rw[aK]
  have:v=v.takeWhile bQ++v.dropWhile bQ:=List.takeWhile_append_dropWhile.symm
  rw[e1,e2,e3] at this
  rw[List.append_assoc,List.cons_append,List.append_assoc]
  exact this
 ·cases h
theorem uC {a:Str} (h:nameB bX a=true):∀c∈az a,bQ c=true:=fun c hc=>j8.mpr ((cj h).2.2 c hc)
theorem cT {p:Nat→Bool} {c:Nat} {r:List Nat} (h:p c=false):Stop p (c::r):=fun c' r' e=>by
 rw[←(List.cons.inj e).1];exact h
theorem Ez {p:Nat→Bool}:Stop p []:=fun c r e=>by cases e
theorem tE {a:Str} {t:Term} {r:List Nat} (ha:nameB bX a=true) (ok:bZ t):mz (atT a t++r)=some (a,t,r):=by
 have e:atT a t++r=az a++(91::(aQ t++(93::r))):=by unfold atT;simp
 obtain⟨h1,h2⟩:=md (p:=bQ) (uC ha) (cT (c:=91) (r:=aQ t++(93::r)) (by decide))
 unfold mz
 rw[e,h1,h2,gY,if_pos ha]
 rw[show(91::(aQ t++(93::r)))=[91]++(aQ t++(93::r)) from rfl,fD,Option.bind_some,lj ok (cT (by decide)),Option.bind_some]
 dsimp only
 rw[show(93::r)=[93]++r from rfl,fD];rfl
def gJ (v:List Nat):Option (ao×List Nat):=(fV v).bind fun q=>if [32,60,32].isPrefixOf q.2=true then((cK [32,60,32] q.2).bind fun v2=>(fV v2).bind fun q2=>some (.less q.1 q2.1,q2.2)) else((cK [32,61,32] q.2).bind fun v2=>(fV v2).bind fun q2=>some (.same q.1 q2.1,q2.2))
theorem wN {v r:List Nat} {f:ao} (h:gJ v=some (f,r)):f.Ok∧v=ak f++r:=by
 unfold gJ at h
 obtain⟨⟨t,v1⟩,h1,h⟩:=Option.bind_eq_some_iff.mp h
 obtain⟨ok1,e1⟩:=jF h1
 dsimp only at h
 split at h
 ·obtain⟨v2,h2,h⟩:=Option.bind_eq_some_iff.mp h
  obtain⟨⟨u,v3⟩,h3,h⟩:=Option.bind_eq_some_iff.mp h
  cases h
  obtain⟨ok2,e3⟩:=jF h3
  refine⟨⟨ok1,ok2⟩,?_⟩
  rw[e1,fU h2,e3]
  unfold ak
  simp
 ·obtain⟨v2,h2,h⟩:=Option.bind_eq_some_iff.mp h
  obtain⟨⟨u,v3⟩,h3,h⟩:=Option.bind_eq_some_iff.mp h
  cases h
  obtain⟨ok2,e3⟩:=jF h3
  refine⟨⟨ok1,ok2⟩,?_⟩
  rw[e1,fU h2,e3]
  unfold ak
  simp
def qV (v:List Nat):Option (Nat×List Nat):=match v with
 | c::r=>if cJ c=true then some (c-48,r) else none
 | []=>none
def gK (v:List Nat):Option (ao×List Nat):=(mz v).bind fun q=>if [32,61,32].isPrefixOf q.2.2=true then((qV (q.2.2.drop 3)).bind fun g=>some (.sign q.1 q.2.1 (g.1:Nat),g.2)) else((cK [32,126,32] q.2.2).bind fun v2=>(mz v2).bind fun q2=>some (.alike q.1 q.2.1 q2.1 q2.2.1,q2.2.2))
theorem wO {v r:List Nat} {f:ao} (h:gK v=some (f,r)):f.Ok∧v=ak f++r:=by
 unfold gK at h
 obtain⟨⟨a,t,v1⟩,h1,h⟩:=Option.bind_eq_some_iff.mp h
 obtain⟨ha,ok1,e1⟩:=sf h1
 dsimp only at h
 split at h
 ·rename_i hp
  obtain⟨⟨g,v2⟩,h2,h⟩:=Option.bind_eq_some_iff.mp h
  cases h
  have e2:=dC hp
  unfold qV at h2
  split at h2
  ·rename_i c r' e3
   split at h2
   ·rename_i hc
    cases h2
    have hc:=eI.mp hc
    refine⟨⟨ha,ok1,by show(0:Int)≤((c-48:Nat):Int);omega,by show((c-48:Nat):Int)<10;omega⟩,?_⟩
    rw[e1,e2]
    unfold ak
    rw[show(48+(((c-48:Nat):Int)).toNat)=c by omega]
    show _++([32,61,32]++v1.drop 3)=_
    rw[e3]
    simp
   ·cases h2
  ·cases h2
 ·obtain⟨v2,h2,h⟩:=Option.bind_eq_some_iff.mp h
  obtain⟨⟨b,u,v3⟩,h3,h⟩:=Option.bind_eq_some_iff.mp h
  cases h
  obtain⟨hb,ok2,e3⟩:=sf h3
  refine⟨⟨ha,ok1,hb,ok2⟩,?_⟩
  rw[e1,fU h2,e3]
  unfold ak
  simp
def gD (v:List Nat):Option (ao×List Nat):=if v.takeWhile bQ=[] then gJ v else gK v
theorem yI {v r:List Nat} {f:ao} (h:gD v=some (f,r)):f.Ok∧v=ak f++r:=by
 unfold gD at h
 split at h
 ·exact wN h
 ·exact wO h
theorem uD {t:Term} (ok:bZ t) (r:List Nat):(aQ t++r).takeWhile bQ=[]:=by
 cases e:aQ t with
 | nil=>
  exfalso
  have:=nX ok
  rw[e] at this
  exact absurd this (by rw[show ig (txt [])=none by decide+kernel];exact fun z=>by cases z)
 | cons c l=>
  have hc:=kj.mp (k_ ok c (by rw[e];exact List.mem_cons_self))
  rw[List.cons_append,List.takeWhile_cons,show bQ c=false by
   cases q:bQ c with
   | false=>rfl
   | true=>have:=j8.mp q;omega]
  rfl
theorem wQ {a:Str} {t:Term} (ha:nameB bX a=true) (r:List Nat):(atT a t++r).takeWhile bQ≠[]:=by
 have e:atT a t++r=az a++(91::(aQ t++(93::r))):=by unfold atT;simp
 rw[e,(md (p:=bQ) (uC ha) (cT (c:=91) (r:=aQ t++(93::r)) (by decide))).1]
 intro z
 have:=(cj ha).1
 rw[bE,z] at this
 exact absurd this (by decide)
def ao.atom:ao→Bool
 | .same _ _=>true
 | .less _ _=>true
 | .sign _ _ _=>true
 | .alike _ _ _ _=>true
 | _=>false
theorem EA {f:ao} {r:List Nat} (at':f.atom=true) (ok:f.Ok) (st:Stop fb r):gD (ak f++r)=some (f,r):=by
 cases f with
 | same t u=>
  obtain⟨o1,o2⟩:=ok
  unfold gD ak
  rw[List.append_assoc,if_pos (uD o1 _)]
  unfold gJ
  rw[List.append_assoc,lj o1 (show Stop fb ([32,61,32]++(aQ u++r)) from cT (by decide)),Option.bind_some]
  dsimp only
  rw[if_neg (by show ¬(false=true);decide),fD,Option.bind_some,lj o2 st];rfl
 | less t u=>
  obtain⟨o1,o2⟩:=ok
  unfold gD ak
  rw[List.append_assoc,if_pos (uD o1 _)]
  unfold gJ
  rw[List.append_assoc,lj o1 (show Stop fb ([32,60,32]++(aQ u++r)) from cT (by decide)),Option.bind_some]
  dsimp only
  rw[if_pos (fT [32,60,32] _),fD,Option.bind_some,lj o2 st];rfl
 | sign a t s=>
  obtain⟨ha,o1,s0,s9⟩:=ok
  unfold gD ak
  rw[List.append_assoc,if_neg (wQ ha _)]
  unfold gK
  rw[tE ha o1,Option.bind_some]
  dsimp only
  rw[List.append_assoc,if_pos (fT [32,61,32] _)]
  show(qV ((48+s.toNat)::r)).bind _=_
  unfold qV
  dsimp only
  rw[if_pos (eI.mpr (by omega))]
  show some (ao.sign a t ((48+s.toNat-48:Nat):Int),r)=_
  rw[show((48+s.toNat-48:Nat):Int)=s by omega]
 | alike a t b u=>
  obtain⟨ha,o1,hb,o2⟩:=ok
  unfold gD ak
  rw[List.append_assoc,if_neg (wQ ha _)]
  unfold gK
  rw[tE ha o1,Option.bind_some]
  dsimp only
  rw[List.append_assoc,if_neg (by show ¬(false=true);decide),fD,Option.bind_some,tE hb o2];rfl
 | _=>cases at'
inductive Hd where
 | par | no | some (n:Str) | each (n:Str) | and (f:ao) | or (f:ao)
def openP (v:List Nat):Option (Option (Hd×List Nat)):=
 if [40].isPrefixOf v=true then some (some (.par,v.drop 1))
 else if [110,111,116,32].isPrefixOf v=true then some (some (.no,v.drop 4))
 else if [115,111,109,101,32].isPrefixOf v=true∨[101,97,99,104,32].isPrefixOf v=true then
  (if nameB bU (txt ((v.drop 5).takeWhile bT))=true then((cK [32] ((v.drop 5).dropWhile bT)).bind fun r=>
   some (some (if [115,111,109,101,32].isPrefixOf v=true then .some (txt ((v.drop 5).takeWhile bT)) else .each (txt ((v.drop 5).takeWhile bT)),r))) else none)
 else some none
def bt:List Nat→List Hd→ao→Option (Option ao×List Nat×List Hd)
 | v,[],f=>some (some f,v,[])
 | v,.par::w,f=>if [32,111,114,32].isPrefixOf v=true then some (none,v.drop 4,.or f::w) else(cK [32,97,110,100,32] v).bind fun r=>some (none,r,.and f::w)
 | v,.and g::w,f=>(cK [41] v).bind fun r=>bt r w (.and g f)
 | v,.or g::w,f=>(cK [41] v).bind fun r=>bt r w (.or g f)
 | v,.no::w,f=>bt v w (.no f)
 | v,.some n::w,f=>bt v w (.some n f)
 | v,.each n::w,f=>bt v w (.each n f)
def run:Nat→List Nat→List Hd→Option (ao×List Nat)
 | 0,_,_=>none
 | n+1,v,w=>match openP v with
  | none=>none
  | some (some (h,v'))=>run n v' (h::w)
  | some none=>match gD v with
   | none=>none
   | some (a,v2)=>match bt v2 w a with
    | none=>none
    | some (some f,v3,_)=>some (f,v3)
    | some (none,v3,w3)=>run n v3 w3
def qk (z:Str):Option ao:=match run ((az z).length+1) (az z) [] with
 | some (f,[])=>some f
 | _=>none
def cont (n:Nat) (v:List Nat) (w:List Hd) (f:ao):Option (ao×List Nat):=match bt v w f with
 | none=>none
 | some (some f,v3,_)=>some (f,v3)
 | some (none,v3,w3)=>run n v3 w3
theorem A3 {n:Str} {r:List Nat} (hn:nameB bU n=true):openP ([115,111,109,101,32]++(az n++32::r))=some (some (.some n,r)):=by
 obtain⟨h1,h2⟩:=md (p:=bT) (bR hn).2.2.1 (cT (c:=32) (r:=r) (by decide))
 unfold openP
 rw[if_neg (by show ¬(false=true);decide),if_neg (by show ¬(false=true);decide),if_pos (.inl (fT _ _))]
 have e5:List.drop 5 (([115,111,109,101,32]:List Nat)++(az n++32::r))=az n++32::r:=rfl
 rw[e5,h1,h2,gY,if_pos hn,show(32::r)=[32]++r from rfl,fD,Option.bind_some,if_pos (fT _ _)]
theorem A4 {n:Str} {r:List Nat} (hn:nameB bU n=true):openP ([101,97,99,104,32]++(az n++32::r))=some (some (.each n,r)):=by
 obtain⟨h1,h2⟩:=md (p:=bT) (bR hn).2.2.1 (cT (c:=32) (r:=r) (by decide))
 unfold openP
 rw[if_neg (by show ¬(false=true);decide),if_neg (by show ¬(false=true);decide),if_pos (.inr (fT _ _))]
 have e5:List.drop 5 (([101,97,99,104,32]:List Nat)++(az n++32::r))=az n++32::r:=rfl
 rw[e5,h1,h2,gY,if_pos hn,show(32::r)=[32]++r from rfl,fD,Option.bind_some,if_neg (by show ¬(false=true);decide)]
theorem tF {v p:List Nat} {c:Nat} (hp:∀x∈p,fb x=true) (hc:fb c=false) (h:(p++[c]).isPrefixOf v=true):v.takeWhile fb=p:=by
 have e:=dC h
 rw[e,List.append_assoc]
 exact(md hp (cT hc)).1
theorem A5 {f:ao} {r:List Nat} (at':f.atom=true) (ok:f.Ok):openP (ak f++r)=some none:=by
 have term:∀{t:Term} {x:List Nat},bZ t→openP (aQ t++32::x)=some none:=fun {t x} o=>by
  have tk:=(md (p:=fb) (k_ o) (cT (c:=32) (r:=x) (by decide))).1
  have no:∀l:List Nat,ig (txt l)=none→aQ t≠l:=fun l hl e=>by
   have:=nX o
   rw[e,hl] at this
   cases this
  have n0:=no [] (by decide+kernel)
  unfold openP
  have g1:¬([40].isPrefixOf (aQ t++32::x)=true):=by
   intro h
   have e:=dC h
   cases et:aQ t with
   | nil=>exact n0 et
   | cons c l=>
    rw[et] at e
    have hc:c=40:=(List.cons.inj e).1
    have:=k_ o c (by rw[et];exact List.mem_cons_self)
    rw[hc] at this
    exact absurd this (by decide)
  have g2:¬([110,111,116,32].isPrefixOf (aQ t++32::x)=true):=by
   intro h
   have:=tF (p:=[110,111,116]) (c:=32) (by decide) (by decide) h
   rw[tk] at this
   exact no _ (by decide+kernel) this
  have g3:¬([115,111,109,101,32].isPrefixOf (aQ t++32::x)=true∨[101,97,99,104,32].isPrefixOf (aQ t++32::x)=true):=by
   rintro(h | h)
   ·have:=tF (p:=[115,111,109,101]) (c:=32) (by decide) (by decide) h
    rw[tk] at this
    exact no _ (by decide+kernel) this
   ·have:=tF (p:=[101,97,99,104]) (c:=32) (by decide) (by decide) h
    rw[tk] at this
    exact no _ (by decide+kernel) this
  rw[if_neg g1,if_neg g2,if_neg g3]
 have row:∀{a:Str} {t:Term} {x:List Nat},nameB bX a=true→openP (atT a t++x)=some none:=fun {a t x} ha=>by
  have h1:=(cj ha).1
  cases ea:az a with
  | nil=>rw[bE,ea] at h1;exact absurd h1 (by decide)
  | cons c l=>
   have hc:=(cj ha).2.2 c (by rw[ea];exact List.mem_cons_self)
   have no:∀d p,(d<65∨90<d)→¬((d::p).isPrefixOf (atT a t++x)=true):=fun d p hd h=>by
    have e:=dC h
    unfold atT at e
    rw[ea] at e
    have:=(List.cons.inj e).1
    omega
   unfold openP
   rw[if_neg (no _ _ (by decide)),if_neg (no _ _ (by decide)),if_neg (by rintro(h | h);exact no _ _ (by decide) h;exact no _ _ (by decide) h)]
 cases f with
 | same t u=>unfold ak;rw[List.append_assoc,List.append_assoc];exact term ok.1
 | less t u=>unfold ak;rw[List.append_assoc,List.append_assoc];exact term ok.1
 | sign a t s=>unfold ak;rw[List.append_assoc];exact row ok.1
 | alike a t b u=>unfold ak;rw[List.append_assoc];exact row ok.1
 | _=>cases at'
theorem IU:∀(f:ao) (m:Nat) (r:List Nat) (w:List Hd),f.Ok→Stop fb r→run (m+f.nodes) (ak f++r) w=cont m r w f:=by
 have ve:∀(f:ao) (m:Nat) (r:List Nat) (w:List Hd),f.atom=true→f.Ok→Stop fb r→run (m+1) (ak f++r) w=cont m r w f:=fun f m r w ha ok st=>by
  show(match openP (ak f++r) with | none=>none | some (some (h,v'))=>run m v' (h::w) | some none=>_)=_
  rw[A5 ha ok,EA ha ok st];rfl
 intro f
 induction f with
 | same t u=>intro m r w ok st;exact ve _ m r w rfl ok st
 | less t u=>intro m r w ok st;exact ve _ m r w rfl ok st
 | sign a t s=>intro m r w ok st;exact ve _ m r w rfl ok st
 | alike a t b u=>intro m r w ok st;exact ve _ m r w rfl ok st
 | no f ih=>
  intro m r w ok st
  show run (m+f.nodes+1) ([110,111,116,32]++(ak f++r)) w=_
  show run (m+f.nodes) (ak f++r) (.no::w)=_
  rw[ih m r (.no::w) ok st];rfl
 | some n f ih=>
  intro m r w ok st
  have e:ak (.some n f)++r=[115,111,109,101,32]++(az n++32::(ak f++r)):=by simp[ak]
  rw[e]
  show(match openP ([115,111,109,101,32]++(az n++32::(ak f++r))) with | none=>none | some (some (h,v'))=>run (m+f.nodes) v' (h::w) | some none=>_)=_
  rw[A3 ok.1]
  show run (m+f.nodes) (ak f++r) (.some n::w)=_
  rw[ih m r (.some n::w) ok.2 st];rfl
 | each n f ih=>
  intro m r w ok st
  have e:ak (.each n f)++r=[101,97,99,104,32]++(az n++32::(ak f++r)):=by simp[ak]
  rw[e]
  show(match openP ([101,97,99,104,32]++(az n++32::(ak f++r))) with | none=>none | some (some (h,v'))=>run (m+f.nodes) v' (h::w) | some none=>_)=_
  rw[A4 ok.1]
  show run (m+f.nodes) (ak f++r) (.each n::w)=_
  rw[ih m r (.each n::w) ok.2 st];rfl
 | and f g ih1 ih2=>
  intro m r w ok st
  have e:ak (.and f g)++r=40::(ak f++([32,97,110,100,32]++(ak g++(41::r)))):=by simp[ak]
  rw[e]
  show run (m+(f.nodes+g.nodes+1)) _ w=_
  rw[show m+(f.nodes+g.nodes+1)=(m+g.nodes+f.nodes)+1 by omega]
  show run (m+g.nodes+f.nodes) (ak f++([32,97,110,100,32]++(ak g++(41::r)))) (.par::w)=_
  rw[ih1 _ ([32,97,110,100,32]++(ak g++(41::r))) _ ok.1 (cT (c:=32) (by decide))]
  show(match (if [32,111,114,32].isPrefixOf ([32,97,110,100,32]++(ak g++(41::r)))=true then some (none,([32,97,110,100,32]++(ak g++(41::r))).drop 4,Hd.or f::w) else(cK [32,97,110,100,32] ([32,97,110,100,32]++(ak g++(41::r)))).bind fun r=>some (none,r,Hd.and f::w):Option (Option ao×List Nat×List Hd)) with | none=>none | some (some f,v3,_)=>some (f,v3) | some (none,v3,w3)=>run (m+g.nodes) v3 w3)=_
  rw[if_neg (by show ¬(false=true);decide),fD]
  show run (m+g.nodes) (ak g++(41::r)) (.and f::w)=_
  rw[ih2 _ _ _ ok.2 (cT (by decide))]
  have e2:bt (41::r) (.and f::w) g=bt r w (.and f g):=by
   show(cK [41] ([41]++r)).bind (fun r=>bt r w (.and f g))=_
   rw[fD];rfl
  unfold cont
  rw[e2]
 | or f g ih1 ih2=>
  intro m r w ok st
  have e:ak (.or f g)++r=40::(ak f++([32,111,114,32]++(ak g++(41::r)))):=by simp[ak]
  rw[e]
  show run (m+(f.nodes+g.nodes+1)) _ w=_
  rw[show m+(f.nodes+g.nodes+1)=(m+g.nodes+f.nodes)+1 by omega]
  show run (m+g.nodes+f.nodes) (ak f++([32,111,114,32]++(ak g++(41::r)))) (.par::w)=_
  rw[ih1 _ ([32,111,114,32]++(ak g++(41::r))) _ ok.1 (cT (c:=32) (by decide))]
  show(match (if [32,111,114,32].isPrefixOf ([32,111,114,32]++(ak g++(41::r)))=true then some (none,([32,111,114,32]++(ak g++(41::r))).drop 4,Hd.or f::w) else(cK [32,97,110,100,32] ([32,111,114,32]++(ak g++(41::r)))).bind fun r=>some (none,r,Hd.and f::w):Option (Option ao×List Nat×List Hd)) with | none=>none | some (some f,v3,_)=>some (f,v3) | some (none,v3,w3)=>run (m+g.nodes) v3 w3)=_
  rw[if_pos (fT _ _)]
  show run (m+g.nodes) (ak g++(41::r)) (.or f::w)=_
  rw[ih2 _ _ _ ok.2 (cT (by decide))]
  have e2:bt (41::r) (.or f::w) g=bt r w (.or f g):=by
   show(cK [41] ([41]++r)).bind (fun r=>bt r w (.or f g))=_
   rw[fD];rfl
  unfold cont
  rw[e2]
theorem fW:∀f:ao,f.nodes≤(ak f).length
 | .same t u=>by simp[ak,ao.nodes];try omega
 | .less t u=>by simp[ak,ao.nodes];try omega
 | .sign a t s=>by simp[ak,ao.nodes];try omega
 | .alike a t b u=>by simp[ak,ao.nodes];try omega
 | .no f=>by have:=fW f;simp[ak,ao.nodes];try omega
 | .and f g=>by have:=fW f;have:=fW g;simp[ak,ao.nodes];try omega
 | .or f g=>by have:=fW f;have:=fW g;simp[ak,ao.nodes];try omega
 | .some n f=>by have:=fW f;simp[ak,ao.nodes];try omega
 | .each n f=>by have:=fW f;simp[ak,ao.nodes];try omega
theorem jm {f:ao} {z:Str} (ok:f.Ok) (e:az z=ak f):qk z=some f:=by
 have hl:=fW f
 have:=IU f ((ak f).length+1-f.nodes) [] [] ok Ez
 rw[show(ak f).length+1-f.nodes+f.nodes=(ak f).length+1 by omega,List.append_nil] at this
 unfold qk
 rw[e,this];rfl
def FD (ss:List Str):Prop:=ss.Nodup∧∀x∈ss,nameB bU x=true
def IV (rs:List Str):Prop:=∀x∈rs,nameB bX x=true
def dH (t:Term):Prop:=bZ t∧t.parts.length≤3
def ao.dw:ao→Prop
 | .same t u=>dH t∧dH u
 | .less t u=>dH t∧dH u
 | .sign a t s=>nameB bX a=true∧dH t∧0≤s∧s<10
 | .alike a t b u=>nameB bX a=true∧dH t∧nameB bX b=true∧dH u
 | .no f=>f.dw
 | .and f g=>f.dw∧g.dw
 | .or f g=>f.dw∧g.dw
 | .some n f=>nameB bU n=true∧f.dw
 | .each n f=>nameB bU n=true∧f.dw
theorem ao.dw.ok:∀{f:ao},f.dw→f.Ok
 | .same _ _,h=>⟨h.1.1,h.2.1⟩
 | .less _ _,h=>⟨h.1.1,h.2.1⟩
 | .sign _ _ _,h=>⟨h.1,h.2.1.1,h.2.2⟩
 | .alike _ _ _ _,h=>⟨h.1,h.2.1.1,h.2.2.1,h.2.2.2.1⟩
 | .no f,h=>ao.dw.ok (f:=f) h
 | .and f g,h=>⟨ao.dw.ok (f:=f) h.1,ao.dw.ok (f:=g) h.2⟩
 | .or f g,h=>⟨ao.dw.ok (f:=f) h.1,ao.dw.ok (f:=g) h.2⟩
 | .some _ f,h=>⟨h.1,ao.dw.ok (f:=f) h.2⟩
 | .each _ f,h=>⟨h.1,ao.dw.ok (f:=f) h.2⟩
def ao.comps:ao→Nat
 | .no f=>f.comps+1
 | .and f g=>f.comps+g.comps+1
 | .or f g=>f.comps+g.comps+1
 | .some _ f=>f.comps+1
 | .each _ f=>f.comps+1
 | _=>0
theorem me {p:Str×Int} (h:i_ p):(bo p).length≤4:=by
 have h1:=(bR h.1).2.1
 unfold bo
 rw[List.length_append,←bE]
 split
 ·simp;omega
 ·simp;omega
theorem cq {t:Term} (h:dH t):(aQ t).length≤20∧1≤(aQ t).length:=by
 have h1:=tD (c:=43) (bB t)
 have h2:((bB t).map List.length).sum≤14:=by
  unfold bB
  rw[List.map_append,List.sum_append,List.map_map]
  have h3:=wK (l:=t.parts.map (List.length∘bo)) (k:=4) (fun x hx=>by
   obtain⟨p,hp,rfl⟩:=List.mem_map.mp hx
   exact me (h.1.2.2 p hp))
  rw[List.length_map] at h3
  have h4:=h.2
  have h5:((if t.num≠0∨t.parts=[] then [dU t.num.toNat] else []).map List.length).sum≤2:=by
   split
   ·have:=(kZ (n:=t.num.toNat)).1
    simp;exact this
   ·simp
  omega
 have h3:(bB t).length≤4:=by
  unfold bB
  rw[List.length_append,List.length_map]
  have:=h.2
  split
  ·simp;omega
  ·simp;omega
 refine⟨by unfold aQ;omega,?_⟩
 cases e:aQ t with
 | nil=>
  exfalso
  have:=nX h.1
  rw[e] at this
  exact absurd this (by rw[show ig (txt [])=none by decide+kernel];exact fun z=>by cases z)
 | cons c l=>simp
theorem tG {a:Str} {t:Term} (ha:nameB bX a=true) (h:dH t):(atT a t).length≤25:=by
 have h1:=(cj ha).2.1
 have h2:=(cq h).1
 unfold atT
 simp only[List.length_append,List.length_cons,List.length_nil,←bE]
 omega
theorem gL:∀{f:ao},f.dw→(ak f).length≤60*(f.comps+1)+10*f.comps
 | .same t u,h=>by have:=(cq h.1).1;have:=(cq h.2).1;simp[ak,ao.comps];omega
 | .less t u,h=>by have:=(cq h.1).1;have:=(cq h.2).1;simp[ak,ao.comps];omega
 | .sign a t s,h=>by have:=tG h.1 h.2.1;simp[ak,ao.comps];omega
 | .alike a t b u,h=>by have:=tG h.1 h.2.1;have:=tG h.2.2.1 h.2.2.2;simp[ak,ao.comps];omega
 | .no f,h=>by have:=gL (f:=f) h;simp[ak,ao.comps];omega
 | .and f g,h=>by have:=gL h.1;have:=gL h.2;simp[ak,ao.comps];omega
 | .or f g,h=>by have:=gL h.1;have:=gL h.2;simp[ak,ao.comps];omega
 | .some n f,h=>by have:=gL h.2;have h1:=(bR h.1).2.1;simp only[ak,ao.comps,List.length_append,List.length_cons,List.length_nil,←bE];omega
 | .each n f,h=>by have:=gL h.2;have h1:=(bR h.1).2.1;simp only[ak,ao.comps,List.length_append,List.length_cons,List.length_nil,←bE];omega
theorem A6 {x:Str} (h:nV false x):nameB bU x=true:=by
 obtain⟨h1,h2,h3,h4⟩:=h
 unfold nameB
 rw[decide_eq_true h1,decide_eq_true h2,decide_eq_false h4]
 have:iZ x bU=true:=by
  unfold iZ
  rw[List.all_eq_true]
  exact fun c hc=>decide_eq_true (h3 c hc)
 rw[this];rfl
theorem wR {l:List Str} (h:PyProof.Rows.sortedS l=true):l.Pairwise fun a b=>PySem.Spec.ltCps b.cps.toList a.cps.toList=false:=by
 rw[List.pairwise_iff_getElem]
 intro i j hi hj hij
 rw[PyProof.Rows.ltCps_eq]
 exact decide_eq_false (List.not_lt.mpr (rO h (Nat.le_of_lt hij) (List.getElem?_eq_getElem hi) (List.getElem?_eq_getElem hj)))
theorem A7 {l m:List Str} (h:PyProof.Rows.sortedS l=true) (nd:l.Nodup) (s:m.Sublist l):rising m=true:=by
 unfold rising
 rw[PyProof.Rows.sortedS_of_pairwise _ ((wR h).sublist s),decide_eq_true (s.nodup nd)];rfl
def pz (x:Int):Int:=max x 0
def IW (K:PySem.W.Frag):Sp:=fun vs H Q _=>∃(d nm:Addr) (ss:List Str),vs=[.ref d,.ref nm]∧bV H d∧bW K H nm (ss.map V.str)∧nm≠d∧ss.length≤10∧FD ss∧
 ∀(p:Addr) (t:Term) (H':Hp),aq K H' (.ref p) t.dt→dH t→(∀q∈t.parts,q.1∈ss)→KB d H H'→bV H' d→Q (.ref p) H'
def zI (K:PySem.W.Frag):Sp:=fun vs H Q _=>∃(d nm rw:Addr) (ss rs:List Str),vs=[.ref d,.ref nm,.ref rw]∧bV H d∧bW K H nm (ss.map V.str)∧nm≠d∧ss.length≤10∧FD ss∧bW K H rw (rs.map V.str)∧rw≠d∧rs.length≤10∧IV rs∧
 ∀(p:Addr) (f:ao) (H':Hp),aq K H' (.ref p) f.dt→f.deep=0∧f.dw→KB d H H'→bV H' d→Q (.ref p) H'
theorem FE (a b c:Int) (r:Int) (h0:0≤r) (h1:r<3):∃x,j2 ([.int a,.int b,.int c]:List V) r=some (.int x)∧(x=a∨x=b∨x=c):=by
 have:r=0∨r=1∨r=2:=by omega
 rcases this with rfl | rfl | rfl
 ·exact⟨a,rfl,.inl rfl⟩
 ·exact⟨b,rfl,.inr (.inl rfl)⟩
 ·exact⟨c,rfl,.inr (.inr rfl)⟩
theorem vf {α:Type} (a b:α) (r:Int) (h0:0≤r) (h1:r<2):∃x,j2 [a,b] r=some x∧(x=a∨x=b):=by
 have:r=0∨r=1:=by omega
 rcases this with rfl | rfl
 ·exact⟨a,rfl,.inl rfl⟩
 ·exact⟨b,rfl,.inr rfl⟩
theorem vg (ss:List Str) (r:Int) (h0:0≤r) (h1:r<ss.length):∃x,j2 (ss.map V.str) r=some (.str x)∧x∈ss:=by
 obtain⟨n,rfl⟩:∃n:Nat,r=(n:Int):=⟨r.toNat,by omega⟩
 have hn:n<ss.length:=by omega
 exact⟨ss[n],aj (by rw[List.getElem?_map,List.getElem?_eq_getElem hn];rfl),List.getElem_mem hn⟩
theorem pN:aY ["_law_deck_here","_law_names_here","_law_parts","_law_name"] ["_law_deck_here","_law_names_here"] (au jj):=⟨rfl,rfl,rfl,by decide+kernel,rfl,by decide+kernel,by decide+kernel⟩
theorem uE {a:dn} (T:Txt K mg a):aR P w K mg base cX 2 a.nP a.pe ["_law_deck_here","_law_names_here"] (IW K):=by
 have bA:=jS (P:=P) (w:=w) (base:=base) T
 refine T.El.ok pN (fun vs H Q E h=>?_) (fun cdv A outer s H vs Q E hr h=>?_)
 ·obtain⟨d,nm,ss,rfl,_⟩:=h
  rfl
 ·obtain⟨d,nm,ss,rfl,hd,hS,hne,hss,mB,k⟩:=h
  have bh:aP 1 _:=hr
  refine⟨_,(ai (aI (i:=2) pN.nd rfl (Or.inl rfl) (cx af))
  (ai (iK PassesOwn.never rfl (mH (bz (xW K) (by rfl) T.wx ua (ae (pv 1) af))) (cf (i:=3) pN.nd rfl (Or.inl rfl))
   (aw (bw (PW.pt (kr (aJ cb (av bA bh rfl T.bK T.bL T.bM .nil aM (ae (pv 0) (ae ah af))) ah (aN _)) (mG (aJ p9 (bz (bJ K) (by rfl) T.dm cz (ae (pv 2) af)) ah (aN _)))))
    (aw (dF (cU PySem.F.plainAttrs_list PySem.F.slot_list_append PySem.F.type_list_append cQ (pv 2) (ae (aX (ae (pv 3) (ae (aD cN ah (av bA bh rfl T.bK T.bL T.bM .nil aM (ae (pv 0) (ae (aB (bH K) (cx (ae ah (ae ah (ae ah af)))) (av bA bh rfl T.bK T.bL T.bM .nil aM (ae (pv 0) (ae ah af))) (fun _ _=>rfl)) af)))) af))) af))))
    aS)))
  (aw (aL (aX (ae (aB (bH K) (cx (ae ah (ae (av bA bh rfl T.bK T.bL T.bM .nil aM (ae (pv 0) (ae ah af))) (ae (av bA bh rfl T.bK T.bL T.bM .nil aM (ae (pv 0) (ae ah af))) af)))) (av bA bh rfl T.bK T.bL T.bM .nil aM (ae (pv 0) (ae ah af))) (fun _ _=>rfl)) (ae (cL (qv K) (by rfl) T.zx vV (ae (pv 2) af)) af))))))),?_⟩
  refine⟨by decide,fun L hL=>?_⟩
  have s1:=Same.new (o:=.lst []) hL
  have wU:L≠d:=(hd.ne hL).symm
  refine⟨_,rfl,nm,ss,rfl,s1.seq hS,by omega,fun Z zs hZ hperm La=>⟨Z,rfl,⟨_,.of ag⟩,?_⟩⟩
  have LY:L≠Z:=aU ag hZ
  have IX:Z≠d:=(((hd.same s1).ne hZ)).symm
  refine vC (xs:=zs.map V.str) (fun i σ H'=>∃(xs:List V) (ps:List (Str×Int)) (v3:Option V),σ=[some (.ref d),some (.ref nm),some (.ref L),v3]∧KB d H H'∧bV H' d∧H' Z=some (.lst (zs.map V.str))∧H' L=some (.lst xs)∧aF K H' xs (ps.map eZ)∧ps.length≤3∧(∀q∈ps,q.1∈ss)∧(ps.map (·.1)).Sublist (zs.take i)∧∀q∈ps,1≤q.2∧q.2≤9)
   ⟨[],[],none,rfl,(s1.trans (Same.new hZ)).kb,(hd.same s1).same (Same.new hZ),ag,by rw[br LY];exact ag,a_,by simp,fun q h=>(nomatch h),by simp,fun q h=>(nomatch h)⟩ (fun i σ H' _ ⟨_,_,_,_,_,_,h,_⟩=>.of h) ?_ ?_
  ·rintro i x σ H1 hx ⟨xs,ps,v3,rfl,k1,d1,z1,l1,wV,lp,mp,sb,tms⟩
   obtain⟨z,rfl,hz⟩:=sV hx
   have tk:zs.take (i+1)=zs.take i++[z]:=by rw[List.take_add_one,hz];rfl
   have Cc:(ps.map (·.1)).Sublist (zs.take (i+1)):=by rw[tk];exact sb.trans (List.sublist_append_left _ _)
   have R5:z∈ss:=hperm.mem_iff.mp (List.mem_of_getElem? hz)
   have lx:xs.length=ps.length:=by rw[wV.length,List.length_map]
   refine⟨_,rfl,d,2,rfl,d1,by decide,fun r H2 r0 r1 k2 d2=>⟨rfl,_,rfl,?_⟩⟩
   have z2:=k2 _ _ z1 IX
   have l2:=k2 _ _ l1 wU
   have mY:=cg (d1.kts k2) _ _ (cS ps) wV
   refine dM (fun _=>?_) (fun _=>aG ⟨xs,ps,_,rfl,k1.trans k2,d2,z2,l2,mY,lp,mp,Cc,tms⟩)
   refine⟨_,rfl,_,xs.length,rfl,.inl ⟨_,.of l2,rfl⟩,_,_,rfl,rfl,_,rfl,?_⟩
   refine dM (fun hlt=>?_) (fun _=>⟨xs,ps,_,rfl,k1.trans k2,d2,z2,l2,mY,lp,mp,Cc,tms⟩)
   have hlt':xs.length<3:=by have:=of_decide_eq_true hlt;omega
   refine⟨_,rfl,.inl ⟨rfl,_,.of l2⟩,_,rfl,_,rfl,by show 3≤sizeLine;decide,fun O hO=>?_⟩
   have sO:=Same.new (o:=.lst [.int 1,.int 2,.int 9]) hO
   refine⟨_,rfl,d,3,rfl,d2.same sO,by decide,fun r' H3 zC r1' k3 d3=>?_⟩
   obtain⟨m,hm,R6⟩:=FE 1 2 9 r' zC r1'
   have CY:O≠d:=(d2.ne hO).symm
   refine⟨O,_,_,.int m,rfl,rfl,.of (k3 _ _ ag CY),hm,d,m,rfl,d3,by omega,fun q H4 q0 q1 k4 d4=>⟨_,_,rfl,rfl,by show 2≤sizeLine;decide,fun p hp=>?_⟩⟩
   have l4:=k4 _ _ (k3 _ _ (sO _ _ l2) wU) wU
   have z4:=k4 _ _ (k3 _ _ (sO _ _ z2) IX) IX
   have IY:=cg (d3.kts k4) _ _ (cS ps) (cg ((d2.same sO).kts k3) _ _ (cS ps) (cg sO.kts _ _ (cS ps) mY))
   have sp:=Same.new (o:=.tup [.str z,.int (1+q)]) hp
   have l5:=sp _ _ l4
   refine⟨L,_,_,rfl,rfl,l5,Nat.lt_of_lt_of_le (show xs.length<10 by omega) (by decide),xs++[.ref p],ps++[(z,1+q)],_,rfl,?_,?_,?_,ag,?_,?_,?_,?_,?_⟩
   ·intro b o e n
    have n1:b≠L:=aU e hL
    rw[br n1]
    exact sp _ _ (k4 _ _ (k3 _ _ (sO _ _ (k2 _ _ (k1 _ _ e n) n)) n) n)
   ·exact(d4.same sp).kb KB.write wU.symm
   ·rw[br LY.symm];exact sp _ _ z4
   ·rw[List.map_append]
    have kk:eJ K (upd H4 p (.tup [.str z,.int (1+q)])) (upd (upd H4 p (.tup [.str z,.int (1+q)])) L (.lst (xs++[.ref p]))):=KB.kts l5 KB.write
    refine cg kk _ _ ?_ (nH (cg sp.kts _ _ (cS ps) IY) (ax (bP (.of ag) (ax bu (ax jd a_))) a_))
    rw[vZ,cS]
    simp[eZ,Dt.bb,Dt.dP]
   ·rw[List.length_append];show ps.length+1≤3;omega
   ·intro y hy
    rcases List.mem_append.mp hy with e | e
    ·exact mp y e
    ·have:y=(z,1+q):=by simpa using e
     subst this;exact R5
   ·rw[List.map_append,tk];exact List.Sublist.append sb (List.Sublist.refl _)
   ·intro y hy
    rcases List.mem_append.mp hy with e | e
    ·exact tms y e
    ·have:y=(z,1+q):=by simpa using e
     subst this
     show(1:Int)≤1+q∧1+q≤9
     omega
  ·rintro σ H1 ⟨xs,ps,v3,rfl,k1,d1,z1,l1,wV,lp,mp,sb,tms⟩
   rw[List.length_map,List.take_length] at sb
   have lx:xs.length=ps.length:=by rw[wV.length,List.length_map]
   refine⟨_,rfl,d,5,rfl,d1,by decide,fun r1 H2 a1 a2 k2 d2=>?_⟩
   refine⟨_,rfl,d,100,rfl,d2,by decide,fun r2 H3 a3 a4 k3 d3=>⟨by show 3≤sizeLine;decide,fun O hO=>?_⟩⟩
   have sO:=Same.new (o:=.lst [.int 0,.int r1,.int r2]) hO
   have CY:O≠d:=(d3.ne hO).symm
   refine⟨_,rfl,d,3,rfl,d3.same sO,by decide,fun r H4 r0 r1' k4 d4=>?_⟩
   obtain⟨m,hm,R6⟩:=FE 0 r1 r2 r r0 r1'
   have l4:=k4 _ _ (sO _ _ (k3 _ _ (k2 _ _ l1 wU) wU)) wU
   have IY:=cg ((d3.same sO).kts k4) _ _ (cS ps) (cg sO.kts _ _ (cS ps) (cg (d2.kts k3) _ _ (cS ps) (cg (d1.kts k2) _ _ (cS ps) wV)))
   refine⟨O,_,_,.int m,rfl,rfl,.of (k4 _ _ ag CY),hm,_,rfl,L,xs,rfl,.inl ⟨.of l4,fun t ht=>⟨by show 2≤sizeLine;decide,fun p hp=>?_⟩⟩⟩
   have st:=Same.new (o:=.tup xs) ht
   have sp:=Same.new (o:=.tup [.int m,.ref t]) hp
   refine k p ⟨m,ps⟩ _ (bP (.of ag) (ax jd (ax (bP (sp.dr (.of ag)) (cg (st.trans sp).kts _ _ (cS ps) IY)) a_))) ⟨⟨⟨by show 0≤m;omega,by show m<100;omega⟩,A7 La (hperm.nodup_iff.mpr mB.1) sb,fun q hq=>⟨mB.2 _ (mp q hq),tms q hq⟩⟩,lp⟩ mp ?_ ((d4.same st).same sp)
   exact((((k1.trans k2).trans k3).trans sO.kb).trans k4).trans (st.trans sp).kb
theorem ka:aY ["_law_deck_here","_law_names_here","_law_rows","_law_goes","_law_one","_law_other"] ["_law_deck_here","_law_names_here","_law_rows"] (au iA):=⟨rfl,rfl,rfl,by decide+kernel,rfl,by decide+kernel,by decide+kernel⟩
theorem A8 {a:dn} (T:Txt K mg a):aR P w K mg base cX 3 a.lU a.nQ ["_law_deck_here","_law_names_here","_law_rows"] (zI K):=by
 have bA:=jS (P:=P) (w:=w) (base:=base) T
 have nY:=uE (P:=P) (w:=w) (base:=base) T
 refine T.CH.ok ka (fun vs H Q E h=>?_) (fun cdv A outer s H vs Q E hr h=>?_)
 ·obtain⟨d,nm,rw,ss,rs,rfl,_⟩:=h
  rfl
 ·obtain⟨d,nm,rw,ss,rs,rfl,hd,hS,hne,hss,mB,hR,hnr,hrs,tH,k⟩:=h
  have bh:aP 1 _:=hr.mono (by decide)
  have mf:aP 2 _:=hr
  refine⟨_,(ai (aI (i:=3) ka.nd rfl (Or.inl rfl) (av bA bh rfl T.bK T.bL T.bM .nil aM (ae (pv 0) (ae ah af))))
  (ai (aI (i:=4) ka.nd rfl (Or.inl rfl) (av nY mf rfl T.qP T.qQ T.qR .nil aM (ae (pv 0) (ae (pv 1) af))))
  (ai (aI (i:=5) ka.nd rfl (Or.inl rfl) (av nY mf rfl T.qP T.qQ T.qR .nil aM (ae (pv 0) (ae (pv 1) af))))
  (ai (bw (PW.pt (gC (aJ cb (pv 3) ah (aN _)) (gE (aJ (B6 K hr.units) (pv 2) (cx af) (aN _)))))
   (aw (aL (aX (ae (aB (bH K) (cx (ae ay (ae ay af))) (av bA bh rfl T.bK T.bL T.bM .nil aM (ae (pv 0) (ae ah af))) (fun _ _=>rfl)) (ae (pv 4) (ae (pv 5) af))))))
   aS)
  (ai (bw (aJ cb (pv 3) ah (aN _))
   (aw (aL (aX (ae ay (ae (pv 4) (ae (pv 5) af))))))
   aS)
  (ai (bw (aJ cb (pv 3) ah (aN _))
   (aw (aL (aX (ae ay (ae (aB (bH K) (pv 2) (av bA bh rfl T.bK T.bL T.bM .nil aM (ae (pv 0) (ae (bz (bJ K) (by rfl) T.dm cz (ae (pv 2) af)) af))) (fun _ _=>rfl)) (ae (pv 4) (ae (av bA bh rfl T.bK T.bL T.bM .nil aM (ae (pv 0) (ae (aB (bH K) (cx (ae ah (ae ah af))) (av bA bh rfl T.bK T.bL T.bM .nil aM (ae (pv 0) (ae ah af))) (fun _ _=>rfl)) af))) af)))))))
   aS)
  (aw (aL (aX (ae ay (ae (aB (bH K) (pv 2) (av bA bh rfl T.bK T.bL T.bM .nil aM (ae (pv 0) (ae (bz (bJ K) (by rfl) T.dm cz (ae (pv 2) af)) af))) (fun _ _=>rfl)) (ae (pv 4) (ae (aB (bH K) (pv 2) (av bA bh rfl T.bK T.bL T.bM .nil aM (ae (pv 0) (ae (bz (bJ K) (by rfl) T.dm cz (ae (pv 2) af)) af))) (fun _ _=>rfl)) (ae (pv 5) af)))))))))))))),?_⟩
  refine⟨_,rfl,d,4,rfl,hd,by decide,fun go H1 g0 g1 k1 d1=>?_⟩
  refine⟨_,rfl,_,rfl,d,nm,ss,rfl,d1,k1.seq hne hS,hne,hss,mB,fun p1 t1 H2 wV o1 _ k2 d2=>?_⟩
  have k12:=k1.trans k2
  refine⟨_,rfl,_,rfl,d,nm,ss,rfl,d2,k12.seq hne hS,hne,hss,mB,fun p2 t2 H3 mY o2 _ k3 d3=>?_⟩
  have k13:=k12.trans k3
  have IZ:=aA (d2.kts k3) _ _ t1.bb wV
  have LZ:=k13.seq hnr hR
  have case1:∀H4,Same H3 H4→∀(Q':VK),(∀(p:Addr) (f:ao) (H':Hp),aq K H' (.ref p) f.dt→f.deep=0∧f.dw→KB d H H'→bV H' d→Q' (.ref p) H')→
    DB (h8 (vD (DD K) (Hv (h8 (tC (.str "same")) (h8 (tC (.str "less")) iM))) (Fb zA [] E0 (h8 (mw 0) (h8 (tC (.int 2)) iM)))) (h8 (mw 4) (h8 (mw 5) iM)))
     [some (.ref d),some (.ref nm),some (.ref rw),some (.int go),some (.ref p1),some (.ref p2)] H4 Q':=by
   intro H4 s4 Q' k'
   have d4:=d3.same s4
   refine⟨by show 2≤sizeLine;decide,fun O hO=>?_⟩
   have sO:=Same.new (o:=.lst [.str "same",.str "less"]) hO
   have CY:O≠d:=(d4.ne hO).symm
   refine⟨_,rfl,d,2,rfl,d4.same sO,by decide,fun r H5 r0 r1 k5 d5=>?_⟩
   obtain⟨x,hx,hv⟩:=vf (V.str "same") (V.str "less") r r0 r1
   refine⟨O,_,_,x,rfl,rfl,.of (k5 _ _ ag CY),hx,_,rfl,_,rfl,by show 3≤sizeLine;decide,fun p hp=>?_⟩
   have kk:eJ K H3 H5:=(s4.trans sO).kts.trans ((d4.same sO).kts k5)
   have a1:=aA kk _ _ t1.bb IZ
   have a2:=aA kk _ _ t2.bb mY
   have kf:KB d H (upd H5 p (.tup [x,.ref p1,.ref p2])):=((k13.trans (s4.trans sO).kb).trans k5).trans (Same.new hp).kb
   have b1:=aA (Same.new (o:=.tup [x,.ref p1,.ref p2]) hp).kts _ _ t1.bb a1
   have b2:=aA (Same.new (o:=.tup [x,.ref p1,.ref p2]) hp).kts _ _ t2.bb a2
   rcases hv with rfl | rfl
   ·exact k' p (.same t1 t2) _ (bP (.of ag) (ax bu (ax b1 (ax b2 a_)))) ⟨rfl,o1,o2⟩ kf (d5.same (Same.new hp))
   ·exact k' p (.less t1 t2) _ (bP (.of ag) (ax bu (ax b1 (ax b2 a_)))) ⟨rfl,o1,o2⟩ kf (d5.same (Same.new hp))
  refine⟨_,rfl,rfl,_,rfl,?_⟩
  refine dM (fun _=>bf (case1 H3 (Same.refl _) _ k)) (fun _=>?_)
  refine⟨_,rfl,by decide,fun O hO=>?_⟩
  have sO:=Same.new (o:=.lst []) hO
  refine⟨.lst (rs.map .str),.lst [],zp (sO.seq LZ) (ub rs),zp (.of ag) a_,rfl,rfl,?_,_,rfl,?_⟩
  ·have:∀l:List Str,Dt.deps (l.map Dt.str)=0:=fun l=>by
    induction l with
    | nil=>simp[Dt.deps]
    | cons y ys ih=>rw[List.map_cons,Dt.deps,ih];simp[Dt.dep]
   rw[Dt.dep,this];decide
  have eb:(if false=true then !(Dt.lst (rs.map .str)).beq (.lst []) else(Dt.lst (rs.map .str)).beq (.lst []))=decide (rs=[]):=by
   rw[if_neg (by decide),Dt.beq]
   cases rs with
   | nil=>simp[Dt.dO]
   | cons y ys=>simp[Dt.dO]
  rw[eb]
  refine dM (fun _=>case1 _ sO _ k) (fun Ni=>?_)
  have Vh:0<rs.length:=by
   cases rs with
   | nil=>exact absurd (by simp) Ni
   | cons y ys=>simp
  have d4:=d3.same sO
  have k14:=k13.trans (sO.kb (d:=d))
  have c1:=aA sO.kts _ _ t1.bb IZ
  have c2:=aA sO.kts _ _ t2.bb mY
  have CZ:=sO.seq LZ
  generalize upd H3 O (.lst [])=H4 at d4 k14 c1 c2 CZ
  refine⟨_,rfl,rfl,_,rfl,?_⟩
  refine dM (fun _=>?_) (fun _=>?_)
  ·refine⟨_,rfl,_,rfl,by show 3≤sizeLine;decide,fun p hp=>?_⟩
   have sp:=Same.new (o:=.tup [.str "less",.ref p1,.ref p2]) hp
   exact k p (.less t1 t2) _ (bP (.of ag) (ax bu (ax (aA sp.kts _ _ t1.bb c1) (ax (aA sp.kts _ _ t2.bb c2) a_)))) ⟨rfl,o1,o2⟩ (k14.trans sp.kb) (d4.same sp)
  refine⟨_,rfl,rfl,_,rfl,?_⟩
  refine dM (fun _=>?_) (fun _=>?_)
  ·refine⟨_,rfl,_,rfl,_,rfl,_,rs.length,rfl,.inl ⟨_,CZ,by rw[List.length_map]⟩,d,(rs.length:Int),rfl,d4,by omega,fun r H5 r0 r1 k5 d5=>?_⟩
   obtain⟨x,hx,I_⟩:=vg rs r r0 r1
   have C_:=k5.seq hnr CZ
   refine⟨rw,_,_,.str x,rfl,rfl,C_,hx,_,rfl,_,rfl,by show 2≤sizeLine;decide,fun O2 L_=>?_⟩
   have FF:=Same.new (o:=.lst [.int 2,.int 10]) L_
   have Nj:O2≠d:=(d5.ne L_).symm
   refine⟨_,rfl,d,2,rfl,d5.same FF,by decide,fun r' H6 zC r1' k6 d6=>?_⟩
   obtain⟨m,hm,hv⟩:=vf (V.int 2) (V.int 10) r' zC r1'
   obtain⟨mi,rfl,hmi,Vo⟩:∃mi:Int,m=.int mi∧0<mi∧mi≤10:=by
    rcases hv with rfl | rfl
    ·exact⟨2,rfl,by decide,by decide⟩
    ·exact⟨10,rfl,by decide,by decide⟩
   refine⟨O2,_,_,.int mi,rfl,rfl,.of (k6 _ _ ag Nj),hm,d,mi,rfl,d6,hmi,fun sg H7 s0 s1 k7 d7=>⟨by show 4≤sizeLine;decide,fun p hp=>?_⟩⟩
   have sp:=Same.new (o:=.tup [.str "sign",.str x,.ref p1,.int sg]) hp
   have kk:eJ K H4 (upd H7 p (.tup [.str "sign",.str x,.ref p1,.int sg])):=((d4.kts k5).trans FF.kts).trans ((((d5.same FF).kts k6).trans (d6.kts k7)).trans sp.kts)
   refine k p (.sign x t1 sg) _ (bP (.of ag) (ax bu (ax bu (ax (aA kk _ _ t1.bb c1) (ax jd a_))))) ⟨rfl,tH x I_,o1,s0,by omega⟩ ?_ (d7.same sp)
   exact((((k14.trans k5).trans FF.kb).trans k6).trans k7).trans sp.kb
  ·refine⟨_,rfl,_,rfl,_,rfl,_,rs.length,rfl,.inl ⟨_,CZ,by rw[List.length_map]⟩,d,(rs.length:Int),rfl,d4,by omega,fun r H5 r0 r1 k5 d5=>?_⟩
   obtain⟨x,hx,I_⟩:=vg rs r r0 r1
   have C_:=k5.seq hnr CZ
   refine⟨rw,_,_,.str x,rfl,rfl,C_,hx,_,rfl,_,rfl,_,rfl,_,rfl,_,rs.length,rfl,.inl ⟨_,C_,by rw[List.length_map]⟩,d,(rs.length:Int),rfl,d5,by omega,fun r' H6 zC r1' k6 d6=>?_⟩
   obtain⟨y,hy,R7⟩:=vg rs r' zC r1'
   refine⟨rw,_,_,.str y,rfl,rfl,k6.seq hnr C_,hy,_,rfl,by show 5≤sizeLine;decide,fun p hp=>?_⟩
   have sp:=Same.new (o:=.tup [.str "alike",.str x,.ref p1,.str y,.ref p2]) hp
   have kk:eJ K H4 (upd H6 p (.tup [.str "alike",.str x,.ref p1,.str y,.ref p2])):=(d4.kts k5).trans ((d5.kts k6).trans sp.kts)
   refine k p (.alike x t1 y t2) _ (bP (.of ag) (ax bu (ax bu (ax (aA kk _ _ t1.bb c1) (ax bu (ax (aA kk _ _ t2.bb c2) a_)))))) ⟨rfl,tH x I_,o1,tH y R7,o2⟩ ?_ (d6.same sp)
   exact((k14.trans k5).trans k6).trans sp.kb
theorem A9 {f:ao} (h:f.deep=0):f.comps=0:=by cases f<;>first | rfl | (simp[ao.deep] at h)
def qW (K:PySem.W.Frag) (n:Nat):Sp:=fun vs H Q _=>∃(d nm rw bx:Addr) (ss rs:List Str) (bk:Int) (deep:Nat),vs=[.ref d,.ref nm,.ref rw,.ref bx,.int deep]∧bV H d∧(bW K H nm (ss.map V.str)∧nm≠d∧nm≠bx∧0<ss.length∧ss.length≤10∧FD ss)∧(bW K H rw (rs.map V.str)∧rw≠d∧rw≠bx∧rs.length≤10∧IV rs)∧
 H bx=some (.lst [.int bk])∧bx≠d∧deep<n∧
 ∀(p:Addr) (f:ao) (H':Hp) (uF:Int),aq K H' (.ref p) f.dt→f.deep≤deep∧f.dw∧(f.comps:Int)≤pz (bk-2)-pz (uF-2)→i8 d bx H H'→bV H' d→H' bx=some (.lst [.int uF])→Q (.ref p) H'
theorem jG:aY ["_law_deck_here","_law_names_here","_law_rows","_law_box","_law_deep","_law_goes","_law_one","_law_name"] ["_law_deck_here","_law_names_here","_law_rows","_law_box","_law_deep"] (au gU):=⟨rfl,rfl,rfl,by decide+kernel,rfl,by decide+kernel,by decide+kernel⟩
theorem qB {a:dn} (T:Txt K mg a):∀n:Nat,aR P w K mg base cX (n+4) a.iV a.jB ["_law_deck_here","_law_names_here","_law_rows","_law_box","_law_deep"] (qW K n)
 | 0=>aR.none fun vs H Q E h=>by
  obtain⟨d,nm,rw,bx,ss,rs,bk,deep,_,_,_,_,_,_,hlt,_⟩:=h
  omega
 | n+1=>by
  have gZ:=qB T n
  have bA:=jS (P:=P) (w:=w) (base:=base) T
  have C0:=A8 (P:=P) (w:=w) (base:=base) T
  refine T.AX.ok jG (fun vs H Q E h=>?_) (fun cdv A outer s H vs Q E hr h=>?_)
  ·obtain⟨d,nm,rw,bx,ss,rs,bk,deep,rfl,_⟩:=h
   rfl
  ·obtain⟨d,nm,rw,bx,ss,rs,bk,deep,rfl,hd,⟨hS,hne,hnb,hs0,hss,mB⟩,⟨hR,hnr,hrb,hrs,tH⟩,hb,hbd,hlt,k⟩:=h
   have bh:aP 1 _:=hr.mono (by omega)
   have A':aP 3 _:=hr.mono (by omega)
   have gx:aP (n+4) _:=hr
   refine⟨_,(ai (BF (aD mJ (aB (bH K) (pv 3) ah (fun _ _=>rfl)) ah) (BE (pv 3) ah set_list))
   (ai (aI (i:=5) jG.nd rfl (Or.inl rfl) (av bA bh rfl T.bK T.bL T.bM .nil aM (ae (pv 0) (ae ah af))))
   (ai (bw (PW.pt (gC (aJ cb (pv 4) ah (aN _)) (gC (aJ p9 (aB (bH K) (pv 3) ah (fun _ _=>rfl)) ah (aN _)) (gE (aJ p9 (pv 5) ah (aN _))))))
    (aw (aL (av C0 A' rfl T.CI T.CJ T.CK .nil aM (ae (pv 0) (ae (pv 1) (ae (pv 2) af))))))
    aS)
   (ai (bw (aJ cb (pv 5) ah (aN _))
    (aw (aL (aX (ae ay (ae (av gZ gx rfl T.iW T.iX T.iY .nil aM (ae (pv 0) (ae (pv 1) (ae (pv 2) (ae (pv 3) (ae (aD mJ (pv 4) ah) af)))))) af)))))
    aS)
   (ai (bw (aJ p9 (pv 5) ah (aN _))
    (ai (aI (i:=6) jG.nd rfl (Or.inl rfl) (av gZ gx rfl T.iW T.iX T.iY .nil aM (ae (pv 0) (ae (pv 1) (ae (pv 2) (ae (pv 3) (ae (aD mJ (pv 4) ah) af)))))))
    (aw (aL (aX (ae (aB (bH K) (cx (ae ay (ae ay af))) (aD cR (pv 5) ah) (fun _ _=>rfl)) (ae (pv 6) (ae (av gZ gx rfl T.iW T.iX T.iY .nil aM (ae (pv 0) (ae (pv 1) (ae (pv 2) (ae (pv 3) (ae (aD mJ (pv 4) ah) af)))))) af)))))))
    aS)
   (ai (aI (i:=7) jG.nd rfl (Or.inl rfl) (aB (bH K) (pv 1) (av bA bh rfl T.bK T.bL T.bM .nil aM (ae (pv 0) (ae (bz (bJ K) (by rfl) T.dm cz (ae (pv 1) af)) af))) (fun _ _=>rfl)))
   (aw (aL (aX (ae (aB (bH K) (cx (ae ay (ae ay af))) (aD mJ (pv 5) ah) (fun _ _=>rfl)) (ae (pv 7) (ae (av gZ gx rfl T.iW T.iX T.iY .nil aM (ae (pv 0) (ae (pv 1) (ae (pv 2) (ae (pv 3) (ae (aD mJ (pv 4) ah) af)))))) af)))))))))))),?_⟩
   refine⟨_,rfl,bx,_,0,.int bk,rfl,rfl,.of hb,aj (j:=0) rfl,_,_,rfl,rfl,?_⟩
   refine⟨_,rfl,bx,_,0,0,rfl,rfl,hb,rfl,?_⟩
   have b1:(upd H bx (.lst ([V.int bk].set 0 (V.int (bk-1))))) bx=some (.lst [.int (bk-1)]):=ag
   have k1:i8 d bx H (upd H bx (.lst ([V.int bk].set 0 (V.int (bk-1))))):=KB.r KB.write
   have d1:bV (upd H bx (.lst ([V.int bk].set 0 (V.int (bk-1))))) d:=hd.kb KB.write hbd.symm
   generalize upd H bx (.lst ([V.int bk].set 0 (V.int (bk-1))))=H1 at b1 k1 d1
   refine⟨_,rfl,d,9,rfl,d1,by decide,fun go H2 g0 g1 k2 d2=>?_⟩
   have b2:=k2 _ _ b1 hbd
   have k12:=k1.trans (k2.l (e:=bx))
   have hS2:=k12.seq hne hnb hS
   have R8:=k12.seq hnr hrb hR
   have plain:∃v,([some (.ref d),some (.ref nm),some (.ref rw),some (.ref bx),some (.int deep),some (.int go),none,none]:St)[0]? =some (some v)∧∃v',([some (.ref d),some (.ref nm),some (.ref rw),some (.ref bx),some (.int deep),some (.int go),none,none]:St)[1]? =some (some v')∧
     ∃v'',([some (.ref d),some (.ref nm),some (.ref rw),some (.ref bx),some (.int deep),some (.int go),none,none]:St)[2]? =some (some v'')∧zI K ([v,v',v'']++[]) H2 Q E0:=by
    refine⟨_,rfl,_,rfl,_,rfl,d,nm,rw,ss,rs,rfl,d2,hS2,hne,hss,mB,R8,hnr,hrs,tH,fun p f H' dt dp kk dd=>?_⟩
    have c0:f.comps=0:=A9 dp.1
    exact k p f H' (bk-1) dt ⟨by have:=dp.1;omega,dp.2,by rw[c0];unfold pz;omega⟩ (k12.trans (kk.l (e:=bx))) dd (kk _ _ b2 hbd)
   refine⟨_,rfl,rfl,_,rfl,?_⟩
   refine dM (fun _=>bf plain) (fun FG=>?_)
   refine⟨_,rfl,bx,_,0,.int (bk-1),rfl,rfl,.of b2,aj (j:=0) rfl,_,_,rfl,rfl,_,rfl,?_⟩
   refine dM (fun _=>bf plain) (fun Nk=>?_)
   have Vp:3≤bk:=by
    have:¬(bk-1<2):=fun z=>Nk (decide_eq_true z)
    omega
   refine⟨_,rfl,_,_,rfl,rfl,_,rfl,?_⟩
   refine dM (fun _=>plain) (fun Vq=>?_)
   have Vi:0<deep:=by
    by_cases z:deep=0
    ·exact absurd (dI (by omega)) FG
    ·omega
   obtain⟨e,he⟩:∃e:Nat,(deep:Int)-1=(e:Int):=⟨deep-1,by omega⟩
   have he':e=deep-1:=by omega
   have self:∀(H3:Hp) (b3:Int) (Q':VK),bV H3 d→H3 bx=some (.lst [.int b3])→i8 d bx H H3→
     (∀(p:Addr) (f:ao) (H':Hp) (uF:Int),aq K H' (.ref p) f.dt→f.deep≤deep-1∧f.dw∧(f.comps:Int)≤pz (b3-2)-pz (uF-2)→i8 d bx H3 H'→bV H' d→H' bx=some (.lst [.int uF])→Q' (.ref p) H')→
     qW K n ([.ref d,.ref nm,.ref rw,.ref bx,.int ((deep:Int)-1)]++[]) H3 Q' E0:=by
    intro H3 b3 Q' d3 h3 k3 kq
    refine⟨d,nm,rw,bx,ss,rs,b3,e,by rw[he];rfl,d3,⟨k3.seq hne hnb hS,hne,hnb,hs0,hss,mB⟩,⟨k3.seq hnr hrb hR,hnr,hrb,hrs,tH⟩,h3,hbd,by omega,fun p f H' uF dt dp kk dd hb'=>?_⟩
    exact kq p f H' uF dt ⟨by have:=dp.1;omega,dp.2⟩ kk dd hb'
   refine⟨_,rfl,rfl,_,rfl,?_⟩
   refine dM (fun _=>?_) (fun _=>?_)
   ·refine⟨_,rfl,_,rfl,_,rfl,_,rfl,_,rfl,_,_,rfl,rfl,?_⟩
    dsimp only[iM]
    refine self H2 _ _ d2 b2 k12 fun p f H3 b3 dt dp kk dd hb3=>⟨by show 2≤sizeLine;decide,fun q hq=>?_⟩
    have sq:=Same.new (o:=.tup [.str "not",.ref p]) hq
    exact k q (.no f) _ b3 (bP (.of ag) (ax bu (ax (aA sq.kts _ _ f.bb dt) a_))) ⟨by have:=dp.1;simp only[ao.deep];omega,dp.2.1,by have:=dp.2.2;simp only[ao.comps];unfold pz at *; omega⟩ ((k12.trans kk).trans sq.kb2) (dd.same sq) (sq _ _ hb3)
   refine⟨_,rfl,_,_,rfl,rfl,_,rfl,?_⟩
   refine dM (fun _=>?_) (fun Nl=>?_)
   ·refine⟨_,rfl,_,rfl,_,rfl,_,rfl,_,rfl,_,_,rfl,rfl,?_⟩
    dsimp only[iM]
    refine self H2 _ _ d2 b2 k12 fun p f H3 b3 dt dp kk dd hb3=>?_
    refine⟨by show 2≤sizeLine;decide,fun O hO=>?_⟩
    have sO:=Same.new (o:=.lst [.str "and",.str "or"]) hO
    obtain⟨x,hx,hv⟩:=vf (V.str "and") (V.str "or") (go % 2) (Int.emod_nonneg _ (by decide)) (Int.emod_lt_of_pos _ (by decide))
    refine⟨_,rfl,_,_,rfl,rfl,cpos (by decide),O,_,_,x,rfl,rfl,.of ag,hx,_,rfl,_,rfl,_,rfl,_,rfl,_,rfl,_,rfl,_,_,rfl,rfl,?_⟩
    dsimp only[iM]
    refine self _ _ _ (dd.same sO) (sO _ _ hb3) ((k12.trans kk).trans sO.kb2) fun p2 f2 H4 b4 mY zJ L0 dd2 hb4=>⟨by show 3≤sizeLine;decide,fun q hq=>?_⟩
    have sq:=Same.new (o:=.tup [x,.ref p,.ref p2]) hq
    obtain⟨xd,IM⟩:=(dd.same sO).is
    have kt:eJ K H3 (upd H4 q (.tup [x,.ref p,.ref p2])):=sO.kts.trans ((i8.kts IM (sO _ _ hb3) L0).trans sq.kts)
    have m1:=aA kt _ _ f.bb dt
    have m2:=aA sq.kts _ _ f2.bb mY
    have kf:i8 d bx H (upd H4 q (.tup [x,.ref p,.ref p2])):=(((k12.trans kk).trans sO.kb2).trans L0).trans sq.kb2
    rcases hv with rfl | rfl
    ·exact k q (.and f f2) _ b4 (bP (.of ag) (ax bu (ax m1 (ax m2 a_)))) ⟨by have:=dp.1;have:=zJ.1;simp only[ao.deep];omega,⟨dp.2.1,zJ.2.1⟩,by have:=dp.2.2;have:=zJ.2.2;simp only[ao.comps];unfold pz at *; omega⟩ kf (dd2.same sq) (sq _ _ hb4)
    ·exact k q (.or f f2) _ b4 (bP (.of ag) (ax bu (ax m1 (ax m2 a_)))) ⟨by have:=dp.1;have:=zJ.1;simp only[ao.deep];omega,⟨dp.2.1,zJ.2.1⟩,by have:=dp.2.2;have:=zJ.2.2;simp only[ao.comps];unfold pz at *; omega⟩ kf (dd2.same sq) (sq _ _ hb4)
   ·refine⟨_,rfl,_,rfl,_,rfl,_,ss.length,rfl,.inl ⟨_,hS2,by rw[List.length_map]⟩,d,(ss.length:Int),rfl,d2,by omega,fun r H3 r0 r1 k3 d3=>?_⟩
    obtain⟨nx,hnx,I0⟩:=vg ss r r0 r1
    have k13:=k12.trans (k3.l (e:=bx))
    have b3:=k3 _ _ b2 hbd
    refine⟨nm,_,_,.str nx,rfl,rfl,k13.seq hne hnb hS,hnx,?_⟩
    refine⟨by show 2≤sizeLine;decide,fun O hO=>?_⟩
    have sO:=Same.new (o:=.lst [.str "some",.str "each"]) hO
    have Vj:7≤go:=by
     have:¬(go<7):=fun z=>Nl (decide_eq_true z)
     omega
    obtain⟨x,hx,hv⟩:=vf (V.str "some") (V.str "each") (go-7) (by omega) (by omega)
    refine⟨_,rfl,_,_,rfl,rfl,O,_,_,x,rfl,rfl,.of ag,hx,_,rfl,_,rfl,_,rfl,_,rfl,_,rfl,_,rfl,_,_,rfl,rfl,?_⟩
    dsimp only[iM]
    refine self _ _ _ (d3.same sO) (sO _ _ b3) (k13.trans sO.kb2) fun p f H4 b4 dt dp kk dd hb4=>⟨by show 3≤sizeLine;decide,fun q hq=>?_⟩
    have sq:=Same.new (o:=.tup [x,.str nx,.ref p]) hq
    have m1:=aA sq.kts _ _ f.bb dt
    have kf:i8 d bx H (upd H4 q (.tup [x,.str nx,.ref p])):=((k13.trans sO.kb2).trans kk).trans sq.kb2
    rcases hv with rfl | rfl
    ·exact k q (.some nx f) _ b4 (bP (.of ag) (ax bu (ax bu (ax m1 a_)))) ⟨by have:=dp.1;simp only[ao.deep];omega,⟨mB.2 _ I0,dp.2.1⟩,by have:=dp.2.2;simp only[ao.comps];unfold pz at *; omega⟩ kf (dd.same sq) (sq _ _ hb4)
    ·exact k q (.each nx f) _ b4 (bP (.of ag) (ax bu (ax bu (ax m1 a_)))) ⟨by have:=dp.1;simp only[ao.deep];omega,⟨mB.2 _ I0,dp.2.1⟩,by have:=dp.2.2;simp only[ao.comps];unfold pz at *; omega⟩ kf (dd.same sq) (sq _ _ hb4)
def ao.word:ao→Str
 | .same _ _=>"same" | .less _ _=>"less" | .sign _ _ _=>"sign" | .alike _ _ _ _=>"alike" | .no _=>"not" | .and _ _=>"and" | .or _ _=>"or" | .some _ _=>"some" | .each _ _=>"each"
def ao.inner:ao→List ao
 | .no f=>[f] | .and f g=>[f,g] | .or f g=>[f,g] | .some _ f=>[f] | .each _ f=>[f] | _=>[]
def ao.spots:ao→List Nat
 | .no _=>[1] | .and _ _=>[1,2] | .or _ _=>[1,2] | .some _ _=>[2] | .each _ _=>[2] | _=>[]
structure pO where
 d:Addr
 no:Addr
 an:Addr
 or:Addr
 so:Addr
 ea:Addr
def dY (b:pO):List (Str×Option V):=
 [("not",some (.ref b.no)),("and",some (.ref b.an)),("or",some (.ref b.or)),("some",some (.ref b.so)),("each",some (.ref b.ea)),("same",none),("less",none),("sign",none),("alike",none)]
structure mh (K:PySem.W.Frag) (pr:Params) (mg:Str→Option Value) (b:pO):Prop where
 Ja:mg "PART_SPOTS"=some (.ref b.d)
 Jb:sU K pr b.d (dY b)
 no:∀H,bY K H b.no [.int 1]
 an:∀H,bY K H b.an [.int 1,.int 2]
 or:∀H,bY K H b.or [.int 1,.int 2]
 so:∀H,bY K H b.so [.int 2]
 ea:∀H,bY K H b.ea [.int 2]
theorem mh.spots {K:PySem.W.Frag} {pr:Params} {mg:Str→Option Value} {b:pO} (U:mh K pr mg b) (f:ao) (H:Hp) (e:Addr) (he:bY K H e []):
  ∃r p,(f.word,r)∈dY b∧r.getD (.ref e)=.ref p∧bY K H p (f.spots.map fun(n:Nat)=>V.int (n:Int)):=by
 cases f with
 | same t u=>exact⟨none,e,by simp[dY,ao.word],rfl,he⟩
 | less t u=>exact⟨none,e,by simp[dY,ao.word],rfl,he⟩
 | sign a t s=>exact⟨none,e,by simp[dY,ao.word],rfl,he⟩
 | alike a t c u=>exact⟨none,e,by simp[dY,ao.word],rfl,he⟩
 | no f=>exact⟨some (.ref b.no),b.no,by simp[dY,ao.word],rfl,U.no H⟩
 | and f g=>exact⟨some (.ref b.an),b.an,by simp[dY,ao.word],rfl,U.an H⟩
 | or f g=>exact⟨some (.ref b.or),b.or,by simp[dY,ao.word],rfl,U.or H⟩
 | some n f=>exact⟨some (.ref b.so),b.so,by simp[dY,ao.word],rfl,U.so H⟩
 | each n f=>exact⟨some (.ref b.ea),b.ea,by simp[dY,ao.word],rfl,U.ea H⟩
theorem c_ {K:PySem.W.Frag} {H:Hp} {xs:List V} {d:Dt} {ds:List Dt} (h:aF K H xs (d::ds)):∃y ys,xs=y::ys∧aq K H y d∧aF K H ys ds:=by
 cases xs with
 | nil=>simp[aF] at h
 | cons y ys=>rw[aF] at h;exact⟨y,ys,rfl,h.1,h.2⟩
theorem gy {K:PySem.W.Frag} {H:Hp} {x:V} {ds:List Dt} (h:aq K H x (.tup ds)):∃a xs,x=.ref a∧bY K H a xs∧aF K H xs ds:=by rw[aq] at h;exact h
theorem ao.isTup (f:ao):∃ds,f.dt=.tup (.str f.word::ds):=by
 cases f<;>exact⟨_,rfl⟩
theorem Jc {K:PySem.W.Frag} {H:Hp} {x:V} (f:ao) (h:aq K H x f.dt):∃a xs,x=.ref a∧bY K H a xs∧xs[0]? =some (.str f.word)∧
  ∀(i n:Nat),f.spots[i]? =some n→∃y g,xs[n]? =some y∧f.inner[i]? =some g∧aq K H y g.dt:=by
 obtain⟨ds,e⟩:=f.isTup
 have h':=h
 rw[e] at h'
 obtain⟨a,xs,rfl,hq,hd⟩:=gy h'
 obtain⟨y0,ys,rfl,h0,hd1⟩:=c_ hd
 clear hd
 refine⟨a,_,rfl,hq,by rw[aq] at h0;rw[h0];rfl,?_⟩
 have one:∀{i n m:Nat},([m]:List Nat)[i]? =some n→i=0∧n=m:=fun {i n m} z=>by
  cases i with
  | zero=>simp at z;exact⟨rfl,z.symm⟩
  | succ i=>simp at z
 have two:∀{i n m k:Nat},([m,k]:List Nat)[i]? =some n→(i=0∧n=m)∨(i=1∧n=k):=fun {i n m k} z=>by
  match i with
  | 0=>simp at z;exact .inl ⟨rfl,z.symm⟩
  | 1=>simp at z;exact .inr ⟨rfl,z.symm⟩
  | i+2=>simp at z
 cases f with
 | same t u=>intro i n z;simp[ao.spots] at z
 | less t u=>intro i n z;simp[ao.spots] at z
 | sign b t s=>intro i n z;simp[ao.spots] at z
 | alike b t c u=>intro i n z;simp[ao.spots] at z
 | no f=>
  cases e
  obtain⟨y1,ys,rfl,h1,_⟩:=c_ hd1
  intro i n z
  obtain⟨rfl,rfl⟩:=one z
  exact⟨y1,f,rfl,rfl,h1⟩
 | and f g=>
  cases e
  obtain⟨y1,ys,rfl,h1,hd2⟩:=c_ hd1
  obtain⟨y2,ys,rfl,h2,_⟩:=c_ hd2
  intro i n z
  rcases two z with⟨rfl,rfl⟩ | ⟨rfl,rfl⟩
  ·exact⟨y1,f,rfl,rfl,h1⟩
  ·exact⟨y2,g,rfl,rfl,h2⟩
 | or f g=>
  cases e
  obtain⟨y1,ys,rfl,h1,hd2⟩:=c_ hd1
  obtain⟨y2,ys,rfl,h2,_⟩:=c_ hd2
  intro i n z
  rcases two z with⟨rfl,rfl⟩ | ⟨rfl,rfl⟩
  ·exact⟨y1,f,rfl,rfl,h1⟩
  ·exact⟨y2,g,rfl,rfl,h2⟩
 | some m f=>
  cases e
  obtain⟨y1,ys,rfl,h1,hd2⟩:=c_ hd1
  obtain⟨y2,ys,rfl,h2,_⟩:=c_ hd2
  intro i n z
  obtain⟨rfl,rfl⟩:=one z
  exact⟨y2,f,rfl,rfl,h2⟩
 | each m f=>
  cases e
  obtain⟨y1,ys,rfl,h1,hd2⟩:=c_ hd1
  obtain⟨y2,ys,rfl,h2,_⟩:=c_ hd2
  intro i n z
  obtain⟨rfl,rfl⟩:=one z
  exact⟨y2,f,rfl,rfl,h2⟩
theorem uG (f:ao):f.spots.length=f.inner.length:=by cases f<;>rfl
theorem jH (f:ao):f.inner.length≤2:=by cases f<;>simp[ao.inner]
theorem Ba (f g:ao) (h:g∈f.inner):g.deep<f.deep:=by
 cases f with
 | no f=>
  have:g=f:=by simpa[ao.inner] using h
  subst this;simp[ao.deep]
 | and f1 f2=>
  have:g=f1∨g=f2:=by simpa[ao.inner] using h
  rcases this with rfl | rfl<;>simp only[ao.deep]<;>omega
 | or f1 f2=>
  have:g=f1∨g=f2:=by simpa[ao.inner] using h
  rcases this with rfl | rfl<;>simp only[ao.deep]<;>omega
 | some n f=>
  have:g=f:=by simpa[ao.inner] using h
  subst this;simp[ao.deep]
 | each n f=>
  have:g=f:=by simpa[ao.inner] using h
  subst this;simp[ao.deep]
 | _=>simp[ao.inner] at h
theorem wW:∀fs:List ao,Dt.dP (fs.map ao.dt)=true
 | []=>by simp[Dt.dP]
 | f::fs=>by rw[List.map_cons,Dt.dP,wW fs,f.bb];rfl
def tI (K:PySem.W.Frag):Sp:=fun vs H Q _=>∃(x:V) (f:ao),vs=[x]∧aq K H x f.dt∧∀(D:Addr) (xs:List V) (H':Hp),H D=none→Same H H'→H' D=some (.lst xs)→aF K H' xs (f.inner.map ao.dt)→Q (.ref D) H'
theorem tK:aY ["saying"] ["saying"] (au dQ):=⟨rfl,rfl,rfl,by decide+kernel,rfl,by decide+kernel,by decide+kernel⟩
theorem mZ {a:dn} {b:pO} (T:Txt K mg a) (U:mh K w.params mg b):aR P w K mg base cX 1 a.eT a.fB ["saying"] (tI K):=by
 refine T.uU.ok tK (fun vs H Q E h=>?_) (fun cdv A outer s H vs Q E hr h=>?_)
 ·obtain⟨x,f,rfl,_⟩:=h
  rfl
 ·obtain⟨x,f,rfl,hf,k⟩:=h
  obtain⟨a,xs,rfl,hq,h0,hsp⟩:=Jc f hf
  refine⟨_,(aw (aL (mP (bF.mk' (esc:=au dQ) (N:=["saying"]) (own:=["spot"]) (bO:=["saying"]) (cy:=[0]) rfl rfl (by decide+kernel)) rfl (vz (B8 U.Jb rfl U.Ja (aB (aE K) (pv 0) ah (fun _ _=>rfl)) (aX af))) (fun _ _ _ _=>(cf (i:=0) (show List.Nodup (["spot","saying"]:List Str) by decide+kernel) rfl (Or.inl rfl))) (fun _ _ _ _=>gH) (fun _ _ _ _=>(aB (aE K) (pv 1) (pv 0) (fun _ _=>rfl)))))),?_⟩
  refine⟨_,rfl,a,xs,0,.str f.word,rfl,rfl,hq,aj (j:=0) h0,by decide,fun e he=>?_⟩
  have s1:=Same.new (o:=.tup []) he
  obtain⟨r,p,hr1,hr2,L1⟩:=U.spots f (upd H e (.tup [])) e (.of ag)
  refine⟨f.word,r,rfl,hr1,p,hr2,⟨_,L1⟩,fun C hC=>?_⟩
  refine vU (xs:=f.spots.map fun(n:Nat)=>V.int (n:Int)) (fun i σ H'=>∃(ys:List V) (v:Option V),σ=[v,some (.ref a)]∧Same (upd H e (.tup [])) H'∧H' C=some (.lst ys)∧aF K H' ys ((f.inner.take i).map ao.dt)∧ys.length=i)
   ⟨[],none,rfl,Same.new hC,ag,a_,rfl⟩ (fun i σ H' _ ⟨_,_,_,h,_⟩=>h.dr L1) ?_ ?_
  ·rintro i y σ H1 hy ⟨ys,v,rfl,s2,e2,mY,ly⟩
   rw[List.getElem?_map] at hy
   cases en:f.spots[i]? with
   | none=>rw[en] at hy;cases hy
   | some n=>
    rw[en] at hy
    have ey:y=.int (n:Int):=(Option.some.inj hy).symm
    subst ey
    obtain⟨z,g,hz,hg,Jd⟩:=hsp i n en
    have kt:eJ K H H1:=(s1.trans s2).kts
    refine⟨_,rfl,_,rfl,a,xs,_,z,rfl,rfl,kt _ _ hq,aj hz,ys,e2,?_,ys++[z],_,rfl,s2.kbn hC KB.write,ag,?_,?_⟩
    ·have:i<f.spots.length:=(List.getElem?_eq_some_iff.mp en).1
     have h2:=jH f
     rw[uG] at this
     exact Nat.lt_of_lt_of_le (show ys.length<10 by omega) (by decide)
    ·have e1:f.inner.take (i+1)=f.inner.take i++[g]:=by rw[List.take_add_one,hg];rfl
     rw[e1,List.map_append]
     have kk:eJ K H1 (upd H1 C (.lst (ys++[z]))):=KB.kts e2 KB.write
     exact nH (cg kk _ _ (wW _) mY) (ax (aA (kt.trans kk) _ _ g.bb Jd) a_)
    ·rw[List.length_append,ly];rfl
  ·rintro σ H1 ⟨ys,v,rfl,s2,e2,mY,ly⟩
   rw[List.length_map,uG,List.take_length] at mY
   exact k C ys H1 (s1.free hC) (s1.trans s2) e2 mY
theorem take_snoc {α:Type} {xs:List α} {i:Nat} {x:α} (h:xs[i]? =some x):xs.take (i+1)=xs.take i++[x]:=by rw[List.take_add_one,h];rfl
def cV (ns:List Nat):List V:=ns.map fun(n:Nat)=>V.int (n:Int)
def ao.at :ao→List Nat→Option ao
 | f,[]=>Option.some f
 | f,n::ns=>(f.inner[n]?).bind fun g=>g.at ns
theorem C1:∀(ns:List Nat) (f g h:ao) (k:Nat),f.at ns=some g→g.inner[k]? =some h→f.at (ns++[k])=some h
 | [],f,g,h,k,e,e2=>by
  have e':f=g:=Option.some.inj e
  subst e'
  show(f.inner[k]?).bind (fun g=>g.at [])=some h
  rw[e2];rfl
 | n::ns,f,g,h,k,e,e2=>by
  have e':(f.inner[n]?).bind (fun g=>g.at ns)=some g:=e
  obtain⟨u,eu,ea⟩:=Option.bind_eq_some_iff.mp e'
  show(f.inner[n]?).bind (fun g=>g.at (ns++[k]))=some h
  rw[eu]
  exact C1 ns u g h k ea e2
def ao.size:ao→Nat
 | .no f=>f.size+1 | .and f g=>f.size+g.size+1 | .or f g=>f.size+g.size+1 | .some _ f=>f.size+1 | .each _ f=>f.size+1 | _=>1
theorem size_inner (f:ao):(f.inner.map ao.size).sum+1=f.size:=by cases f<;>simp[ao.inner,ao.size]
theorem fM:∀f:ao,f.size+1≤2 ^ (f.deep+1)
 | .same _ _=>by simp[ao.size,ao.deep]
 | .less _ _=>by simp[ao.size,ao.deep]
 | .sign _ _ _=>by simp[ao.size,ao.deep]
 | .alike _ _ _ _=>by simp[ao.size,ao.deep]
 | .no f=>by
  have:=fM f
  simp only[ao.size,ao.deep]
  rw[Nat.pow_succ]
  omega
 | .and f g=>by
  have h1:=fM f
  have h2:=fM g
  have a1:=Nat.pow_le_pow_right (n:=2) (by decide) (show f.deep+1≤max f.deep g.deep+1 by omega)
  have a2:=Nat.pow_le_pow_right (n:=2) (by decide) (show g.deep+1≤max f.deep g.deep+1 by omega)
  simp only[ao.size,ao.deep]
  rw[Nat.pow_succ 2 (max f.deep g.deep+1)]
  omega
 | .or f g=>by
  have h1:=fM f
  have h2:=fM g
  have a1:=Nat.pow_le_pow_right (n:=2) (by decide) (show f.deep+1≤max f.deep g.deep+1 by omega)
  have a2:=Nat.pow_le_pow_right (n:=2) (by decide) (show g.deep+1≤max f.deep g.deep+1 by omega)
  simp only[ao.size,ao.deep]
  rw[Nat.pow_succ 2 (max f.deep g.deep+1)]
  omega
 | .some n f=>by
  have:=fM f
  simp only[ao.size,ao.deep]
  rw[Nat.pow_succ]
  omega
 | .each n f=>by
  have:=fM f
  simp only[ao.size,ao.deep]
  rw[Nat.pow_succ]
  omega
abbrev Ent:=List Nat×ao
def kids (ns:List Nat):Nat→List ao→List Ent
 | _,[]=>[]
 | k,h::t=>(ns++[k],h)::kids ns (k+1) t
theorem ql (ns:List Nat):∀(l:List ao) (k i:Nat),(kids ns k l)[i]? =(l[i]?).map fun h=>(ns++[k+i],h)
 | [],k,i=>by simp[kids]
 | h::t,k,0=>rfl
 | h::t,k,i+1=>by
  rw[kids,List.getElem?_cons_succ,List.getElem?_cons_succ,ql ns t (k+1) i,show k+1+i=k+(i+1) by omega]
theorem qX (ns:List Nat):∀(l:List ao) (k:Nat),(kids ns k l).length=l.length
 | [],_=>rfl
 | h::t,k=>by rw[kids,List.length_cons,qX ns t,List.length_cons]
theorem wX (ns:List Nat):∀(l:List ao) (k:Nat),((kids ns k l).map fun e=>e.2.size).sum=(l.map ao.size).sum
 | [],_=>rfl
 | h::t,k=>by rw[kids,List.map_cons,List.map_cons,List.sum_cons,List.sum_cons,wX ns t]
def qY (K:PySem.W.Frag) (H:Hp) (q:Addr) (e:Ent):Prop:=∃pl y,H q=some (.tup [.ref pl,y])∧H pl=some (.tup (cV e.1))∧aq K H y e.2.dt
theorem qY.keep {K:PySem.W.Frag} {H H':Hp} {q:Addr} {e:Ent} (h:qY K H q e) (k:eB H H') (ks:eJ K H H'):qY K H' q e:=by
 obtain⟨pl,y,h1,h2,h3⟩:=h
 exact⟨pl,y,k _ _ h1,k _ _ h2,aA ks _ _ e.2.bb h3⟩
abbrev ck (K:PySem.W.Frag) (H:Hp):List Addr→List Ent→Prop:=Paired (qY K H)
theorem ck.keep {K:PySem.W.Frag} {H H':Hp} (k:eB H H') (ks:eJ K H H'):∀{qs:List Addr} {es:List Ent},ck K H qs es→ck K H' qs es
 | _,_,.nil=>.nil
 | _,_,.cons h t=>.cons (h.keep k ks) (ck.keep k ks t)
theorem qm {K:PySem.W.Frag} {H:Hp} {qs rs:List Addr} {es ds:List Ent} (a:ck K H qs es) (b:ck K H rs ds):ck K H (qs++rs) (es++ds):=fZ a b
theorem zK {K:PySem.W.Frag} {H:Hp}:∀{qs:List Addr} {es:List Ent} {i:Nat} {q:Addr},ck K H qs es→qs[i]? =some q→∃e,es[i]? =some e∧qY K H q e
 | _,_,_,_,.nil,h=>by simp at h
 | _,_,0,_,.cons a _,h=>by simp at h;subst h;exact⟨_,rfl,a⟩
 | _,_,i+1,_,.cons _ t,h=>by
  simp only[List.getElem?_cons_succ] at h ⊢
  exact zK t h
theorem wY {K:PySem.W.Frag} {H:Hp}:∀{qs:List Addr} {es:List Ent},ck K H qs es→qs≠[]→∃FH q es' e,qs=FH++[q]∧es=es'++[e]∧ck K H FH es'∧qY K H q e
 | _,_,.nil,h=>absurd rfl h
 | [q],[e],.cons a .nil,_=>⟨[],q,[],e,rfl,rfl,.nil,a⟩
 | q::q2::qs,e::e2::es,.cons a (.cons b t),_=>by
  obtain⟨FH,r,es',d,e1,e3,h1,h2⟩:=wY (.cons b t) (by simp)
  exact⟨q::FH,r,e::es',d,by rw[e1];rfl,by rw[e3];rfl,.cons a h1,h2⟩
structure Ord (f:ao) (we fe:List Ent):Prop where
 here:∀e,e∈we∨e∈fe→f.at e.1=some e.2
 kid:∀(i:Nat) (ns:List Nat) (g:ao),fe[i]? =some (ns,g)→∀k h,g.inner[k]? =some h→(ns++[k],h)∈we∨∃j,i<j∧fe[j]? =some (ns++[k],h)
 root:([],f)∈we∨([],f)∈fe
theorem Ord.step {f:ao} {we fe:List Ent} {ns:List Nat} {g:ao} (o:Ord f (we++[(ns,g)]) fe):Ord f (we++kids ns 0 g.inner) (fe++[(ns,g)]) where
 here:=fun e he=>by
  have hg:f.at ns=some g:=o.here (ns,g) (.inl (by simp))
  rcases he with he | he
  ·rcases List.mem_append.mp he with he | he
   ·exact o.here e (.inl (List.mem_append.mpr (.inl he)))
   ·obtain⟨i,hi⟩:=List.getElem?_of_mem he
    rw[ql] at hi
    cases eh:g.inner[i]? with
    | none=>rw[eh] at hi;cases hi
    | some h=>
     rw[eh] at hi
     have hi':(ns++[0+i],h)=e:=Option.some.inj hi
     rw[←hi',Nat.zero_add]
     exact C1 ns f g h i hg eh
  ·rcases List.mem_append.mp he with he | he
   ·exact o.here e (.inr he)
   ·rw[List.mem_singleton.mp he];exact hg
 kid:=fun i ms u hi k h hk=>by
  by_cases lt:i<fe.length
  ·rw[List.getElem?_append_left lt] at hi
   rcases o.kid i ms u hi k h hk with z | ⟨j,hj,z⟩
   ·rcases List.mem_append.mp z with z | z
    ·exact .inl (List.mem_append.mpr (.inl z))
    ·refine .inr ⟨fe.length,lt,?_⟩
     rw[List.getElem?_append_right (Nat.le_refl _),Nat.sub_self,List.mem_singleton.mp z];rfl
   ·have hj2:=(List.getElem?_eq_some_iff.mp z).1
    exact .inr ⟨j,hj,by rw[List.getElem?_append_left hj2];exact z⟩
  ·have hl:=(List.getElem?_eq_some_iff.mp hi).1
   rw[List.length_append] at hl
   have hl':i<fe.length+1:=hl
   have e:i=fe.length:=by omega
   subst e
   rw[List.getElem?_append_right (Nat.le_refl _),Nat.sub_self] at hi
   have hi':(ns,g)=(ms,u):=Option.some.inj hi
   cases hi'
   refine .inl (List.mem_append.mpr (.inr (List.mem_of_getElem? (i:=k) ?_)))
   rw[ql,hk,Nat.zero_add];rfl
 root:=by
  rcases o.root with z | z
  ·rcases List.mem_append.mp z with z | z
   ·exact .inl (List.mem_append.mpr (.inl z))
   ·exact .inr (List.mem_append.mpr (.inr z))
  ·exact .inr (List.mem_append.mpr (.inl z))
structure Je (f:ao) (es:List Ent):Prop where
 here:∀e∈es,f.at e.1=some e.2
 kid:∀(i:Nat) (ns:List Nat) (g:ao),es[i]? =some (ns,g)→∀k h,g.inner[k]? =some h→∃j,j<i∧es[j]? =some (ns++[k],h)
 root:([],f)∈es
theorem Ord.late {f:ao} {fe:List Ent} (o:Ord f [] fe):Je f fe.reverse where
 here:=fun e he=>o.here e (.inr (List.mem_reverse.mp he))
 kid:=fun i ns g hi k h hk=>by
  have lt:i<fe.length:=by have:=(List.getElem?_eq_some_iff.mp hi).1;rwa [List.length_reverse] at this
  rw[List.getElem?_reverse lt] at hi
  rcases o.kid _ ns g hi k h hk with z | ⟨j,hj,z⟩
  ·cases z
  ·have hj2:=(List.getElem?_eq_some_iff.mp z).1
   refine⟨fe.length-1-j,by omega,?_⟩
   rw[List.getElem?_reverse (by omega),show fe.length-1-(fe.length-1-j)=j by omega]
   exact z
 root:=by
  rcases o.root with z | z
  ·cases z
  ·exact List.mem_reverse.mpr z
theorem zL:∀we:List Ent,we.length≤(we.map fun e=>e.2.size).sum
 | []=>Nat.le_refl _
 | e::we=>by
  have h1:=zL we
  have h2:=size_inner e.2
  rw[List.map_cons,List.sum_cons,List.length_cons]
  omega
theorem zM:∀(ns:List Nat) (f g:ao),f.at ns=some g→ns.length+g.deep≤f.deep
 | [],f,g,e=>by
  have e':f=g:=Option.some.inj e
  subst e'
  simp
 | n::ns,f,g,e=>by
  have e':(f.inner[n]?).bind (fun g=>g.at ns)=some g:=e
  obtain⟨u,eu,ea⟩:=Option.bind_eq_some_iff.mp e'
  have h1:=zM ns u g ea
  have h2:=Ba f u (List.mem_of_getElem? eu)
  rw[List.length_cons]
  omega
theorem wZ {f g:ao} {ns:List Nat} (h:f.deep≤15) (e:f.at ns=some g):ns.length≤15:=by
 have:=zM ns f g e
 omega
theorem zN {K:PySem.W.Frag} {H:Hp}:∀{qs:List Addr} {es:List Ent},ck K H qs es→ck K H qs.reverse es.reverse
 | _,_,.nil=>.nil
 | _,_,.cons a t=>by
  rw[List.reverse_cons,List.reverse_cons]
  exact qm (zN t) (.cons a .nil)
def zO (K:PySem.W.Frag):Sp:=fun vs H Q _=>∃(x:V) (f:ao),vs=[x]∧aq K H x f.dt∧f.deep≤15∧
 ∀(D:Addr) (qs:List Addr) (es:List Ent) (H':Hp),H D=none→Same H H'→H' D=some (.lst (qs.map V.ref))→ck K H' qs es→Je f es→es.length≤100000→Q (.ref D) H'
theorem zP {rs:List Addr} {i:Nat} {x:V} (h:(rs.map V.ref)[i]? =some x):∃r,x=.ref r∧rs[i]? =some r:=by
 rw[List.getElem?_map] at h
 cases e:rs[i]? with
 | none=>rw[e] at h;cases h
 | some r=>rw[e] at h;exact⟨r,(Option.some.inj h).symm,rfl⟩
theorem df:aY ["saying","waiting","found","pair","number","part"] ["saying"] (au du):=⟨rfl,rfl,rfl,by decide+kernel,rfl,by decide+kernel,by decide+kernel⟩
theorem qr {a:dn} {b:pO} (T:Txt K mg a) (U:mh K w.params mg b):aR P w K mg base cX 2 a.eG a.fq ["saying"] (zO K):=by
 have j0:aR P w K mg base cX 1 a.eT a.fB ["saying"] (tI K):=mZ T U
 refine T.qL.ok df (fun vs H Q E h=>?_) (fun cdv A outer s H vs Q E hr h=>?_)
 ·obtain⟨x,f,rfl,_⟩:=h
  rfl
 ·obtain⟨x,f,rfl,hf,hdp,k⟩:=h
  have jo:aP 1 _:=hr
  refine⟨_,(ai (aI (i:=1) df.nd rfl (Or.inl rfl) (cx (ae (aX (ae (aX af) (ae (pv 0) af))) af)))
  (ai (aI (i:=2) df.nd rfl (Or.inl rfl) (cx af))
  (ai (kx PassesOwn.never (cI (pv 1) (fun _=>rfl))
   (ai (aI (i:=3) df.nd rfl (Or.inl rfl) (oX PySem.F.plainAttrs_list PySem.F.slot_list_pop PySem.F.type_list_pop rC (pv 1)))
   (ai (dF (cU PySem.F.plainAttrs_list PySem.F.slot_list_append PySem.F.type_list_append cQ (pv 2) (ae (pv 3) af)))
   (aw (iK PassesOwn.never rfl (GO rfl T.yD (ae (av j0 jo rfl T.oB T.oD T.oE .nil aM (ae (aB (aE K) (pv 3) ah (fun _ _=>rfl)) af)) af)) (vw rfl (i9 (cf (i:=4) df.nd rfl (Or.inl rfl)) (i9 (cf (i:=5) df.nd rfl (Or.inl rfl)) sN)))
    (aw (dF (cU PySem.F.plainAttrs_list PySem.F.slot_list_append PySem.F.type_list_append cQ (pv 1) (ae (aX (ae (aD (vW K) (aB (aE K) (pv 3) ah (fun _ _=>rfl)) (aX (ae (pv 4) af))) (ae (pv 5) af))) af)))))))))
  (aw (aL (Av K rfl rfl T.IB rfl T.AY (ae (pv 2) af))))))),?_⟩
  have R9:f.size≤70000:=by
   have h1:=fM f
   have h2:=Nat.pow_le_pow_right (n:=2) (by decide) (show f.deep+1≤16 by omega)
   have h3:(2:Nat) ^ 16=65536:=by decide
   omega
  refine⟨by decide,fun e0 R'=>⟨_,rfl,by show 2≤sizeLine;decide,fun q0 hq0=>⟨by show 1≤sizeLine;decide,fun Wt L3=>?_⟩⟩⟩
  have s0:=Same.new (o:=.tup []) R'
  have s1:=Same.new (o:=.tup [.ref e0,x]) hq0
  have s2:=Same.new (o:=.lst [.ref q0]) L3
  refine⟨by decide,fun Fo Jf=>?_⟩
  have s3:=Same.new (o:=.lst []) Jf
  have eW:=s3 _ _ (ag (H:=upd (upd H e0 (.tup [])) q0 (.tup [.ref e0,x])) (a:=Wt) (o:=.lst [.ref q0]))
  have eF:(upd (upd (upd (upd H e0 (.tup [])) q0 (.tup [.ref e0,x])) Wt (.lst [.ref q0])) Fo (.lst [])) Fo=some (.lst []):=ag
  have pr:qY K (upd (upd (upd (upd H e0 (.tup [])) q0 (.tup [.ref e0,x])) Wt (.lst [.ref q0])) Fo (.lst [])) q0 ([],f):=
   ⟨e0,x,s3 _ _ (s2 _ _ ag),s3 _ _ (s2 _ _ (s1 _ _ ag)),aA (((s0.trans s1).trans s2).trans s3).kts _ _ f.bb hf⟩
  have sA:=((s0.trans s1).trans s2).trans s3
  have Jg:Wt≠Fo:=aU ag Jf
  have hW0:H Wt=none:=(s0.trans s1).free L3
  have Sb:H Fo=none:=((s0.trans s1).trans s2).free Jf
  generalize upd (upd (upd (upd H e0 (.tup [])) q0 (.tup [.ref e0,x])) Wt (.lst [.ref q0])) Fo (.lst [])=H1 at eW eF pr sA ⊢
  refine⟨fun m σ H'=>∃(ws fs:List Addr) (we fe:List Ent) (v3 v4 v5:Option V),σ=[some x,some (.ref Wt),some (.ref Fo),v3,v4,v5]∧Same H H'∧H' Wt=some (.lst (ws.map V.ref))∧H' Fo=some (.lst (fs.map V.ref))∧ck K H' ws we∧ck K H' fs fe∧Ord f we fe∧
    m=(we.map fun e=>e.2.size).sum∧fe.length+(we.map fun e=>e.2.size).sum≤70000,
   ⟨_,[q0],[],[([],f)],[],none,none,none,rfl,sA,eW,eF,.cons pr .nil,.nil,⟨fun e he=>?_,fun i ns g z=>by simp at z,.inl (by simp)⟩,rfl,by simpa using R9⟩,?_⟩
  ·have e':e=([],f):=by simpa using he
   rw[e'];rfl
  rintro m σ H2 ⟨ws,fs,we,fe,v3,v4,v5,rfl,s2',iG,L4,pw,pf,od,rfl,hsz⟩
  refine⟨_,rfl, !(ws.map V.ref).isEmpty,.inl ⟨_,.of iG,rfl⟩,?_⟩
  refine dM (fun hne=>?_) (fun hem=>?_)
  ·have Sd:ws≠[]:=fun z=>by subst z;simp at hne
   obtain⟨ws',q,w_,⟨ns,g⟩,rfl,rfl,pw',pq⟩:=wY pw Sd
   refine⟨fun σ' H'=>∃(ws fs:List Addr) (we fe:List Ent) (v3 v4 v5:Option V),σ'=[some x,some (.ref Wt),some (.ref Fo),v3,v4,v5]∧Same H H'∧H' Wt=some (.lst (ws.map V.ref))∧H' Fo=some (.lst (fs.map V.ref))∧ck K H' ws we∧ck K H' fs fe∧Ord f we fe∧
     (we.map fun e=>e.2.size).sum<((w_++[(ns,g)]).map fun e=>e.2.size).sum∧fe.length+(we.map fun e=>e.2.size).sum≤70000,
    fun σ' H' ⟨ws,fs,we,fe,v3,v4,v5,a1,a2,a3,a4,a5,a6,a7,a8,a9⟩=>⟨_,a8,ws,fs,we,fe,v3,v4,v5,a1,a2,a3,a4,a5,a6,a7,rfl,a9⟩,?_⟩
   refine⟨_,rfl,.inl ⟨rfl,_,.of iG⟩,Wt,_,.ref q,rfl,rfl,iG,by simp,?_⟩
   have dl:((ws'++[q]).map V.ref).dropLast=ws'.map V.ref:=by rw[List.map_append];simp
   rw[dl]
   have kW:=KB.write (d:=Wt) (H:=H2) (o:=.lst (ws'.map V.ref))
   have Jh:=eB.lst (o:=.lst (ws'.map V.ref)) iG
   have Ji:=KB.kts (K:=K) iG kW
   have j4:(upd H2 Wt (.lst (ws'.map V.ref))) Wt=some (.lst (ws'.map V.ref)):=ag
   have C2:=kW _ _ L4 Jg.symm
   have L5:=ck.keep Jh Ji pw'
   have L6:=ck.keep Jh Ji pf
   have L7:=pq.keep Jh Ji
   have L8:=s2'.kbn hW0 kW
   generalize upd H2 Wt (.lst (ws'.map V.ref))=H3 at j4 C2 L5 L6 L7 L8 ⊢
   have Vw:fs.length=fe.length:=Paired.length pf
   refine⟨_,rfl,.inl ⟨rfl,_,.of C2⟩,_,rfl,Fo,_,_,rfl,rfl,C2,?_,?_⟩
   ·rw[List.length_map];exact Nat.lt_of_le_of_lt (show fs.length≤70000 by omega) (by decide)
   have kF:=KB.write (d:=Fo) (H:=H3) (o:=.lst (fs.map V.ref++[.ref q]))
   have Jj:=eB.lst (o:=.lst (fs.map V.ref++[.ref q])) C2
   have Jk:=KB.kts (K:=K) C2 kF
   have L9:(upd H3 Fo (.lst (fs.map V.ref++[.ref q]))) Fo=some (.lst ((fs++[q]).map V.ref)):=by rw[ag,List.map_append];rfl
   have pP:=kF _ _ j4 Jg
   have L':=ck.keep Jj Jk L5
   have Ma:=ck.keep Jj Jk L6
   have Jl:=L7.keep Jj Jk
   have Mb:=L8.kbn Sb kF
   generalize upd H3 Fo (.lst (fs.map V.ref++[.ref q]))=H4 at L9 pP L' Ma Jl Mb ⊢
   obtain⟨pl,y,eq,zQ,dy⟩:=id Jl
   refine⟨_,rfl,q,_,_,_,rfl,rfl,.of eq,aj (j:=1) (v:=y) rfl,y,g,rfl,dy,fun D xs H5 hD s5 eD FI=>?_⟩
   have lu:=s5 _ _ pP
   have Se:D≠Wt:=(aU pP hD).symm
   have lx:xs.length=g.inner.length:=by rw[FI.length,List.length_map]
   have Mc:=jH g
   refine⟨D,rfl,⟨_,.of eD⟩,DM (xs:=xs) (fun i σ H'=>∃(rs:List Addr) (v4 v5:Option V),σ=[some x,some (.ref Wt),some (.ref Fo),some (.ref q),v4,v5]∧KB Wt H5 H'∧H' Wt=some (.lst ((ws'++rs).map V.ref))∧ck K H' rs ((kids ns 0 g.inner).take i))
    ⟨[],_,_,rfl,KB.refl _ _,by rw[List.append_nil];exact lu,.nil⟩ (fun i σ H' _ ⟨_,_,_,_,h,_⟩=>.of (h _ _ eD Se)) ?_ ?_⟩
   ·rintro i z pp σ H6 hz ⟨rs,v4,v5,rfl,k6,Jm,w4⟩ hpp
    have sp:=Same.new (o:=.tup [.int i,z]) hpp
    refine⟨pp,_,rfl,.of ag,rfl,_,_,rfl,_,_,rfl,rfl,?_⟩
    obtain⟨dz,C3,Jd⟩:=FI.get hz
    rw[List.getElem?_map] at C3
    cases eh:g.inner[i]? with
    | none=>rw[eh] at C3;cases C3
    | some h=>
     rw[eh] at C3
     have Nm:h.dt=dz:=Option.some.inj C3
     subst Nm
     have zR:eB H5 H6:=eB.kb lu k6
     have C4:eJ K H5 H6:=KB.kts lu k6
     have EB:H6 pl=some (.tup (cV ns)):=zR _ _ (s5 _ _ zQ)
     have Sf:H6 q=some (.tup [.ref pl,y]):=zR _ _ (s5 _ _ eq)
     have Jn:=sp _ _ Jm
     have Jo:=aA (C4.trans sp.kts) _ _ h.bb Jd
     have Jp:=ck.keep sp.kt sp.kts w4
     have Jq:=sp _ _ EB
     have Md:=sp _ _ Sf
     have k7:KB Wt H5 (upd H6 pp (.tup [.int i,z])):=k6.trans sp.kb
     generalize upd H6 pp (.tup [.int i,z])=H7 at Jn Jo Jp Jq Md k7 ⊢
     refine⟨_,rfl,.inl ⟨rfl,_,.of Jn⟩,_,rfl,q,_,_,_,rfl,rfl,.of Md,aj (j:=0) (v:=.ref pl) rfl,_,rfl,by show 1≤sizeLine;decide,fun oo hoo=>?_⟩
     have so:=Same.new (o:=.tup [.int (i:Int)]) hoo
     have C5:(upd H7 oo (.tup [.int (i:Int)])) oo=some (.tup [.int (i:Int)]):=ag
     have done:∀(pn:Addr) (H8:Hp),Same H7 H8→H8 pn=some (.tup (cV (ns++[i])))→∀jU,H8 jU=none→
       H8 Wt=some (.lst ((ws'++rs).map V.ref))∧(∃(rs':List Addr) (v4 v5:Option V),[some x,some (.ref Wt),some (.ref Fo),some (.ref q),some (.int (i:Int)),some z]=[some x,some (.ref Wt),some (.ref Fo),some (.ref q),v4,v5]∧
        KB Wt H5 (upd (upd H8 jU (.tup [.ref pn,z])) Wt (.lst ((ws'++rs).map V.ref++[.ref jU])))∧(upd (upd H8 jU (.tup [.ref pn,z])) Wt (.lst ((ws'++rs).map V.ref++[.ref jU]))) Wt=some (.lst ((ws'++rs').map V.ref))∧
        ck K (upd (upd H8 jU (.tup [.ref pn,z])) Wt (.lst ((ws'++rs).map V.ref++[.ref jU]))) rs' ((kids ns 0 g.inner).take (i+1))):=fun pn H8 s8 Jr jU qZ=>by
      have Me:=s8 _ _ Jn
      have s9:=Same.new (o:=.tup [.ref pn,z]) qZ
      have Mf:=s9 _ _ Me
      have kt9:=eB.lst (o:=.lst ((ws'++rs).map V.ref++[.ref jU])) Mf
      have Mg:eJ K (upd H8 jU (.tup [.ref pn,z])) (upd (upd H8 jU (.tup [.ref pn,z])) Wt (.lst ((ws'++rs).map V.ref++[.ref jU]))):=KB.kts Mf KB.write
      refine⟨Me,rs++[jU],_,_,rfl,((k7.trans s8.kb).trans s9.kb).trans KB.write,?_,?_⟩
      ·rw[ag];simp
      ·have ek:(kids ns 0 g.inner).take (i+1)=(kids ns 0 g.inner).take i++[(ns++[i],h)]:=take_snoc (by rw[ql,eh,Nat.zero_add];rfl)
       rw[ek]
       refine qm (ck.keep ((s8.kt.trans s9.kt).trans kt9) ((s8.kts.trans s9.kts).trans Mg) Jp) (.cons ⟨pn,z,kt9 _ _ ag,kt9 _ _ (s9 _ _ Jr),aA ((s8.kts.trans s9.kts).trans Mg) _ _ h.bb Jo⟩ .nil)
     have lr:rs.length≤2:=by rw[Paired.length Jp,List.length_take,qX];omega
     have lw:((ws'++rs).map V.ref).length<sizeLine:=by
      rw[List.length_map,List.length_append]
      have Vx:ws'.length=w_.length:=Paired.length pw'
      have:w_.length≤(w_.map fun e=>e.2.size).sum:=zL w_
      rw[List.map_append,List.sum_append] at hsz
      exact Nat.lt_of_le_of_lt (show _≤80000 by omega) (by decide)
     refine⟨pl,oo,cV ns,[.int (i:Int)],rfl,rfl,.of (so _ _ Jq),.of C5,by simp,?_,fun hn=>?_,fun hn pn hpn=>?_⟩
     ·have:ns.length≤15:=wZ hdp (od.here (ns,g) (.inl (by simp)))
      show(cV ns).length+1≤sizeLine
      rw[cV,List.length_map]
      exact Nat.le_trans (show _≤100 by omega) (by decide)
     ·have hn':ns=[]:=by cases ns with | nil=>rfl | cons _ _=>cases hn
      subst hn'
      refine⟨_,rfl,by show 2≤sizeLine;decide,fun jU qZ=>?_⟩
      obtain⟨d1,d2⟩:=done oo _ so C5 jU qZ
      exact⟨Wt,_,_,rfl,rfl,(Same.new qZ) _ _ d1,lw,d2⟩
     ·have Sg:=Same.new (o:=.tup (cV ns++[.int (i:Int)])) hpn
      refine⟨_,rfl,by show 2≤sizeLine;decide,fun jU qZ=>?_⟩
      obtain⟨d1,d2⟩:=done pn _ (so.trans Sg) (by rw[ag,cV,cV,List.map_append];rfl) jU qZ
      exact⟨Wt,_,_,rfl,rfl,(Same.new qZ) _ _ d1,lw,d2⟩
   ·rintro σ H6 ⟨rs,v4,v5,rfl,k6,Jm,w4⟩
    rw[lx,List.take_of_length_le (by rw[qX];exact Nat.le_refl _)] at w4
    have zR:eB H4 H6:=s5.kt.trans (eB.kb lu k6)
    have C4:eJ K H4 H6:=s5.kts.trans (KB.kts lu k6)
    have Sh:=Jg.symm
    have sz:=wX ns g.inner 0
    have sg:=size_inner g
    refine⟨ws'++rs,fs++[q],w_++kids ns 0 g.inner,fe++[(ns,g)],_,_,_,rfl,(Mb.trans s5).kbn hW0 k6,Jm,k6 _ _ (s5 _ _ L9) Sh,qm (ck.keep zR C4 L') w4,qm (ck.keep zR C4 Ma) (.cons (Jl.keep zR C4) .nil),od.step,?_,?_⟩
    ·rw[List.map_append,List.map_append,List.sum_append,List.sum_append,sz]
     show _<_+(g.size+0)
     omega
    ·rw[List.map_append,List.sum_append,sz,List.length_append]
     rw[List.map_append,List.sum_append] at hsz
     have hsz':fe.length+((w_.map fun e=>e.2.size).sum+(g.size+0))≤70000:=hsz
     show fe.length+1+_≤70000
     omega
  ·have Si:ws=[]:=by
    cases ws with
    | nil=>rfl
    | cons q qs=>exact absurd rfl hem
   subst Si
   have Sj:we=[]:=by cases pw;rfl
   subst Sj
   refine⟨_,rfl,Fo,_,rfl,.of L4,fun l hl=>?_⟩
   have sl:=Same.new (o:=.lst (fs.map V.ref).reverse) hl
   refine k l fs.reverse fe.reverse _ (s2'.free hl) (s2'.trans sl) (by rw[ag,List.map_reverse]) ?_ od.late (by rw[List.length_reverse];omega)
   exact zN (ck.keep sl.kt sl.kts pf)
theorem KB.Nn {K:PySem.W.Frag} {d:Addr} {kvs:List (List Key×V)} {H H':Hp} (h:H d=some (.dT kvs)) (k:KB d H H'):eJ K H H':=fun a ys e=>by
 rcases e with(e | ⟨o,e⟩) | e
 ·exact .inl (.inl (k _ _ e (h_ e h (fun z=>nomatch z))))
 ·exact .inl (.inr ⟨o,k _ _ e (h_ e h (fun z=>nomatch z))⟩)
 ·exact .inr e
theorem eB.dT {d:Addr} {kvs:List (List Key×V)} {H H':Hp} (h:H d=some (.dT kvs)) (k:KB d H H'):eB H H':=fun b ys e=>k b _ e (h_ e h (fun z=>nomatch z))
def keyOf (ns:List Nat):List Key:=ns.map fun(n:Nat)=>Sum.inl (n:Int)
theorem w6 (ns:List Nat):cV ns=(keyOf ns).map kV:=by
 unfold cV keyOf
 rw[List.map_map]
 rfl
theorem uH:∀{ns ms:List Nat},keyOf ns=keyOf ms→ns=ms
 | [],[],_=>rfl
 | [],_::_,h=>by cases h
 | _::_,[],h=>by cases h
 | n::ns,m::ms,h=>by
  have h1:(Sum.inl (n:Int):Key)=Sum.inl (m:Int):=(List.cons.inj h).1
  have h2:(n:Int)=m:=Sum.inl.inj h1
  rw[uH (List.cons.inj h).2,Int.ofNat_inj.mp h2]
def w8 (K:PySem.W.Frag):Sp:=fun vs H Q _=>∃(D pl:Addr) (y:V) (g:ao) (kvs:List (List Key×V)) (ns:List Nat) (us:List V),vs=[.ref D,.ref pl,y]∧aq K H y g.dt∧H D=some (.dT kvs)∧H pl=some (.tup (cV ns))∧ns.length≤15∧us.length=g.inner.length∧
 (∀(j:Nat) (u:V),us[j]? =some u→fg kvs (keyOf (ns++[j]))=some u)∧∀(C:Addr) (H':Hp),H C=none→Same H H'→H' C=some (.lst us)→Q (.ref C) H'
theorem q_:aY ["told","place","saying"] ["told","place","saying"] (au cY):=⟨rfl,rfl,rfl,by decide+kernel,rfl,by decide+kernel,by decide+kernel⟩
theorem rg {a:dn} {b:pO} (T:Txt K mg a) (U:mh K w.params mg b):aR P w K mg base cX 2 a.eY a.fP ["told","place","saying"] (w8 K):=by
 have j0:aR P w K mg base cX 1 a.eT a.fB ["saying"] (tI K):=mZ T U
 refine T.rV.ok q_ (fun vs H Q E h=>?_) (fun cdv A outer s H vs Q E hr h=>?_)
 ·obtain⟨D,pl,y,g,kvs,ns,us,rfl,_⟩:=h
  rfl
 ·obtain⟨D,pl,y,g,kvs,ns,us,rfl,dy,eD,zQ,hns,Sk,hus,k⟩:=h
  have jo:aP 1 _:=hr
  refine⟨_,(aw (aL (mP (bF.mk' (esc:=au cY) (N:=["told","place","saying"]) (own:=["number"]) (bO:=["told","place"]) (cy:=[0,1]) rfl rfl (by decide+kernel)) rfl (gF rfl T.iE (ae (bz (bJ K) (by rfl) T.dm cz (ae (av j0 jo rfl T.oB T.oD T.oE .nil aM (ae (pv 2) af)) af)) af)) (fun _ _ _ _=>(cf (i:=0) (show List.Nodup (["number","told","place"]:List Str) by decide+kernel) rfl (Or.inl rfl))) (fun _ _ _ _=>gH) (fun _ _ _ _=>(zf (Al hr) (pv 1) (aD (vW K) (pv 2) (aX (ae (pv 0) af))) (fun _ _=>rfl)))))),?_⟩
  refine⟨_,rfl,y,g,rfl,dy,fun D2 xs H4 hD2 s4 Np FI=>?_⟩
  have lx:xs.length=g.inner.length:=by rw[FI.length,List.length_map]
  refine⟨_,xs.length,rfl,.inl ⟨_,.of Np,rfl⟩,?_⟩
  have Mc:=jH g
  have Sl:=s4 _ _ eD
  have Nq:=s4 _ _ zQ
  refine⟨_,rfl,by omega,by omega,fun C hC=>?_⟩
  refine nE (lo:=0) (fun j σ H'=>∃(v:Option V),σ=[v,some (.ref D),some (.ref pl)]∧Same H4 H'∧H' C=some (.lst (us.take j)))
   ⟨none,?sg,Same.new hC,ag⟩ ?_ ?_
  case sg=>rfl
  ·rintro j σ H5 hj ⟨v,rfl,s5,eC⟩
   have hj':j<us.length:=by omega
   have ej:(0:Int)+(j:Int)=(j:Int):=by omega
   obtain⟨u,hu⟩:∃u,us[j]? =some u:=⟨_,List.getElem?_eq_getElem hj'⟩
   have ev:=hus j u hu
   have done:∀(pn:Addr) (H6:Hp),Same H5 H6→H6 pn=some (.tup (cV (ns++[j])))→∃(a:Addr) (v:V),V.ref D=.ref a∧Ap H6 a (.ref pn) (some v)∧∃ys,H6 C=some (.lst ys)∧ys.length<sizeLine∧
     ∃(v':Option V),[some (V.int (0+(j:Int))),some (.ref D),some (.ref pl)]=[v',some (.ref D),some (.ref pl)]∧Same H4 (upd H6 C (.lst (ys++[v])))∧(upd H6 C (.lst (ys++[v]))) C=some (.lst (us.take (j+1))):=fun pn H6 s6 Jr=>by
    have Mh:=s5.trans s6
    have FJ:=s6 _ _ eC
    refine⟨D,u,rfl,.inr ⟨kvs,keyOf (ns++[j]),pn,.inl (Mh _ _ Sl),rfl,by rw[Jr,w6],ev.symm⟩,_,FJ,?_,_,rfl,Mh.kbn hC KB.write,by rw[ag,take_snoc hu]⟩
    rw[List.length_take];exact Nat.lt_of_lt_of_le (show min j us.length<10 by omega) (by decide)
   refine⟨_,rfl,_,rfl,_,rfl,by show 1≤sizeLine;decide,fun oo hoo=>?_⟩
   have so:=Same.new (o:=.tup [.int (0+(j:Int))]) hoo
   have C5:(upd H5 oo (.tup [.int (0+(j:Int))])) oo=some (.tup (cV [j])):=by rw[ag,ej];rfl
   have Nr:=s5 _ _ Nq
   refine⟨pl,oo,cV ns,cV [j],rfl,rfl,.of (so _ _ Nr),.of C5,by simp[cV],?_,fun hn=>?_,fun hn pn hpn=>?_⟩
   ·rw[cV,cV,List.length_map,List.length_map]
    exact Nat.le_trans (show _≤100 by simp;omega) (by decide)
   ·have hn':ns=[]:=by cases ns with | nil=>rfl | cons _ _=>cases hn
    have e1:cV (ns++[j])=cV [j]:=by rw[hn'];rfl
    exact done oo _ so (by rw[e1];exact C5)
   ·exact done pn _ (so.trans (Same.new hpn)) (by rw[ag,cV,cV,cV,List.map_append])
  rintro σ H5 ⟨v,rfl,s5,eC⟩
  rw[Int.toNat_natCast,lx,←Sk,List.take_length] at eC
  exact k C H5 (s4.free hC) (s4.trans s5) eC
theorem C6 (l:List Str):az (Txt.join (Str.ofString "+") l)=jn 43 (l.map az):=by
 unfold az Txt.join;rw[StrLaws.glued_eq_join,show Str.ofString "+"=⟨#[43]⟩ by decide+kernel,jZ]
def Bb (K:PySem.W.Frag):Sp:=fun vs H Q _=>∃(x:V) (p:Str×Int),vs=[x]∧aq K H x (eZ p)∧i_ p∧∀H',Same H H'→Q (.str (txt (bo p))) H'
def Bc (K:PySem.W.Frag):Sp:=fun vs H Q _=>∃(x:V) (t:Term),vs=[x]∧aq K H x t.dt∧bZ t∧t.parts.length≤10000∧∀H',Same H H'→Q (.str (txt (aQ t))) H'
def EC (K:PySem.W.Frag):Sp:=fun vs H Q _=>∃(a:Str) (x:V) (t:Term),vs=[.str a,x]∧aq K H x t.dt∧bZ t∧t.parts.length≤10000∧a.length≤10∧∀H',Same H H'→Q (.str (txt (atT a t))) H'
theorem xa {K:PySem.W.Frag} {H:Hp} {x:V} {p:Str×Int} (h:aq K H x (eZ p)):∃a,x=.ref a∧bY K H a [.str p.1,.int p.2]:=by
 obtain⟨a,xs,rfl,hq,hd⟩:=gy h
 obtain⟨y,ys,rfl,h1,hd⟩:=c_ hd
 obtain⟨z,zs,rfl,h2,hd⟩:=c_ hd
 cases zs with
 | cons _ _=>simp[aF] at hd
 | nil=>
  rw[aq] at h1
  rw[aq] at h2
  subst h1 h2
  exact⟨a,rfl,hq⟩
theorem xb {K:PySem.W.Frag} {H:Hp} {x:V} {t:Term} (h:aq K H x t.dt):∃a b ys,x=.ref a∧bY K H a [.int t.num,.ref b]∧bY K H b ys∧aF K H ys (t.parts.map eZ):=by
 obtain⟨a,xs,rfl,hq,hd⟩:=gy h
 obtain⟨y,ys,rfl,h1,hd⟩:=c_ hd
 obtain⟨z,zs,rfl,h2,hd⟩:=c_ hd
 cases zs with
 | cons _ _=>simp[aF] at hd
 | nil=>
  rw[aq] at h1
  subst h1
  obtain⟨b,ws,rfl,hb,hw⟩:=gy h2
  exact⟨a,b,ws,rfl,hq,hb,hw⟩
theorem pQ {n:Nat} (h:n<1000):((n:Nat):Int).natAbs.log2<1920:=by
 rw[Int.natAbs_natCast]
 by_cases h0:n=0
 ·subst h0;decide
 ·exact Nat.lt_of_lt_of_le ((Nat.log2_lt h0).mpr (Nat.lt_of_lt_of_le h (by decide:1000≤2 ^ 10))) (by decide)
theorem sz {n:Nat} (h:n≤1000000):n≤sizeLine:=by rw[PySem.sizeLine_eq];omega
theorem lA:aY ["part","name","times"] ["part"] (au gi):=⟨rfl,rfl,rfl,by decide+kernel,rfl,by decide+kernel,by decide+kernel⟩
theorem xc {a:dn} (T:Txt K mg a):aR P w K mg base cX 1 a.ju a.kJ ["part"] (Bb K):=by
 refine T.x9.ok lA (fun vs H Q E h=>?_) (fun cdv A outer s H vs Q E hr h=>?_)
 ·obtain⟨x,p,rfl,_⟩:=h
  rfl
 ·obtain⟨x,p,rfl,hx,ok,k⟩:=h
  obtain⟨q,rfl,hq⟩:=xa hx
  refine⟨_,(ai (aI (i:=1) lA.nd rfl (Or.inl rfl) (aB (aE K) (pv 0) ah (fun _ _=>rfl)))
  (ai (aI (i:=2) lA.nd rfl (Or.inl rfl) (aB (aE K) (pv 0) ah (fun _ _=>rfl)))
  (aw (aL (ng (aJ cb (pv 2) ah (aN _)) (pv 1) (ki (eV (pv 2) (eV (pv 1) mU)))))))),?_⟩
  refine⟨_,rfl,q,_,_,_,rfl,rfl,hq,aj (j:=0) (v:=.str p.1) rfl,_,rfl,q,_,_,_,rfl,rfl,hq,aj (j:=1) (v:=.int p.2) rfl,_,rfl,rfl,_,rfl,dM (fun h=>⟨_,rfl,?_⟩) (fun h=>?_)⟩
  ·have e1:p.2=1:=V.int.inj (of_decide_eq_true h)
   have:=k H (Same.refl _)
   unfold bo at this
   rw[if_pos e1,List.nil_append,gY] at this
   exact this
  ·have e1:¬p.2=1:=fun z=>h (decide_eq_true (by rw[z]))
   obtain⟨n1,n2,n3⟩:=ok
   have nl:=(bR n1).2.1
   obtain⟨n,en⟩:∃n:Nat,p.2=(n:Int):=⟨p.2.toNat,by omega⟩
   have hn:n<10:=by omega
   have z0:(Str.empty++Str.ofString (toString ((n:Nat):Int))).length=1:=by rw[strLen_append,qj hn];rfl
   have z1:(Str.empty++Str.ofString (toString ((n:Nat):Int))++p.1).length≤4:=by rw[strLen_append,z0];omega
   have et:Str.empty++Str.ofString (toString ((n:Nat):Int))++p.1=txt (bo p):=by
    refine bD ?_
    show az _=az _
    rw[aZ,aZ,aK,mX hn]
    unfold bo
    rw[if_neg e1,show p.2.toNat=n by omega];rfl
   rw[en]
   refine⟨_,rfl,.inl ⟨_,rfl,qi hn,by rw[z0];decide,_,rfl,.inr ⟨p.1,rfl,Nat.le_trans z1 (by decide),Nat.le_trans z1 (by decide),?_⟩⟩⟩
   rw[et]
   exact k H (Same.refl _)
theorem pR:aY ["term","pieces"] ["term"] (au fj):=⟨rfl,rfl,rfl,by decide+kernel,rfl,by decide+kernel,by decide+kernel⟩
theorem lB {a:dn} (T:Txt K mg a):aR P w K mg base cX 2 a.jv a.kK ["term"] (Bc K):=by
 have yJ:=xc (P:=P) (w:=w) (base:=base) T
 refine T.ye.ok pR (fun vs H Q E h=>?_) (fun cdv A outer s H vs Q E hr h=>?_)
 ·obtain⟨x,t,rfl,_⟩:=h
  rfl
 ·obtain⟨x,t,rfl,hx,ok,hl,k⟩:=h
  obtain⟨q,b,ys,rfl,hq,hb,hy⟩:=xb hx
  have xf:aP 1 _:=hr
  refine⟨_,(ai (nC (i:=1) (bF.mk' (esc:=au fj) (N:=["term","pieces"]) (own:=["part"]) (bO:=[]) (cy:=[]) rfl rfl (by decide+kernel)) rfl (vz (aB (aE K) (pv 0) ah (fun _ _=>rfl))) (fun _ _ _ _=>(cf (i:=0) (show List.Nodup (["part"]:List Str) by decide+kernel) rfl (Or.inl rfl))) (fun _ _ _ _=>gH) (fun _ _ _ _=>(av yJ xf rfl T.yb T.yc T.yd .nil aM (ae (pv 0) af))) pR.nd rfl rfl)
  (ai (bw (PW.pt (gC (aJ nj (aB (aE K) (pv 0) ah (fun _ _=>rfl)) ah (aN _)) (gE (ku (cI (pv 1) (fun _=>rfl))))))
   (aw (dF (cU PySem.F.plainAttrs_list PySem.F.slot_list_append PySem.F.type_list_append cQ (pv 1) (ae (cL iL (by rfl) T.rZ oZ (ae (aB (aE K) (pv 0) ah (fun _ _=>rfl)) af)) af))))
   aS)
  (aw (aL (cU PySem.F.plainAttrs_str PySem.F.slot_str_join PySem.F.type_str_join (qI K) ay (ae (pv 1) af)))))),?_⟩
  have ly:ys.length=t.parts.length:=by rw[hy.length,List.length_map]
  refine⟨_,rfl,q,_,_,_,rfl,rfl,hq,aj (j:=1) (v:=.ref b) rfl,b,rfl,⟨_,hb⟩,fun C hC=>?_⟩
  refine vU (xs:=ys) (fun i σ H'=>∃v:Option V,σ=[v]∧Same H H'∧H' C=some (.lst (((t.parts.take i).map fun p=>txt (bo p)).map V.str)))
   ⟨none,rfl,Same.new hC,ag⟩ (fun i σ H' _ ⟨_,_,h,_⟩=>h.dr hb) ?_ ?_
  ·rintro i y σ H1 hy1 ⟨v,rfl,s1,eC⟩
   obtain⟨d,ed,hd⟩:=hy.get hy1
   rw[List.getElem?_map] at ed
   cases ep:t.parts[i]? with
   | none=>rw[ep] at ed;cases ed
   | some p=>
    rw[ep] at ed
    obtain rfl:eZ p=d:=Option.some.inj ed
    have hi:=(List.getElem?_eq_some_iff.mp ep).1
    refine⟨_,rfl,y,p,rfl,aA s1.kts _ _ (by simp[eZ,Dt.bb,Dt.dP]) hd,ok.2.2 p (List.mem_of_getElem? ep),fun H2 s2=>⟨_,s2 _ _ eC,?_,_,rfl,(s1.trans s2).kbn hC KB.write,?_⟩⟩
    ·rw[List.length_map,List.length_map,List.length_take];exact Nat.lt_of_lt_of_le (show min i t.parts.length<20000 by omega) (by decide)
    ·rw[ag,List.take_add_one,ep,List.map_append,List.map_append];rfl
  rintro σ H1 ⟨v,rfl,s1,eC⟩
  rw[ly,List.take_length] at eC
  obtain⟨n,en⟩:∃n:Nat,t.num=(n:Int):=⟨t.num.toNat,by have:=ok.1;omega⟩
  have hn:n<100:=by have:=ok.1;omega
  have hlen:∀x∈(bB t).map txt,x.length≤10:=fun x hx=>by
   obtain⟨l,hl,rfl⟩:=List.mem_map.mp hx
   rw[aH]
   unfold bB at hl
   rcases List.mem_append.mp hl with h | h
   ·obtain⟨p,hp,rfl⟩:=List.mem_map.mp h
    exact Nat.le_trans (me (ok.2.2 p hp)) (by decide)
   ·split at h
    ·rw[List.mem_singleton.mp h];exact Nat.le_trans kZ.1 (by decide)
    ·cases h
  have lW:((bB t).map txt).length≤10001:=by
   rw[List.length_map]
   unfold bB
   rw[List.length_append,List.length_map]
   split
   ·simp;omega
   ·simp;omega
  have fin:∀H',Same H H'→H' C=some (.lst (((bB t).map txt).map V.str))→rJoin K (.str (Str.ofString "+")) [.ref C] H' Q:=fun H' s' e'=>by
   refine⟨Str.ofString "+",C,(bB t).map txt,rfl,rfl,.of e',?_,fun z hz ez=>?_⟩
   ·have h1:(Str.ofString "+").length=1:=by decide+kernel
    have h2:=wL hlen lW
    rw[h1]
    omega
   ·have:z=txt (aQ t):=by
     refine bD ?_
     show az z=az _
     rw[ez,aK,C6,List.map_map]
     unfold aQ
     congr 1
     rw[show(az∘txt)=id from funext fun l=>aK l,List.map_id]
    rw[this]
    exact k H' s'
  refine⟨_,rfl,q,_,_,_,rfl,rfl,s1.dr hq,aj (j:=0) (v:=.int t.num) rfl,rfl,_,rfl,?_⟩
  have app:(t.num≠0∨t.parts=[])→((t.parts.map fun p=>txt (bo p))++[Str.ofString (toString t.num)])=(bB t).map txt:=fun c=>by
   unfold bB
   rw[if_pos c,List.map_append,List.map_map,en]
   have:Str.ofString (toString ((n:Nat):Int))=txt (dU ((n:Nat):Int).toNat):=bD (by show az _=az _;rw[wM hn,aK];rfl)
   rw[this];rfl
  have grow:(t.num≠0∨t.parts=[])→(upd H1 C (.lst (((t.parts.map fun p=>txt (bo p)).map V.str)++[.str (Str.ofString (toString t.num))]))) C=some (.lst (((bB t).map txt).map V.str)):=fun c=>by
   rw[ag,←app c,List.map_append];rfl
  have step:(t.num≠0∨t.parts=[])→Same H (upd H1 C (.lst (((t.parts.map fun p=>txt (bo p)).map V.str)++[.str (Str.ofString (toString t.num))]))):=fun _=>s1.kbn hC KB.write
  have lC:((t.parts.map fun p=>txt (bo p)).map V.str).length<sizeLine:=by rw[List.length_map,List.length_map];exact Nat.lt_of_le_of_lt hl (by decide)
  by_cases h0:t.num=0
  ·rw[show decide (V.int t.num=V.int 0)=true from decide_eq_true (by rw[h0])]
   refine aG ⟨_,rfl,_,.inl ⟨_,.of eC,rfl⟩,?_⟩
   by_cases hp:t.parts=[]
   ·rw[show(((t.parts.map fun p=>txt (bo p)).map V.str)).isEmpty=true by rw[hp];rfl]
    refine bf ⟨_,rfl,.inl ⟨rfl,_,.of eC⟩,_,rfl,q,_,_,_,rfl,rfl,s1.dr hq,aj (j:=0) (v:=.int t.num) rfl,_,rfl,by rw[en];exact pQ (by omega),C,_,_,rfl,rfl,eC,lC,?_⟩
    exact⟨rfl,_,rfl,fin _ (step (.inr hp)) (grow (.inr hp))⟩
   ·have:(((t.parts.map fun p=>txt (bo p)).map V.str)).isEmpty=false:=by
     cases e:t.parts with
     | nil=>exact absurd e hp
     | cons a l=>rfl
    rw[this]
    refine aG ⟨rfl,_,rfl,fin _ s1 ?_⟩
    rw[eC]
    unfold bB
    have e1:(t.parts.map fun p=>txt (bo p))=(t.parts.map bo).map txt:=by rw[List.map_map];rfl
    rw[if_neg (by rintro(z | z);exact z h0;exact hp z),List.append_nil,e1]
  ·rw[show decide (V.int t.num=V.int 0)=false from decide_eq_false (fun z=>h0 (V.int.inj z))]
   refine bf (bf ⟨_,rfl,.inl ⟨rfl,_,.of eC⟩,_,rfl,q,_,_,_,rfl,rfl,s1.dr hq,aj (j:=0) (v:=.int t.num) rfl,_,rfl,by rw[en];exact pQ (by omega),C,_,_,rfl,rfl,eC,lC,?_⟩)
   exact⟨rfl,_,rfl,fin _ (step (.inl h0)) (grow (.inl h0))⟩
def ao.lD:ao→Prop
 | .same t u=>t.parts.length≤10000∧u.parts.length≤10000
 | .less t u=>t.parts.length≤10000∧u.parts.length≤10000
 | .sign _ t _=>t.parts.length≤10000
 | .alike _ t _ u=>t.parts.length≤10000∧u.parts.length≤10000
 | .no f=>f.lD
 | .and f g=>f.lD∧g.lD
 | .or f g=>f.lD∧g.lD
 | .some _ f=>f.lD
 | .each _ f=>f.lD
theorem ao.dw.few:∀{f:ao},f.dw→f.lD
 | .same _ _,h=>⟨by have:=h.1.2;omega,by have:=h.2.2;omega⟩
 | .less _ _,h=>⟨by have:=h.1.2;omega,by have:=h.2.2;omega⟩
 | .sign _ t _,h=>(by have:=h.2.1.2;omega:t.parts.length≤10000)
 | .alike _ _ _ _,h=>⟨by have:=h.2.1.2;omega,by have:=h.2.2.2.2;omega⟩
 | .no f,h=>ao.dw.few (f:=f) h
 | .and f g,h=>⟨ao.dw.few (f:=f) h.1,ao.dw.few (f:=g) h.2⟩
 | .or f g,h=>⟨ao.dw.few (f:=f) h.1,ao.dw.few (f:=g) h.2⟩
 | .some _ f,h=>ao.dw.few (f:=f) h.2
 | .each _ f,h=>ao.dw.few (f:=f) h.2
theorem pS {t:Term} (ok:bZ t) (h:t.parts.length≤10000):(aQ t).length≤60000:=by
 have h1:=tD (c:=43) (bB t)
 have h2:((bB t).map List.length).sum≤40002:=by
  unfold bB
  rw[List.map_append,List.sum_append,List.map_map]
  have h3:=wK (l:=t.parts.map (List.length∘bo)) (k:=4) (fun x hx=>by
   obtain⟨p,hp,rfl⟩:=List.mem_map.mp hx
   exact me (ok.2.2 p hp))
  rw[List.length_map] at h3
  have h5:((if t.num≠0∨t.parts=[] then [dU t.num.toNat] else []).map List.length).sum≤2:=by
   split
   ·have:=(kZ (n:=t.num.toNat)).1
    simp;exact this
   ·simp
  omega
 have h3:(bB t).length≤10001:=by
  unfold bB
  rw[List.length_append,List.length_map]
  split
  ·simp;omega
  ·simp;omega
 unfold aQ;omega
def Bd (K:PySem.W.Frag):Sp:=fun vs H Q _=>∃(x:V) (f:ao),vs=[x]∧aq K H x f.dt∧f.atom=true∧f.Ok∧f.lD∧∀H',Same H H'→Q (.str (txt (ak f))) H'
def Be (K:PySem.W.Frag):Sp:=fun vs H Q _=>∃(x:V) (f:ao) (I:Addr),vs=[x,.ref I]∧aq K H x f.dt∧f.Ok∧f.lD∧(ak f).length≤1000000∧H I=some (.lst ((f.inner.map fun g=>txt (ak g)).map V.str))∧∀H',Same H H'→Q (.str (txt (ak f))) H'
def pT (K:PySem.W.Frag):Sp:=fun vs H Q _=>∃(x:V) (f:ao),vs=[x]∧aq K H x f.dt∧f.deep≤15∧f.Ok∧f.lD∧(ak f).length≤1000000∧∀H',Same H H'→Q (.str (txt (ak f))) H'
theorem nZ {a b:Str} {u v:List Nat} (ha:a=txt u) (hb:b=txt v):a++b=txt (u++v):=by
 refine bD ?_
 show az _=az _
 rw[aZ,ha,hb,aK,aK,aK]
theorem km {z:Str} {u:List Nat} (h:az z=u):z=txt u:=by rw[←h,gY]
theorem dJ {K:PySem.W.Frag} {H:Hp} {x:V} {ds:List Dt} (h:aq K H x (.tup ds)):∃a xs,x=.ref a∧bY K H a xs∧aF K H xs ds:=gy h
theorem dc {K:PySem.W.Frag} {H:Hp} {xs:List V} {ds:List Dt} (h:aF K H xs ds) {i:Nat} {d:Dt} (e:ds[i]? =some d):∃y,xs[i]? =some y∧aq K H y d:=by
 have hl:=h.length
 have hi:i<xs.length:=by rw[hl];exact(List.getElem?_eq_some_iff.mp e).1
 obtain⟨d',e',hd⟩:=h.get (List.getElem?_eq_getElem hi)
 rw[e] at e'
 cases e'
 exact⟨_,List.getElem?_eq_getElem hi,hd⟩
theorem bg {K:PySem.W.Frag} {H:Hp} {xs:List V} {ds:List Dt} (h:aF K H xs ds) {i:Nat} {z:Str} (e:ds[i]? =some (.str z)):xs[i]? =some (.str z):=by
 obtain⟨y,hy,hd⟩:=dc h e
 rw[aq] at hd
 rw[hy,hd]
theorem C7 {K:PySem.W.Frag} {H:Hp} {xs:List V} {ds:List Dt} (h:aF K H xs ds) {i:Nat} {z:Int} (e:ds[i]? =some (.int z)):xs[i]? =some (.int z):=by
 obtain⟨y,hy,hd⟩:=dc h e
 rw[aq] at hd
 rw[hy,hd]
theorem sh:aY ["name","term","inside"] ["name","term"] (au iw):=⟨rfl,rfl,rfl,by decide+kernel,rfl,by decide+kernel,by decide+kernel⟩
theorem Bf {a:dn} (T:Txt K mg a):aR P w K mg base cX 3 a.lN a.nK ["name","term"] (EC K):=by
 have dX:=lB (P:=P) (w:=w) (base:=base) T
 refine T.Cw.ok sh (fun vs H Q E h=>?_) (fun cdv A outer s H vs Q E hr h=>?_)
 ·obtain⟨n,x,t,rfl,_⟩:=h
  rfl
 ·obtain⟨n,x,t,rfl,hx,ok,hl,hn,k⟩:=h
  have dD:aP 2 _:=hr
  refine⟨_,(ai (aI (i:=2) sh.nd rfl (Or.inl rfl) (av dX dD rfl T.gs T.gu T.gw .nil aM (ae (pv 1) af)))
  (aw (aL (ki (eV (pv 0) (f_ (eV (pv 2) (f_ mU)))))))),?_⟩
  have tl:=pS ok hl
  refine⟨_,rfl,x,t,rfl,hx,ok,hl,fun H1 s1=>?_⟩
  have l1:(Str.ofString "[").length=1:=by decide+kernel
  have l2:(Str.ofString "]").length=1:=by decide+kernel
  have l3:(txt (aQ t)).length≤60000:=by rw[aH];exact tl
  have l0:Str.empty.length=0:=rfl
  refine⟨_,rfl,.inr ⟨n,rfl,?_,?_,_,rfl,.inr ⟨_,rfl,?_,?_,?_,?_⟩⟩⟩
  ·rw[strLen_append];omega
  ·rw[strLen_append,strLen_append];omega
  ·rw[strLen_append,strLen_append,strLen_append];omega
  ·rw[strLen_append,strLen_append,strLen_append,strLen_append];omega
  ·rw[strLen_append,strLen_append,strLen_append,strLen_append];omega
  have:Str.empty++n++Str.ofString "["++txt (aQ t)++Str.ofString "]"=txt (atT n t):=by
   refine bD ?_
   show az _=az _
   rw[aZ,aZ,aZ,aZ,aK,aK,show az (Str.ofString "[")=[91] by decide+kernel,show az (Str.ofString "]")=[93] by decide+kernel,show az Str.empty=[] from rfl]
   unfold atT
   simp
  rw[this]
  exact k H1 s1
theorem pU:aY ["saying","word"] ["saying"] (au gj):=⟨rfl,rfl,rfl,by decide+kernel,rfl,by decide+kernel,by decide+kernel⟩
theorem xg {a:dn} (T:Txt K mg a):aR P w K mg base cX 4 a.jw a.kL ["saying"] (Bd K):=by
 have dX:=lB (P:=P) (w:=w) (base:=base) T
 have pV:=Bf (P:=P) (w:=w) (base:=base) T
 refine T.yf.ok pU (fun vs H Q E h=>?_) (fun cdv A outer s H vs Q E hr h=>?_)
 ·obtain⟨x,f,rfl,_⟩:=h
  rfl
 ·obtain⟨x,f,rfl,hx,at',ok,few,k⟩:=h
  have dD:aP 2 _:=hr.mono (by decide)
  have n_:aP 3 _:=hr
  refine⟨_,(ai (aI (i:=1) pU.nd rfl (Or.inl rfl) (aB (aE K) (pv 0) ah (fun _ _=>rfl)))
  (ai (bw (aJ cb (pv 1) ay (aN _))
   (aw (aL (aD aO (aD aO (av dX dD rfl T.gs T.gu T.gw .nil aM (ae (aB (aE K) (pv 0) ah (fun _ _=>rfl)) af)) ay) (av dX dD rfl T.gs T.gu T.gw .nil aM (ae (aB (aE K) (pv 0) ah (fun _ _=>rfl)) af)))))
   aS)
  (ai (bw (aJ cb (pv 1) ay (aN _))
   (aw (aL (aD aO (aD aO (av dX dD rfl T.gs T.gu T.gw .nil aM (ae (aB (aE K) (pv 0) ah (fun _ _=>rfl)) af)) ay) (av dX dD rfl T.gs T.gu T.gw .nil aM (ae (aB (aE K) (pv 0) ah (fun _ _=>rfl)) af)))))
   aS)
  (ai (bw (aJ cb (pv 1) ay (aN _))
   (aw (aL (aD aO (aD aO (av pV n_ rfl T.ph T.pj T.px .nil aM (ae (aB (aE K) (pv 0) ah (fun _ _=>rfl)) (ae (aB (aE K) (pv 0) ah (fun _ _=>rfl)) af))) ay) (cL iL (by rfl) T.rZ oZ (ae (aB (aE K) (pv 0) ah (fun _ _=>rfl)) af)))))
   aS)
  (aw (aL (aD aO (aD aO (av pV n_ rfl T.ph T.pj T.px .nil aM (ae (aB (aE K) (pv 0) ah (fun _ _=>rfl)) (ae (aB (aE K) (pv 0) ah (fun _ _=>rfl)) af))) ay) (av pV n_ rfl T.ph T.pj T.px .nil aM (ae (aB (aE K) (pv 0) ah (fun _ _=>rfl)) (ae (aB (aE K) (pv 0) ah (fun _ _=>rfl)) af)))))))))),?_⟩
  have c1:az (Str.ofString " = ")=[32,61,32]:=by decide+kernel
  have c2:az (Str.ofString " < ")=[32,60,32]:=by decide+kernel
  have c3:az (Str.ofString " ~ ")=[32,126,32]:=by decide+kernel
  have e1:(Str.ofString " = ").length=3:=by decide+kernel
  have e2:(Str.ofString " < ").length=3:=by decide+kernel
  have e3:(Str.ofString " ~ ").length=3:=by decide+kernel
  have FK:∀{t:Term},bZ t→t.parts.length≤10000→(txt (aQ t)).length≤60000:=fun o h=>by rw[aH];exact pS o h
  have lat:∀{n:Str} {t:Term},nameB bX n=true→bZ t→t.parts.length≤10000→(txt (atT n t)).length≤60010:=fun {n t} hn o h=>by
   have h1:=pS o h
   have h2:=(cj hn).2.1
   rw[aH]
   unfold atT
   simp only[List.length_append,List.length_cons,List.length_nil,←bE]
   omega
  cases f with
  | same t u=>
   obtain⟨q,xs,rfl,hq,hd⟩:=dJ hx
   obtain⟨y1,i1,d1⟩:=dc hd (i:=1) (d:=t.dt) rfl
   obtain⟨y2,i2,d2⟩:=dc hd (i:=2) (d:=u.dt) rfl
   have l1:=FK ok.1 few.1
   have l2:=FK ok.2 few.2
   refine⟨_,rfl,q,xs,_,_,rfl,rfl,hq,aj (j:=0) (bg hd (i:=0) rfl),_,rfl,rfl,_,rfl,bf ?_⟩
   refine⟨_,rfl,q,xs,_,_,rfl,rfl,hq,aj (j:=1) i1,y1,t,rfl,d1,ok.1,few.1,fun H1 s1=>⟨_,_,rfl,rfl,sz (by omega),_,rfl,q,xs,_,_,rfl,rfl,s1.dr hq,aj (j:=2) i2,y2,u,rfl,aA s1.kts _ _ u.bb d2,ok.2,few.2,fun H2 s2=>⟨_,_,rfl,rfl,?_,?_⟩⟩⟩
   ·rw[strLen_append];refine sz ?_;omega
   ·rw[nZ (nZ rfl (km c1)) rfl,List.append_assoc]
    exact k H2 (s1.trans s2)
  | less t u=>
   obtain⟨q,xs,rfl,hq,hd⟩:=dJ hx
   obtain⟨y1,i1,d1⟩:=dc hd (i:=1) (d:=t.dt) rfl
   obtain⟨y2,i2,d2⟩:=dc hd (i:=2) (d:=u.dt) rfl
   have l1:=FK ok.1 few.1
   have l2:=FK ok.2 few.2
   refine⟨_,rfl,q,xs,_,_,rfl,rfl,hq,aj (j:=0) (bg hd (i:=0) rfl),_,rfl,rfl,_,rfl,aG ⟨_,rfl,rfl,_,rfl,bf ?_⟩⟩
   refine⟨_,rfl,q,xs,_,_,rfl,rfl,hq,aj (j:=1) i1,y1,t,rfl,d1,ok.1,few.1,fun H1 s1=>⟨_,_,rfl,rfl,sz (by omega),_,rfl,q,xs,_,_,rfl,rfl,s1.dr hq,aj (j:=2) i2,y2,u,rfl,aA s1.kts _ _ u.bb d2,ok.2,few.2,fun H2 s2=>⟨_,_,rfl,rfl,?_,?_⟩⟩⟩
   ·rw[strLen_append];refine sz ?_;omega
   ·rw[nZ (nZ rfl (km c2)) rfl,List.append_assoc]
    exact k H2 (s1.trans s2)
  | sign n t g=>
   obtain⟨q,xs,rfl,hq,hd⟩:=dJ hx
   obtain⟨y2,i2,d2⟩:=dc hd (i:=2) (d:=t.dt) rfl
   obtain⟨hn,o1,g0,g9⟩:=ok
   have nl:=(cj hn).2.1
   have l1:=lat hn o1 few
   obtain⟨m,rfl⟩:∃m:Nat,g=(m:Int):=⟨g.toNat,by omega⟩
   have hm:m<10:=by omega
   refine⟨_,rfl,q,xs,_,_,rfl,rfl,hq,aj (j:=0) (bg hd (i:=0) rfl),_,rfl,rfl,_,rfl,aG ⟨_,rfl,rfl,_,rfl,aG ⟨_,rfl,rfl,_,rfl,bf ?_⟩⟩⟩
   refine⟨_,rfl,q,xs,_,_,rfl,rfl,hq,aj (j:=1) (bg hd (i:=1) rfl),_,rfl,q,xs,_,_,rfl,rfl,hq,aj (j:=2) i2,n,y2,t,rfl,d2,o1,few,by omega,fun H1 s1=>⟨_,_,rfl,rfl,sz (by omega),_,rfl,q,xs,_,_,rfl,rfl,s1.dr hq,aj (j:=3) (C7 hd (i:=3) rfl),_,rfl,qi hm,_,_,rfl,rfl,?_,?_⟩⟩
   ·rw[strLen_append,qj hm];refine sz ?_;omega
   ·rw[nZ (nZ rfl (km c1)) (km (mX hm)),List.append_assoc]
    have:=k H1 s1
    exact this
  | alike n t n2 u=>
   obtain⟨q,xs,rfl,hq,hd⟩:=dJ hx
   obtain⟨y2,i2,d2⟩:=dc hd (i:=2) (d:=t.dt) rfl
   obtain⟨y4,i4,d4⟩:=dc hd (i:=4) (d:=u.dt) rfl
   obtain⟨hn,o1,hn2,o2⟩:=ok
   have nl:=(cj hn).2.1
   have Vy:=(cj hn2).2.1
   have l1:=lat hn o1 few.1
   have l2:=lat hn2 o2 few.2
   refine⟨_,rfl,q,xs,_,_,rfl,rfl,hq,aj (j:=0) (bg hd (i:=0) rfl),_,rfl,rfl,_,rfl,aG ⟨_,rfl,rfl,_,rfl,aG ⟨_,rfl,rfl,_,rfl,aG ?_⟩⟩⟩
   refine⟨_,rfl,q,xs,_,_,rfl,rfl,hq,aj (j:=1) (bg hd (i:=1) rfl),_,rfl,q,xs,_,_,rfl,rfl,hq,aj (j:=2) i2,n,y2,t,rfl,d2,o1,few.1,by omega,fun H1 s1=>⟨_,_,rfl,rfl,sz (by omega),_,rfl,q,xs,_,_,rfl,rfl,s1.dr hq,aj (j:=3) (bg hd (i:=3) rfl),_,rfl,q,xs,_,_,rfl,rfl,s1.dr hq,aj (j:=4) i4,n2,y4,u,rfl,aA s1.kts _ _ u.bb d4,o2,few.2,by omega,fun H2 s2=>⟨_,_,rfl,rfl,?_,?_⟩⟩⟩
   ·rw[strLen_append];refine sz ?_;omega
   ·rw[nZ (nZ rfl (km c3)) rfl,List.append_assoc]
    exact k H2 (s1.trans s2)
  | _=>cases at'
theorem xh {f g:ao} (h:g∈f.inner):(ak g).length<(ak f).length:=by
 cases f with
 | no a=>rw[List.mem_singleton.mp h];simp[ak];omega
 | and a b=>
  rcases List.mem_cons.mp h with e | e
  ·rw[e];simp[ak];omega
  ·rw[List.mem_singleton.mp e];simp[ak];omega
 | or a b=>
  rcases List.mem_cons.mp h with e | e
  ·rw[e];simp[ak];omega
  ·rw[List.mem_singleton.mp e];simp[ak];omega
 | some n a=>rw[List.mem_singleton.mp h];simp[ak];omega
 | each n a=>rw[List.mem_singleton.mp h];simp[ak];omega
 | _=>cases h
theorem ED {f g:ao} (h:g∈f.inner) (ok:f.Ok) (few:f.lD):g.Ok∧g.lD:=by
 cases f with
 | no a=>rw[List.mem_singleton.mp h];exact⟨ok,few⟩
 | and a b=>
  rcases List.mem_cons.mp h with e | e
  ·rw[e];exact⟨ok.1,few.1⟩
  ·rw[List.mem_singleton.mp e];exact⟨ok.2,few.2⟩
 | or a b=>
  rcases List.mem_cons.mp h with e | e
  ·rw[e];exact⟨ok.1,few.1⟩
  ·rw[List.mem_singleton.mp e];exact⟨ok.2,few.2⟩
 | some n a=>rw[List.mem_singleton.mp h];exact⟨ok.2,few⟩
 | each n a=>rw[List.mem_singleton.mp h];exact⟨ok.2,few⟩
 | _=>cases h
theorem FL:∀(ns:List Nat) (f g:ao),f.Ok→f.lD→f.at ns=some g→g.Ok∧g.lD∧(ak g).length≤(ak f).length
 | [],f,g,o,w,e=>by
  have e':f=g:=Option.some.inj e
  rw[←e'];exact⟨o,w,Nat.le_refl _⟩
 | n::ns,f,g,o,w,e=>by
  have e':(f.inner[n]?).bind (fun g=>g.at ns)=some g:=e
  obtain⟨u,eu,ea⟩:=Option.bind_eq_some_iff.mp e'
  have hm:=List.mem_of_getElem? eu
  obtain⟨o1,w1⟩:=ED hm o w
  obtain⟨h1,h2,h3⟩:=FL ns u g o1 w1 ea
  exact⟨h1,h2,Nat.le_of_lt (Nat.lt_of_le_of_lt h3 (xh hm))⟩
def Lb (kvs:List (List Key×V)) (es:List Ent):Prop:=∀e∈es,fg kvs (keyOf e.1)=some (.str (txt (ak e.2)))
theorem pW:aY ["saying","inner","word"] ["saying","inner"] (au gk):=⟨rfl,rfl,rfl,by decide+kernel,rfl,by decide+kernel,by decide+kernel⟩
theorem xi {a:dn} (T:Txt K mg a):aR P w K mg base cX 5 a.jx a.kM ["saying","inner"] (Be K):=by
 have yK:=xg (P:=P) (w:=w) (base:=base) T
 refine T.yj.ok pW (fun vs H Q E h=>?_) (fun cdv A outer s H vs Q E hr h=>?_)
 ·obtain⟨x,f,I,rfl,_⟩:=h
  rfl
 ·obtain⟨x,f,I,rfl,hx,ok,few,ln,hI,k⟩:=h
  have xj:aP 4 _:=hr
  refine⟨_,(ai (aI (i:=2) pW.nd rfl (Or.inl rfl) (aB (aE K) (pv 0) ah (fun _ _=>rfl)))
  (ai (bw (aJ cb (pv 2) ay (aN _))
   (aw (aL (aD aO ay (aB (bH K) (pv 1) ah (fun _ _=>rfl)))))
   aS)
  (ai (bw (aJ (mQ K) (pv 2) (aX (ae ay (ae ay af))) (by with_unfolding_all rfl))
   (aw (aL (aD aO (aD aO (aD aO (aD aO (aD aO (aD aO ay (aB (bH K) (pv 1) ah (fun _ _=>rfl))) ay) (pv 2)) ay) (aB (bH K) (pv 1) ah (fun _ _=>rfl))) ay)))
   aS)
  (ai (bw (aJ (mQ K) (pv 2) (aX (ae ay (ae ay af))) (by with_unfolding_all rfl))
   (aw (aL (aD aO (aD aO (aD aO (aD aO (pv 2) ay) (aB (aE K) (pv 0) ah (fun _ _=>rfl))) ay) (aB (bH K) (pv 1) ah (fun _ _=>rfl)))))
   aS)
  (aw (aL (av yK xj rfl T.yg T.yh T.yi .nil aM (ae (pv 0) af)))))))),?_⟩
  have bl:az (Str.ofString " ")=[32]:=by decide+kernel
  have l1:(Str.ofString " ").length=1:=by decide+kernel
  have hin:∀g∈f.inner,(txt (ak g)).length≤1000000:=fun g hg=>by rw[aH];have:=xh hg;omega
  have lp:(Str.ofString "(").length=1:=by decide+kernel
  have lq:(Str.ofString ")").length=1:=by decide+kernel
  have land:(Str.ofString "and").length=3:=by decide+kernel
  have lor:(Str.ofString "or").length=2:=by decide+kernel
  have bp:(Str.ofString "some").length=4:=by decide+kernel
  have bq:(Str.ofString "each").length=4:=by decide+kernel
  cases f with
  | no g=>
   obtain⟨q,xs,rfl,hq,hd⟩:=dJ hx
   have lg:=hin g (by simp[ao.inner])
   refine⟨_,rfl,q,xs,_,_,rfl,rfl,hq,aj (j:=0) (bg hd (i:=0) rfl),_,rfl,rfl,_,rfl,bf ?_⟩
   refine⟨_,rfl,I,_,_,_,rfl,rfl,.of hI,aj (j:=0) (v:=.str (txt (ak g))) rfl,_,_,rfl,rfl,?_,?_⟩
   ·rw[show(Str.ofString "not ").length=4 by decide+kernel];rw[PySem.sizeLine_eq];omega
   ·rw[nZ (km (u:=[110,111,116,32]) (by decide+kernel)) rfl]
    exact k H (Same.refl _)
  | and g h=>
   obtain⟨q,xs,rfl,hq,hd⟩:=dJ hx
   have lg:=hin g (by simp[ao.inner])
   have lh:=hin h (by simp[ao.inner])
   refine⟨_,rfl,q,xs,_,_,rfl,rfl,hq,aj (j:=0) (bg hd (i:=0) rfl),_,rfl,rfl,_,rfl,aG ⟨_,rfl,by show 2≤sizeLine;decide,fun t1 ht1=>⟨t1,_,rfl,.inr (.of ag),rfl,rfl,_,rfl,bf ?_⟩⟩⟩
   have s1:=Same.new (o:=.tup [.str (Str.ofString "and"),.str (Str.ofString "or")]) ht1
   have si:=s1 _ _ hI
   refine⟨_,rfl,I,_,_,_,rfl,rfl,.of si,aj (j:=0) (v:=.str (txt (ak g))) rfl,_,_,rfl,rfl,?_,_,_,rfl,rfl,?_,_,rfl,_,_,rfl,rfl,?_,_,_,rfl,rfl,?_,_,rfl,I,_,_,_,rfl,rfl,.of si,aj (j:=1) (v:=.str (txt (ak h))) rfl,_,_,rfl,rfl,?_,_,_,rfl,rfl,?_,?_⟩
   ·rw[lp,PySem.sizeLine_eq];omega
   ·rw[strLen_append,lp,l1,PySem.sizeLine_eq];omega
   ·rw[strLen_append,strLen_append,lp,l1,land,PySem.sizeLine_eq];omega
   ·rw[strLen_append,strLen_append,strLen_append,lp,l1,land,PySem.sizeLine_eq];omega
   ·rw[strLen_append,strLen_append,strLen_append,strLen_append,lp,l1,land,PySem.sizeLine_eq];omega
   ·rw[strLen_append,strLen_append,strLen_append,strLen_append,strLen_append,lp,l1,land,lq,PySem.sizeLine_eq];omega
   ·have et:Str.ofString "("++txt (ak g)++Str.ofString " "++Str.ofString "and"++Str.ofString " "++txt (ak h)++Str.ofString ")"=txt (ak (.and g h)):=by
     refine bD ?_
     show az _=az _
     rw[aZ,aZ,aZ,aZ,aZ,aZ,aK,aK,aK,bl,show az (Str.ofString "(")=[40] by decide+kernel,show az (Str.ofString ")")=[41] by decide+kernel,show az (Str.ofString "and")=[97,110,100] by decide+kernel]
     simp[ak]
    exact Eq.mp (congrArg (fun z=>Q (V.str z) _) et.symm) (k _ s1)
  | or g h=>
   obtain⟨q,xs,rfl,hq,hd⟩:=dJ hx
   have lg:=hin g (by simp[ao.inner])
   have lh:=hin h (by simp[ao.inner])
   refine⟨_,rfl,q,xs,_,_,rfl,rfl,hq,aj (j:=0) (bg hd (i:=0) rfl),_,rfl,rfl,_,rfl,aG ⟨_,rfl,by show 2≤sizeLine;decide,fun t1 ht1=>⟨t1,_,rfl,.inr (.of ag),rfl,rfl,_,rfl,bf ?_⟩⟩⟩
   have s1:=Same.new (o:=.tup [.str (Str.ofString "and"),.str (Str.ofString "or")]) ht1
   have si:=s1 _ _ hI
   refine⟨_,rfl,I,_,_,_,rfl,rfl,.of si,aj (j:=0) (v:=.str (txt (ak g))) rfl,_,_,rfl,rfl,?_,_,_,rfl,rfl,?_,_,rfl,_,_,rfl,rfl,?_,_,_,rfl,rfl,?_,_,rfl,I,_,_,_,rfl,rfl,.of si,aj (j:=1) (v:=.str (txt (ak h))) rfl,_,_,rfl,rfl,?_,_,_,rfl,rfl,?_,?_⟩
   ·rw[lp,PySem.sizeLine_eq];omega
   ·rw[strLen_append,lp,l1,PySem.sizeLine_eq];omega
   ·rw[strLen_append,strLen_append,lp,l1,lor,PySem.sizeLine_eq];omega
   ·rw[strLen_append,strLen_append,strLen_append,lp,l1,lor,PySem.sizeLine_eq];omega
   ·rw[strLen_append,strLen_append,strLen_append,strLen_append,lp,l1,lor,PySem.sizeLine_eq];omega
   ·rw[strLen_append,strLen_append,strLen_append,strLen_append,strLen_append,lp,l1,lor,lq,PySem.sizeLine_eq];omega
   ·have et:Str.ofString "("++txt (ak g)++Str.ofString " "++Str.ofString "or"++Str.ofString " "++txt (ak h)++Str.ofString ")"=txt (ak (.or g h)):=by
     refine bD ?_
     show az _=az _
     rw[aZ,aZ,aZ,aZ,aZ,aZ,aK,aK,aK,bl,show az (Str.ofString "(")=[40] by decide+kernel,show az (Str.ofString ")")=[41] by decide+kernel,show az (Str.ofString "or")=[111,114] by decide+kernel]
     simp[ak]
    exact Eq.mp (congrArg (fun z=>Q (V.str z) _) et.symm) (k _ s1)
  | some n g=>
   obtain⟨q,xs,rfl,hq,hd⟩:=dJ hx
   have lg:=hin g (by simp[ao.inner])
   have nl:=(bR ok.1).2.1
   refine⟨_,rfl,q,xs,_,_,rfl,rfl,hq,aj (j:=0) (bg hd (i:=0) rfl),_,rfl,rfl,_,rfl,aG ⟨_,rfl,by show 2≤sizeLine;decide,fun t1 ht1=>⟨t1,_,rfl,.inr (.of ag),rfl,rfl,_,rfl,aG ⟨_,rfl,by show 2≤sizeLine;decide,fun t2 pX=>⟨t2,_,rfl,.inr (.of ag),rfl,rfl,_,rfl,bf ?_⟩⟩⟩⟩⟩
   have s1:=(Same.new (o:=.tup [.str (Str.ofString "and"),.str (Str.ofString "or")]) ht1).trans (Same.new (o:=.tup [.str (Str.ofString "some"),.str (Str.ofString "each")]) pX)
   have si:=s1 _ _ hI
   refine⟨_,rfl,_,_,rfl,rfl,?_,_,rfl,q,xs,_,_,rfl,rfl,s1.dr hq,aj (j:=1) (bg hd (i:=1) rfl),_,_,rfl,rfl,?_,_,_,rfl,rfl,?_,_,rfl,I,_,_,_,rfl,rfl,.of si,aj (j:=0) (v:=.str (txt (ak g))) rfl,_,_,rfl,rfl,?_,?_⟩
   ·rw[bp,l1,PySem.sizeLine_eq];omega
   ·rw[strLen_append,bp,l1,PySem.sizeLine_eq];omega
   ·rw[strLen_append,strLen_append,bp,l1,PySem.sizeLine_eq];omega
   ·rw[strLen_append,strLen_append,strLen_append,bp,l1,PySem.sizeLine_eq];omega
   ·have et:Str.ofString "some"++Str.ofString " "++n++Str.ofString " "++txt (ak g)=txt (ak (.some n g)):=by
     refine bD ?_
     show az _=az _
     rw[aZ,aZ,aZ,aZ,aK,aK,bl,show az (Str.ofString "some")=[115,111,109,101] by decide+kernel]
     simp[ak]
    exact Eq.mp (congrArg (fun z=>Q (V.str z) _) et.symm) (k _ s1)
  | each n g=>
   obtain⟨q,xs,rfl,hq,hd⟩:=dJ hx
   have lg:=hin g (by simp[ao.inner])
   have nl:=(bR ok.1).2.1
   refine⟨_,rfl,q,xs,_,_,rfl,rfl,hq,aj (j:=0) (bg hd (i:=0) rfl),_,rfl,rfl,_,rfl,aG ⟨_,rfl,by show 2≤sizeLine;decide,fun t1 ht1=>⟨t1,_,rfl,.inr (.of ag),rfl,rfl,_,rfl,aG ⟨_,rfl,by show 2≤sizeLine;decide,fun t2 pX=>⟨t2,_,rfl,.inr (.of ag),rfl,rfl,_,rfl,bf ?_⟩⟩⟩⟩⟩
   have s1:=(Same.new (o:=.tup [.str (Str.ofString "and"),.str (Str.ofString "or")]) ht1).trans (Same.new (o:=.tup [.str (Str.ofString "some"),.str (Str.ofString "each")]) pX)
   have si:=s1 _ _ hI
   refine⟨_,rfl,_,_,rfl,rfl,?_,_,rfl,q,xs,_,_,rfl,rfl,s1.dr hq,aj (j:=1) (bg hd (i:=1) rfl),_,_,rfl,rfl,?_,_,_,rfl,rfl,?_,_,rfl,I,_,_,_,rfl,rfl,.of si,aj (j:=0) (v:=.str (txt (ak g))) rfl,_,_,rfl,rfl,?_,?_⟩
   ·rw[bq,l1,PySem.sizeLine_eq];omega
   ·rw[strLen_append,bq,l1,PySem.sizeLine_eq];omega
   ·rw[strLen_append,strLen_append,bq,l1,PySem.sizeLine_eq];omega
   ·rw[strLen_append,strLen_append,strLen_append,bq,l1,PySem.sizeLine_eq];omega
   ·have et:Str.ofString "each"++Str.ofString " "++n++Str.ofString " "++txt (ak g)=txt (ak (.each n g)):=by
     refine bD ?_
     show az _=az _
     rw[aZ,aZ,aZ,aZ,aK,aK,bl,show az (Str.ofString "each")=[101,97,99,104] by decide+kernel]
     simp[ak]
    exact Eq.mp (congrArg (fun z=>Q (V.str z) _) et.symm) (k _ s1)
  | same t u=>
   obtain⟨q,xs,rfl,hq,hd⟩:=dJ hx
   refine⟨_,rfl,q,xs,_,_,rfl,rfl,hq,aj (j:=0) (bg hd (i:=0) rfl),_,rfl,rfl,_,rfl,aG ⟨_,rfl,by show 2≤sizeLine;decide,fun t1 ht1=>⟨t1,_,rfl,.inr (.of ag),rfl,rfl,_,rfl,aG ⟨_,rfl,by show 2≤sizeLine;decide,fun t2 pX=>⟨t2,_,rfl,.inr (.of ag),rfl,rfl,_,rfl,aG ?_⟩⟩⟩⟩⟩
   have s1:=(Same.new (o:=.tup [.str (Str.ofString "and"),.str (Str.ofString "or")]) ht1).trans (Same.new (o:=.tup [.str (Str.ofString "some"),.str (Str.ofString "each")]) pX)
   exact⟨_,rfl,.ref q,_,rfl,aA s1.kts _ _ (ao.bb _) hx,rfl,ok,few,fun H2 s2=>k H2 (s1.trans s2)⟩
  | less t u=>
   obtain⟨q,xs,rfl,hq,hd⟩:=dJ hx
   refine⟨_,rfl,q,xs,_,_,rfl,rfl,hq,aj (j:=0) (bg hd (i:=0) rfl),_,rfl,rfl,_,rfl,aG ⟨_,rfl,by show 2≤sizeLine;decide,fun t1 ht1=>⟨t1,_,rfl,.inr (.of ag),rfl,rfl,_,rfl,aG ⟨_,rfl,by show 2≤sizeLine;decide,fun t2 pX=>⟨t2,_,rfl,.inr (.of ag),rfl,rfl,_,rfl,aG ?_⟩⟩⟩⟩⟩
   have s1:=(Same.new (o:=.tup [.str (Str.ofString "and"),.str (Str.ofString "or")]) ht1).trans (Same.new (o:=.tup [.str (Str.ofString "some"),.str (Str.ofString "each")]) pX)
   exact⟨_,rfl,.ref q,_,rfl,aA s1.kts _ _ (ao.bb _) hx,rfl,ok,few,fun H2 s2=>k H2 (s1.trans s2)⟩
  | sign n t g=>
   obtain⟨q,xs,rfl,hq,hd⟩:=dJ hx
   refine⟨_,rfl,q,xs,_,_,rfl,rfl,hq,aj (j:=0) (bg hd (i:=0) rfl),_,rfl,rfl,_,rfl,aG ⟨_,rfl,by show 2≤sizeLine;decide,fun t1 ht1=>⟨t1,_,rfl,.inr (.of ag),rfl,rfl,_,rfl,aG ⟨_,rfl,by show 2≤sizeLine;decide,fun t2 pX=>⟨t2,_,rfl,.inr (.of ag),rfl,rfl,_,rfl,aG ?_⟩⟩⟩⟩⟩
   have s1:=(Same.new (o:=.tup [.str (Str.ofString "and"),.str (Str.ofString "or")]) ht1).trans (Same.new (o:=.tup [.str (Str.ofString "some"),.str (Str.ofString "each")]) pX)
   exact⟨_,rfl,.ref q,_,rfl,aA s1.kts _ _ (ao.bb _) hx,rfl,ok,few,fun H2 s2=>k H2 (s1.trans s2)⟩
  | alike n t n2 u=>
   obtain⟨q,xs,rfl,hq,hd⟩:=dJ hx
   refine⟨_,rfl,q,xs,_,_,rfl,rfl,hq,aj (j:=0) (bg hd (i:=0) rfl),_,rfl,rfl,_,rfl,aG ⟨_,rfl,by show 2≤sizeLine;decide,fun t1 ht1=>⟨t1,_,rfl,.inr (.of ag),rfl,rfl,_,rfl,aG ⟨_,rfl,by show 2≤sizeLine;decide,fun t2 pX=>⟨t2,_,rfl,.inr (.of ag),rfl,rfl,_,rfl,aG ?_⟩⟩⟩⟩⟩
   have s1:=(Same.new (o:=.tup [.str (Str.ofString "and"),.str (Str.ofString "or")]) ht1).trans (Same.new (o:=.tup [.str (Str.ofString "some"),.str (Str.ofString "each")]) pX)
   exact⟨_,rfl,.ref q,_,rfl,aA s1.kts _ _ (ao.bb _) hx,rfl,ok,few,fun H2 s2=>k H2 (s1.trans s2)⟩
theorem g_:aY ["saying","texts","place","part"] ["saying"] (au eM):=⟨rfl,rfl,rfl,by decide+kernel,rfl,by decide+kernel,by decide+kernel⟩
theorem tL {a:dn} {b:pO} (T:Txt K mg a) (U:mh K w.params mg b):aR P w K mg base cX 6 a.gb a.gV ["saying"] (pT K):=by
 have sj:aR P w K mg base cX 2 a.eY a.fP ["told","place","saying"] (w8 K):=rg T U
 have rh:aR P w K mg base cX 2 a.eG a.fq ["saying"] (zO K):=qr T U
 have yL:=xi (P:=P) (w:=w) (base:=base) T
 refine T.uV.ok g_ (fun vs H Q E h=>?_) (fun cdv A outer s H vs Q E hr h=>?_)
 ·obtain⟨x,f,rfl,_⟩:=h
  rfl
 ·obtain⟨x,f,rfl,hf,hdp,ok,few,ln,k⟩:=h
  have rj:aP 2 _:=hr.mono (by decide)
  have qt:aP 2 _:=hr.mono (by decide)
  have xk:aP 5 _:=hr
  refine⟨_,(ai (aI (i:=1) g_.nd rfl (Or.inl rfl) DK)
  (ai (iK PassesOwn.never rfl (mH (av rh qt rfl T.qM T.qN T.qO .nil aM (ae (pv 0) af))) (vw rfl (i9 (cf (i:=2) g_.nd rfl (Or.inl rfl)) (i9 (cf (i:=3) g_.nd rfl (Or.inl rfl)) sN)))
   (aw (GN (Al hr) (pv 1) (pv 2) (av yL xk rfl T.yk T.ym T.yo .nil aM (ae (pv 3) (ae (av sj rj rfl T.rW T.rX T.rY .nil aM (ae (pv 1) (ae (pv 2) (ae (pv 3) af)))) af))) rfl)))
  (aw (aL (zf (Al hr) (pv 1) (aX af) (fun _ _=>rfl)))))),?_⟩
  refine fun D hD=>?_
  have sD:=Same.new (o:=.dT []) hD
  refine⟨_,rfl,x,f,rfl,aA sD.kts _ _ f.bb hf,hdp,fun L qs es H2 hL s2 eL prs late Vz=>?_⟩
  have Jt:H2 D=some (.dT []):=s2 _ _ ag
  have Sm:L≠D:=(aU ag hL).symm
  have Sn:qs.length=es.length:=Paired.length prs
  have So:=sD.trans s2
  refine⟨L,rfl,⟨_,.of eL⟩,vC (xs:=qs.map V.ref) (fun i σ H'=>∃(kvs:List (List Key×V)) (v2 v3:Option V),σ=[some x,some (.ref D),v2,v3]∧KB D H2 H'∧H' D=some (.dT kvs)∧kvs.length≤i∧Lb kvs (es.take i))
   ⟨[],none,none,rfl,KB.refl _ _,Jt,Nat.le_refl _,fun e he=>by simp at he⟩ (fun i σ H' _ ⟨_,_,_,_,h,_⟩=>.of (h _ _ eL Sm)) ?_ ?_⟩
  ·rintro i y0 σ H3 hy ⟨kvs,v2,v3,rfl,k3,FN,Sq,kn⟩
   obtain⟨q,rfl,hq⟩:=zP hy
   obtain⟨⟨ns,g⟩,he,pq⟩:=zK prs hq
   have Sr:eB H2 H3:=eB.dT Jt k3
   have Ss:eJ K H2 H3:=KB.Nn Jt k3
   obtain⟨pl,y,eq,zQ,dy⟩:=pq.keep Sr Ss
   have hin:=List.mem_of_getElem? he
   have FO:f.at ns=some g:=late.here _ hin
   obtain⟨Sv,Nt,VA⟩:=FL ns f g ok few FO
   have hi:i<es.length:=(List.getElem?_eq_some_iff.mp he).1
   refine⟨q,_,rfl,.of eq,rfl,_,_,rfl,_,_,rfl,rfl,?_⟩
   have Mc:=jH g
   refine⟨_,rfl,_,rfl,_,rfl,_,rfl,D,pl,y,g,kvs,ns,(g.inner.map fun h=>txt (ak h)).map V.str,rfl,dy,FN,zQ,wZ hdp FO,by rw[List.length_map,List.length_map],fun j u hu=>?_,fun C H5 hC s5 eC=>?_⟩
   ·rw[List.getElem?_map,List.getElem?_map] at hu
    cases eh:g.inner[j]? with
    | none=>rw[eh] at hu;cases hu
    | some h=>
     rw[eh] at hu
     obtain⟨j',hj2,ee⟩:=late.kid i ns g he j h eh
     rw[kn (ns++[j],h) (List.mem_of_getElem? (i:=j') (by rw[List.getElem?_take_of_lt hj2];exact ee))]
     exact hu
   refine⟨y,g,C,rfl,aA s5.kts _ _ g.bb dy,Sv,Nt,by omega,eC,fun H6 s6=>?_⟩
   have Ju:=s5.trans s6
   have Sw:=Ju _ _ FN
   have EB:=Ju _ _ zQ
   refine⟨_,rfl,_,rfl,D,_,rfl,vP.t (k:=keyOf ns) Sw (by rw[EB,w6]) (Nat.lt_of_le_of_lt (show kvs.length≤100000 by omega) (by decide)),?_⟩
   refine⟨_,_,_,rfl,(k3.trans Ju.kb).trans KB.write,ag,Nat.le_trans (my _ _ _) (by omega),fun e hm=>?_⟩
   rw[take_snoc he] at hm
   by_cases ek:keyOf e.1=keyOf ns
   ·have en:=uH ek
    have eg:e.2=g:=by
     have h1:f.at e.1=some e.2:=by
      rcases List.mem_append.mp hm with z | z
      ·exact late.here e (List.mem_of_mem_take z)
      ·rw[List.mem_singleton.mp z];exact FO
     rw[en,FO] at h1
     exact(Option.some.inj h1).symm
    rw[vN,if_pos ek,eg]
   ·rcases List.mem_append.mp hm with z | z
    ·rw[vN,if_neg ek];exact kn e z
    ·exact absurd (by rw[List.mem_singleton.mp z]) ek
  ·rintro σ H3 ⟨kvs,v2,v3,rfl,k3,FN,Sq,kn⟩
   rw[List.length_map,Sn,List.take_length] at kn
   have a1:=kn _ late.root
   refine⟨_,rfl,by decide,fun e he=>?_⟩
   have se:=Same.new (o:=.tup []) he
   exact⟨D,.str (txt (ak f)),rfl,.inr ⟨kvs,[],e,.inl (se _ _ FN),rfl,ag,a1.symm⟩,k _ ((So.kbn hD k3).trans se)⟩
theorem u4:aY ["some","signs"] ["some","signs"] (au eE):=⟨rfl,rfl,rfl,by decide+kernel,rfl,by decide+kernel,by decide+kernel⟩
theorem oK {a:dn} (T:Txt K mg a):aR P w K mg base cX 1 a.iP a.j_ ["some","signs"] IQ:=by
 refine T.wm.ok u4 (fun vs H Q E h=>?_) (fun cdv A outer s H vs Q E hr h=>?_)
 ·obtain⟨x,y,rfl,_⟩:=h
  rfl
 ·obtain⟨x,y,rfl,ha,k⟩:=h
  refine⟨_,(aw (aL (bz (Ca K rfl) (by rfl) T.K7 HY (ae (mP (bF.mk' (esc:=au eE) (N:=["some","signs"]) (own:=["sign"]) (bO:=["signs"]) (cy:=[1]) rfl rfl (by decide+kernel)) rfl (Iv (pv 0)) (fun _ _ _ _=>(cf (i:=0) (show List.Nodup (["sign","signs"]:List Str) by decide+kernel) rfl (Or.inl rfl))) (fun _ _ _ _=>gH) (fun _ _ _ _=>(gg tV (pv 0) (pv 1) (by with_unfolding_all rfl)))) af)))),?_⟩
  refine⟨_,rfl,x,rfl,ha.all,fun C hC=>?_⟩
  refine D7 (fun i σ H'=>∃v:Option V,σ=[v,some (.str y)]∧Same H H'∧H' C=some (.lst (((x.cps.toList.take i).map fun c=>decide (c∈y.cps.toList)).map V.bl)))
   ⟨none,rfl,Same.new hC,ag⟩ ?_ ?_
  ·rintro i c σ H1 hc ⟨v,rfl,s1,eC⟩
   have hc':x.cps.toList[i]? =some c:=by rw[Array.getElem?_toList];exact hc
   have hi:=(List.getElem?_eq_some_iff.mp hc').1
   rw[dB] at hi
   refine⟨_,rfl,_,rfl,⟨#[c]⟩,y,rfl,rfl,_,eC,?_,_,rfl,s1.kbn hC KB.write,?_⟩
   ·rw[List.length_map,List.length_map,List.length_take];have:=ha.2;exact Nat.lt_of_lt_of_le (show min i _<100001 by omega) (by decide)
   ·rw[ag,List.take_add_one,hc',tj,List.map_append,List.map_append];rfl
  ·rintro σ H1 ⟨v,rfl,s1,eC⟩
   refine⟨C,_,rfl,.of eC,?_⟩
   rw[List.take_of_length_le (by rw[dB];exact Nat.le_refl _),show((x.cps.toList.map fun c=>decide (c∈y.cps.toList)).all id)=iZ x y by unfold iZ;simp[List.all_map,Function.comp_def]]
   exact k _ s1
theorem xl:aY ["some","signs"] ["some","signs"] (au gm):=⟨rfl,rfl,rfl,by decide+kernel,rfl,by decide+kernel,by decide+kernel⟩
theorem lE {a:dn} {x:gB} (T:Txt K mg a) (TE:TX K mg x):aR P w K mg base (bS P w) 3 a.fk a.fC ["some","signs"] (r6 x.c4):=by
 have lF:=oK (P:=P) (w:=w) (base:=base) T
 obtain⟨VB,Sx⟩:=T.tm
 refine T.yp.lM xl (fun vs H Q E h=>?_) (fun cdv A outer s H vs Q E hr h=>?_)
 ·obtain⟨z,y,rfl,_⟩:=h
  rfl
 ·obtain⟨z,y,rfl,ha,kq,ke⟩:=h
  have j1:aP 1 _:=hr.mono (by decide)
  have n4:aP 2 _:=hr
  refine⟨_,(ai (bw (PW.pt (gC (ku (Dx E8 E8 ah (bz (bJ K) (by rfl) T.dm cz (ae (pv 0) af)) (fz (v:=.int 3) (by rfl) Sx ⟨_,rfl⟩))) (gC (ku (cI (av lF j1 rfl T.pA T.pB T.pC .nil aM (ae (pv 0) (ae (pv 1) af))) (fun _=>rfl))) (gE (aJ (mQ K) (pv 0) (aX (ae ay (ae ay (ae ay af)))) (by with_unfolding_all rfl))))))
   (aw (rM hr.hd TE.x4 jP (o5 TE.x4 TE.M4 (r_ TE) n4 (by rfl) TE.m4 TE.b4)))
   aS)
  (aw (aL (pv 0)))),?_⟩
  have zl:z.length≤sizeLine:=Nat.le_trans ha.2 (by decide)
  have bad:nameB y z=false→∀H',Same H H'→Rz x.c4 H' E:=fun e H' s=>(ke e).same s
  refine⟨_,rfl,_,z.length,rfl,⟨zl,rfl⟩,_,_,rfl,rfl,_,rfl,?_⟩
  by_cases h1:1≤z.length
  ·rw[show decide ((1:Int)≤((z.length:Nat):Int))=true from decide_eq_true (by omega)]
   refine bf ⟨_,_,rfl,rfl,_,rfl,?_⟩
   by_cases h3:z.length≤3
   ·rw[show decide (((z.length:Nat):Int)≤3)=true from decide_eq_true (by omega)]
    refine aG ⟨_,rfl,_,rfl,z,y,rfl,ha,fun H1 s1=>⟨_,rfl,?_⟩⟩
    cases hm:iZ z y with
    | true=>
     refine aG ⟨_,rfl,by show 3≤sizeLine;decide,fun W hW=>⟨W,_,rfl,.inr (.of ag),rfl,rfl,_,rfl,?_⟩⟩
     have sW:=s1.trans (Same.new (o:=.tup [.str "not",.str "and",.str "or"]) hW)
     rw[show inV (V.str z) [V.str "not",V.str "and",V.str "or"]=decide (z∈(["not","and","or"]:List Str)) from kY z ["not","and","or"]]
     by_cases hn:z∈(["not","and","or"]:List Str)
     ·rw[decide_eq_true hn]
      exact bf (fQ TE (bad (by unfold nameB;rw[decide_eq_true hn];simp) _ sW))
     ·rw[decide_eq_false hn]
      exact aG ⟨_,rfl,kq (by unfold nameB;rw[decide_eq_false hn,hm,decide_eq_true h1,decide_eq_true h3];rfl) _ sW⟩
    | false=>exact bf (bf (fQ TE (bad (by unfold nameB;rw[hm];simp) _ s1)))
   ·rw[show decide (((z.length:Nat):Int)≤3)=false from decide_eq_false (by omega)]
    exact bf (bf (fQ TE (bad (by unfold nameB;rw[decide_eq_false h3];simp) _ (Same.refl _))))
  ·rw[show decide ((1:Int)≤((z.length:Nat):Int))=false from decide_eq_false (by omega)]
   exact aG ⟨_,rfl,bf (bf (fQ TE (bad (by unfold nameB;rw[decide_eq_false h1];simp) _ (Same.refl _))))⟩
theorem tM:aY ["some"] ["some"] (au eO):=⟨rfl,rfl,rfl,by decide+kernel,rfl,by decide+kernel,by decide+kernel⟩
theorem tN {a:dn} {x:gB} (T:Txt K mg a) (TE:TX K mg x):aR P w K mg base (bS P w) 3 a.gc a.gW ["some"] (wI x.c4):=by
 obtain⟨Sy,Jv⟩:=T.uv
 refine T.uW.lM tM (fun vs H Q E h=>?_) (fun cdv A outer s H vs Q E hr h=>?_)
 ·obtain⟨z,rfl,_⟩:=h
  rfl
 ·obtain⟨z,rfl,hz,kq,ke⟩:=h
  have n4:aP 2 _:=hr
  refine⟨_,(ai (bw (PW.pt (gC (aJ nj (bz (bJ K) (by rfl) T.dm cz (ae (pv 0) af)) ah (aN _)) (gE (aJ vF (pv 0) (fz (v:=.str "0123456789") (by rfl) Jv ⟨_,rfl⟩) (by with_unfolding_all rfl)))))
   (aw (rM hr.hd TE.x4 jP (o5 TE.x4 TE.M4 (r_ TE) n4 (by rfl) TE.m4 TE.b4)))
   aS)
  (aw (aL (cL o8 (by rfl) T.nU kC (ae (pv 0) af))))),?_⟩
  have zl:z.length≤sizeLine:=Nat.le_trans hz (by decide)
  refine⟨_,rfl,_,z.length,rfl,⟨zl,rfl⟩,rfl,_,rfl,?_⟩
  by_cases h1:z.length=1
  ·rw[dI (show((z.length:Nat):Int)=1 by omega)]
   obtain⟨c,rfl⟩:=one_sign h1
   refine aG ⟨_,rfl,⟨#[c]⟩,_,rfl,rfl,_,rfl,?_⟩
   rw[tj]
   cases hc:cJ c with
   | true=>
    rw[decide_eq_true ((qh c).mpr hc)]
    refine aG ⟨_,rfl,⟨#[c]⟩,_,rfl,zF hc,by show 1≤640;decide,kq _ (by rw[qg (c:=c) rfl,if_pos hc]) _ (Same.refl _)⟩
   | false=>
    rw[decide_eq_false (fun q=>by rw[(qh c).mp q] at hc;cases hc)]
    exact bf (fQ TE (ke (by rw[qg (c:=c) rfl,if_neg (by rw[hc];decide)])))
  ·rw[B7 (show ¬((z.length:Nat):Int)=1 by omega)]
   exact bf (bf (fQ TE (ke (zE h1))))
def Pl (z:Str) (k:Nat) (v:List Nat):Prop:=k≤z.length∧(az z).drop k=v
theorem Pl.due {z:Str} {k:Nat} {v p r:List Nat} (h:Pl z k v) (e:cK p v=some r):Pl z (k+p.length) r:=by
 have ev:=fU e
 obtain⟨h1,h2⟩:=h
 have hl:v.length=z.length-k:=by rw[←h2,List.length_drop,←bE]
 refine⟨?_,?_⟩
 ·rw[ev,List.length_append] at hl;omega
 ·rw[←List.drop_drop,h2,ev,List.drop_left]
theorem Pl.run {z:Str} {k:Nat} {v:List Nat} (h:Pl z k v) (p:Nat→Bool):Pl z (k+(v.takeWhile p).length) (v.dropWhile p):=by
 obtain⟨h1,h2⟩:=h
 have hl:v.length=z.length-k:=by rw[←h2,List.length_drop,←bE]
 have e:v.takeWhile p++v.dropWhile p=v:=List.takeWhile_append_dropWhile
 have el:=congrArg List.length e
 rw[List.length_append] at el
 refine⟨by omega,?_⟩
 rw[←List.drop_drop,h2]
 have hd:(v.takeWhile p++v.dropWhile p).drop (v.takeWhile p).length=v.dropWhile p:=List.drop_left' rfl
 rw[e] at hd
 exact hd
theorem Pl.cut {z:Str} {k e:Nat} {v u w:List Nat} (h:Pl z k v) (ev:v=u++w) (he:e=k+u.length):Txt.slice z (some (k:Int)) (some (e:Int))=txt u:=by
 obtain⟨h1,h2⟩:=h
 have hl:v.length=z.length-k:=by rw[←h2,List.length_drop,←bE]
 rw[ev,List.length_append] at hl
 refine bD ?_
 rw[jt]
 show _=az (txt u)
 rw[aK]
 unfold qK
 rw[HT.i',HT.i']
 have lz:z.cps.toList.length=z.length:=dB z
 rw[lz,Nat.min_eq_left h1,Nat.min_eq_left (by omega)]
 show((az z).drop k).take (e-k)=u
 rw[h2,ev,he,show k+u.length-k=u.length by omega,List.take_left' rfl]
theorem Pl.EE {z:Str} {k:Nat} {v:List Nat} (h:Pl z k v) (p:Nat→Bool):Txt.slice z (some (k:Int)) (some ((k+(v.takeWhile p).length:Nat):Int))=txt (v.takeWhile p):=
 h.cut List.takeWhile_append_dropWhile.symm rfl
theorem Pl.asc {z:Str} {k:Nat} {v u:List Nat} (h:Pl z k v) (ha:jT z) (hu:∀c∈u,c∈v) (hl:u.length≤v.length):jT (txt u):=by
 obtain⟨h1,h2⟩:=h
 have h3:v.length=z.length-k:=by rw[←h2,List.length_drop,←bE]
 refine⟨fun c hc=>ha.1 c ?_,?_⟩
 ·have hc:c∈az (txt u):=hc
  rw[aK] at hc
  have:=hu c hc
  rw[←h2] at this
  exact List.mem_of_mem_drop this
 ·have:=ha.2;rw[aH];omega
theorem Pl.EF {z:Str} {k:Nat} {v:List Nat} (h:Pl z k v) (ha:jT z) (p:Nat→Bool):jT (txt (v.takeWhile p)):=
 h.asc ha (fun c hc=>(List.takeWhile_sublist p).subset hc) (List.takeWhile_sublist p).length_le
def qo (c4:Addr):Sp:=fun vs H Q E=>∃(z p:Str) (k:Nat) (v:List Nat),vs=[.str z,.int k,.str p]∧p.length≠0∧p.length≤1000∧Pl z k v∧
 (∀r,cK (az p) v=some r→∀(e:Nat) H',Same H H'→Pl z e r→Q (.int e) H')∧(cK (az p) v=none→Rz c4 H E)
def EG:Sp:=fun vs H Q _=>∃(z y:Str) (k:Nat) (v:List Nat) (p:Nat→Bool),vs=[.str z,.int k,.str y]∧z.length≤100000∧Pl z k v∧(∀c,decide (c∈y.cps.toList)=p c)∧
 ∀H',Same H H'→Q (.int ((k+(v.takeWhile p).length:Nat):Int)) H'
def EH:Sp:=fun vs H Q _=>∃z:Str,vs=[.str z]∧jT z∧∀H',Same H H'→Q (.bl (fR (az z)).isSome) H'
def C8 (K:PySem.W.Frag) (c4:Addr):Sp:=fun vs H Q E=>∃z:Str,vs=[.str z]∧jT z∧(∀p,fS z=some p→∀q H',Same H H'→H' q=some (.tup [.str p.1,.int p.2])→Q (.ref q) H')∧(fS z=none→Rz c4 H E)
theorem EI (c:Nat):decide (c∈bU.cps.toList)=bT c:=by
 cases h:bT c with
 | true=>exact decide_eq_true ((pM c).mpr h)
 | false=>exact decide_eq_false fun q=>by rw[(pM c).mp q] at h;cases h
theorem xm (c:Nat):decide (c∈bX.cps.toList)=bQ c:=by
 cases h:bQ c with
 | true=>
  have:=j8.mp h
  refine decide_eq_true ?_
  rw[qA]
  exact List.mem_map.mpr ⟨c-65,List.mem_range.mpr (by omega),by omega⟩
 | false=>exact decide_eq_false fun q=>by rw[j8.mpr (uz q)] at h;cases h
def FP:Str:="abcdefghijklmnopqrstuvwxyz0123456789+"
theorem Lc (c:Nat):decide (c∈FP.cps.toList)=fb c:=by
 have e:FP.cps.toList=[97,98,99,100,101,102,103,104,105,106,107,108,109,110,111,112,113,114,115,116,117,118,119,120,121,122,48,49,50,51,52,53,54,55,56,57,43]:=by decide+kernel
 have key:(c∈FP.cps.toList)↔fb c=true:=by
  rw[e,kj]
  simp only[List.mem_cons,List.not_mem_nil,or_false]
  omega
 cases h:fb c with
 | true=>exact decide_eq_true (key.mpr h)
 | false=>exact decide_eq_false fun q=>by rw[key.mp q] at h;cases h
theorem EJ {z:Str}:iZ z "0123456789"=(az z).all cJ:=by
 unfold iZ
 show(az z).all _=_
 congr 1
 funext c
 cases h:cJ c with
 | true=>exact decide_eq_true ((qh c).mpr h)
 | false=>exact decide_eq_false fun q=>by rw[(qh c).mp q] at h;cases h
theorem G7 {z:Str} {n:Nat} (h:fR (az z)=some n):PySem.intText? z=some ((n:Nat):Int)∧z.length≤2:=by
 obtain⟨h1,h2⟩:=j9 h
 have key:∀k:Fin 100,PySem.intText? (txt (dU k.val))=some ((k.val:Nat):Int):=by decide+kernel
 have:=key ⟨n,h1⟩
 have e:txt (dU n)=z:=by rw[←h2,gY]
 dsimp only at this
 rw[e] at this
 exact⟨this,by rw[bE,h2];exact kZ.1⟩
theorem Jw:aY ["text","at","piece"] ["text","at","piece"] (au qe):=⟨rfl,rfl,rfl,by decide+kernel,rfl,by decide+kernel,by decide+kernel⟩
theorem pY {a:dn} {x:gB} (T:Txt K mg a) (TE:TX K mg x):aR P w K mg base (bS P w) 3 a.j6 a.jQ ["text","at","piece"] (qo x.c4):=by
 refine T.K5.lM Jw (fun vs H Q E h=>?_) (fun cdv A outer s H vs Q E hr h=>?_)
 ·obtain⟨z,p,k,v,rfl,_⟩:=h
  rfl
 ·obtain⟨z,p,k,v,rfl,hp,hp1,pl,kq,ke⟩:=h
  have n4:aP 2 _:=hr
  refine⟨_,(ai (bw (ku (cI (cU PySem.F.plainAttrs_str PySem.F.slot_str_startswith PySem.F.type_str_startswith fK (pv 0) (ae (pv 2) (ae (pv 1) af))) (fun _=>rfl)))
   (aw (rM hr.hd TE.x4 jP (o5 TE.x4 TE.M4 (r_ TE) n4 (by rfl) TE.m4 TE.b4)))
   aS)
  (aw (aL (aD cN (pv 1) (bz (bJ K) (by rfl) T.dm cz (ae (pv 2) af)))))),?_⟩
  refine⟨_,rfl,rfl,_,rfl,_,rfl,z,p,_,rfl,rfl,_,rfl,?_⟩
  rw[um hp,show z.cps.toList.drop k=v from pl.2]
  cases e:(p.cps.toList).isPrefixOf v with
  | true=>
   have ed:cK (az p) v=some (v.drop (az p).length):=if_pos e
   refine aG ⟨_,rfl,_,rfl,_,p.length,rfl,⟨Nat.le_trans hp1 (by decide),rfl⟩,_,_,rfl,rfl,?_⟩
   have hk:=kq _ ed (k+p.length) H (Same.refl _) (by rw[bE];exact pl.due ed)
   rw[Int.natCast_add] at hk
   exact hk
  | false=>
   have ed:cK (az p) v=none:=if_neg (by show ¬((p.cps.toList).isPrefixOf v=true);rw[e];decide)
   exact bf (fQ TE (ke ed))
theorem sk:aY ["text","at","signs"] ["text","at","signs"] (au ix):=⟨rfl,rfl,rfl,by decide+kernel,rfl,by decide+kernel,by decide+kernel⟩
theorem kc {a:dn} (T:Txt K mg a):aR P w K mg base cX 1 a.lO a.nL ["text","at","signs"] EG:=by
 refine T.Cy.ok sk (fun vs H Q E h=>?_) (fun cdv A outer s H vs Q E hr h=>?_)
 ·obtain⟨z,y,k,v,p,rfl,_⟩:=h
  rfl
 ·obtain⟨z,y,k,v,p,rfl,hz,pl,hp,kq⟩:=h
  refine⟨_,(ai (kx PassesOwn.never (PW.pt (kr (aJ p9 (pv 1) (bz (bJ K) (by rfl) T.dm cz (ae (pv 0) af)) (aN _)) (mG (aJ tV (aB oW (pv 0) (pv 1) (fun _ _=>rfl)) (pv 2) (by with_unfolding_all rfl)))))
   (aw (aI (i:=1) sk.nd rfl (Or.inl rfl) (aD cN (pv 1) ah))))
  (aw (aL (pv 1)))),?_⟩
  have zl:z.length≤sizeLine:=Nat.le_trans hz (by decide)
  refine qd (fun m σ H'=>∃(j:Nat) (u:List Nat),σ=[some (.str z),some (.int (j:Nat)),some (.str y)]∧Same H H'∧Pl z j u∧m=u.length∧j+(u.takeWhile p).length=k+(v.takeWhile p).length)
   ⟨v.length,k,v,rfl,Same.refl _,pl,rfl,rfl⟩ ?_ ?_
  ·rintro m σ H1 N hN ⟨j,u,rfl,s1,pu,rfl,ej⟩
   refine⟨_,rfl,_,rfl,_,z.length,rfl,⟨zl,rfl⟩,_,_,rfl,rfl,_,rfl,?_⟩
   have Mi:u.length=z.length-j:=by rw[←pu.2,List.length_drop,←bE]
   cases u with
   | nil=>
    have:¬((j:Int)<(z.length:Int)):=by simp at Mi;omega
    rw[decide_eq_false this]
    refine aG (aG ⟨_,rfl,?_⟩)
    have hk:=kq _ s1
    rw[←ej] at hk
    exact hk
   | cons c r=>
    have hj:j<z.length:=by simp at Mi;omega
    rw[decide_eq_true (show(j:Int)<(z.length:Int) by omega)]
    have ec:(az z)[j]? =some c:=by
     have:((az z).drop j)[0]? =some c:=by rw[pu.2];rfl
     rw[List.getElem?_drop] at this
     exact this
    refine bf ⟨_,rfl,_,rfl,z,_,c,rfl,rfl,zl,aj (j:=j) ec,_,rfl,⟨#[c]⟩,y,rfl,rfl,_,rfl,?_⟩
    rw[tj,hp c]
    cases hc:p c with
    | true=>
     refine bf ⟨_,rfl,_,_,rfl,rfl,hN _ _ r.length (Nat.lt_succ_self _) ⟨j+1,r,rfl,s1,⟨by omega,?_⟩,rfl,?_⟩⟩
     ·rw[←List.drop_drop,pu.2];rfl
     ·rw[List.takeWhile_cons,hc,if_pos rfl,List.length_cons] at ej;omega
    | false=>
     refine aG ⟨_,rfl,?_⟩
     have hk:=kq _ s1
     rw[←ej,List.takeWhile_cons,hc] at hk
     exact hk
  ·rintro σ H1 Q1 Q2 hm ⟨a1,e1,a2,e2,a3,n,e3,h3,i,j,e4,e5,b,e6,q⟩
   refine⟨a1,e1,a2,e2,a3,n,e3,h3,i,j,e4,e5,b,e6,?_⟩
   by_cases hb:b=true
   ·rw[if_pos hb] at q ⊢
    obtain⟨b1,f1,b2,f2,b3,b4,b5,f3,f4,f5,f6,b7,f7,b8,b9,f8,f9,b10,zS,q⟩:=q
    exact⟨b1,f1,b2,f2,b3,b4,b5,f3,f4,f5,f6,b7,f7,b8,b9,f8,f9,b10,zS,hm _ _ q⟩
   ·rw[if_neg hb] at q ⊢
    exact hm _ _ q
theorem xn:aY ["some"] ["some"] (au gp):=⟨rfl,rfl,rfl,by decide+kernel,rfl,by decide+kernel,by decide+kernel⟩
theorem xp {a:dn} (T:Txt K mg a):aR P w K mg base cX 2 a.jy a.kN ["some"] EH:=by
 have lF:=oK (P:=P) (w:=w) (base:=base) T
 obtain⟨Sy,Jv⟩:=T.uv
 refine T.yq.ok xn (fun vs H Q E h=>?_) (fun cdv A outer s H vs Q E hr h=>?_)
 ·obtain⟨z,rfl,_⟩:=h
  rfl
 ·obtain⟨z,rfl,ha,kq⟩:=h
  have j1:aP 1 _:=hr
  refine⟨_,(ai (bw (ku (cI (av lF j1 rfl T.pA T.pB T.pC .nil aM (ae (pv 0) (ae (fz (v:=.str "0123456789") (by rfl) Jv ⟨_,rfl⟩) af))) (fun _=>rfl)))
   (aw (aL m9))
   aS)
  (aw (aL (KC (gg cb (bz (bJ K) (by rfl) T.dm cz (ae (pv 0) af)) ah (aN _)) (vq (vt (gg cb (bz (bJ K) (by rfl) T.dm cz (ae (pv 0) af)) ah (aN _)) (vq (gg nj (aB oW (pv 0) ah (fun _ _=>rfl)) ay (aN _))))))))),?_⟩
  have zl:z.length≤sizeLine:=Nat.le_trans ha.2 (by decide)
  refine⟨_,rfl,z,_,rfl,ha,fun H1 s1=>⟨_,rfl,?_⟩⟩
  have kq:=kq H1 s1
  rw[EJ]
  cases hm:(az z).all cJ with
  | false=>
   refine bf ?_
   have:(fR (az z)).isSome=false:=by
    cases e:fR (az z) with
    | none=>rfl
    | some n=>
     obtain⟨h1,h2⟩:=j9 e
     rw[h2,List.all_eq_true.mpr (qT h1)] at hm
     cases hm
   rw[this] at kq
   exact kq
  | true=>
   refine aG ⟨_,rfl,_,z.length,rfl,⟨zl,rfl⟩,rfl,_,rfl,?_⟩
   by_cases h1:z.length=1
   ·rw[dI (show((z.length:Nat):Int)=1 by omega)]
    refine bf ?_
    obtain⟨c,rfl⟩:=one_sign h1
    have hc:cJ c=true:=List.all_eq_true.mp hm c (by simp[az])
    rw[show fR (az ⟨#[c]⟩)=some (c-48) from if_pos hc] at kq
    exact kq
   rw[B7 (show ¬((z.length:Nat):Int)=1 by omega)]
   refine aG ⟨_,rfl,_,z.length,rfl,⟨zl,rfl⟩,rfl,_,rfl,?_⟩
   by_cases h2:z.length=2
   ·rw[dI (show((z.length:Nat):Int)=2 by omega)]
    obtain⟨c,d,e⟩:∃c d,az z=[c,d]:=by
     have:(az z).length=2:=by rw[←bE];exact h2
     match e:az z,this with
     | [c,d],_=>exact⟨c,d,rfl⟩
    rw[e] at hm kq
    have hc:cJ c=true:=List.all_eq_true.mp hm c (by simp)
    have hd:cJ d=true:=List.all_eq_true.mp hm d (by simp)
    refine bf ⟨_,rfl,z,0,c,rfl,rfl,zl,?_,rfl,?_⟩
    ·exact aj (j:=0) (show(az z)[0]? =some c by rw[e];rfl)
    have e0:Str.ofString "0"=⟨#[48]⟩:=by decide+kernel
    have key:(fR [c,d]).isSome= !decide (V.str ⟨#[c]⟩=V.str (Str.ofString "0")):=by
     unfold fR
     dsimp only
     by_cases h0:c=48
     ·rw[if_neg (fun q=>q.2.2 h0),e0,h0];rfl
     ·rw[if_pos ⟨hc,hd,h0⟩,decide_eq_false (fun q=>h0 (by
       rw[e0] at q
       have:=congrArg (fun x:Str=>x.cps.toList) (V.str.inj q)
       simpa using this))];rfl
    rw[key] at kq
    exact kq
   ·rw[B7 (show ¬((z.length:Nat):Int)=2 by omega)]
    refine aG ?_
    have:fR (az z)=none:=by
     unfold fR
     split
     ·rename_i c e;exact absurd (by rw[bE,e];rfl) h1
     ·rename_i c d e;exact absurd (by rw[bE,e];rfl) h2
     ·rfl
    rw[this] at kq
    exact kq
theorem xq:aY ["some"] ["some"] (au gq):=⟨rfl,rfl,rfl,by decide+kernel,rfl,by decide+kernel,by decide+kernel⟩
theorem xr {a:dn} {x:gB} (T:Txt K mg a) (TE:TX K mg x):aR P w K mg base (bS P w) 4 a.hU a.iQ ["some"] (C8 K x.c4):=by
 have gA:aR P w K mg base (bS P w) 3 a.fk a.fC ["some","signs"] (r6 x.c4):=lE T TE
 obtain⟨Sz,C9⟩:=T.zy
 refine T.yv.lM xq (fun vs H Q E h=>?_) (fun cdv A outer s H vs Q E hr h=>?_)
 ·obtain⟨z,rfl,_⟩:=h
  rfl
 ·obtain⟨z,rfl,ha,kq,ke⟩:=h
  have fE:aP 3 _:=hr
  refine⟨_,(ai (bw (aJ (mQ K) (fN jN (pv 0) qa (dG ah)) (aX (ae ay (ae ay (ae ay (ae ay (ae ay (ae ay (ae ay (ae ay af))))))))) (by with_unfolding_all rfl))
   (aw (aL (aX (ae (av gA fE rfl T.jC T.jD T.jE .nil bj (ae (fN jN (pv 0) (dG ah) qa) (ae (fz (v:=.str "abcdefghijklmnopqrstuvwxyz") (by rfl) C9 ⟨_,rfl⟩) af))) (ae (cL o8 (by rfl) T.nU kC (ae (aB oW (pv 0) ah (fun _ _=>rfl)) af)) af)))))
   aS)
  (aw (aL (aX (ae (av gA fE rfl T.jC T.jD T.jE .nil bj (ae (pv 0) (ae (fz (v:=.str "abcdefghijklmnopqrstuvwxyz") (by rfl) C9 ⟨_,rfl⟩) af))) (ae ah af)))))),?_⟩
  have zl:z.length≤sizeLine:=Nat.le_trans ha.2 (by decide)
  refine⟨_,rfl,_,rfl,z,rfl,zl,by show 8≤sizeLine;decide,fun W hW=>⟨W,_,rfl,.inr (.of ag),rfl,rfl,_,rfl,?_⟩⟩
  have sW:=Same.new (o:=.tup [.str "2",.str "3",.str "4",.str "5",.str "6",.str "7",.str "8",.str "9"]) hW
  generalize hH1:upd H W _=H1 at sW ⊢
  have e1:Txt.slice z none (some 1)=txt ((az z).take 1):=by
   refine bD ?_
   rw[jt]
   show _=az (txt _)
   rw[aK]
   unfold qK
   rw[HT.vH,show(some (1:Int))=some ((1:Nat):Int) from rfl,HT.i',List.drop_zero,Nat.sub_zero]
   show(az z).take (min 1 (az z).length)=_
   rw[←List.take_take,List.take_of_length_le (Nat.le_refl (az z).length)]
  have e2:Txt.slice z (some 1) none=txt ((az z).drop 1):=by
   refine bD ?_
   rw[jt]
   show _=az (txt _)
   rw[aK]
   unfold qK
   rw[HT.vH,show(some (1:Int))=some ((1:Nat):Int) from rfl,HT.i']
   show((az z).drop (min 1 (az z).length)).take _=_
   by_cases hl:1≤(az z).length
   ·rw[Nat.min_eq_left hl,List.take_of_length_le (by rw[List.length_drop];exact Nat.le_refl _)]
   ·have:az z=[]:=List.length_eq_zero_iff.mp (by omega)
    rw[this];simp
  rw[e1,show inV (V.str (txt ((az z).take 1))) [V.str "2",V.str "3",V.str "4",V.str "5",V.str "6",V.str "7",V.str "8",V.str "9"]=decide (txt ((az z).take 1)∈(["2","3","4","5","6","7","8","9"]:List Str)) from kY _ ["2","3","4","5","6","7","8","9"]]
  have nums:(["2","3","4","5","6","7","8","9"]:List Str)=(List.range 8).map fun k=>txt [50+k]:=by decide+kernel
  have mem:∀u:List Nat,(txt u∈(["2","3","4","5","6","7","8","9"]:List Str))↔∃c,u=[c]∧50≤c∧c≤57:=fun u=>by
   rw[nums]
   constructor
   ·intro h
    obtain⟨k,hk,e⟩:=List.mem_map.mp h
    have hk:=List.mem_range.mp hk
    have:=congrArg az e
    rw[aK,aK] at this
    exact⟨50+k,this.symm,by omega,by omega⟩
   ·rintro⟨c,rfl,h1,h2⟩
    exact List.mem_map.mpr ⟨c-50,List.mem_range.mpr (by omega),by rw[show 50+(c-50)=c by omega]⟩
  by_cases hd:∃c r,az z=c::r∧50≤c∧c≤57
  ·obtain⟨c,r,ez,h1,h2⟩:=hd
   have eP:fS z=if nameB bU (txt r)=true then some (txt r,((c-48:Nat):Int)) else none:=by unfold fS;rw[ez];exact if_pos ⟨h1,h2⟩
   rw[decide_eq_true ((mem _).mpr ⟨c,by rw[ez];rfl,h1,h2⟩)]
   have ar:jT (txt r):=by
    refine⟨fun d hd=>ha.1 d ?_,?_⟩
    ·have hd:d∈az (txt r):=hd
     rw[aK] at hd
     show d∈az z
     rw[ez];exact List.mem_cons_of_mem _ hd
    ·have:=ha.2;rw[bE,ez,List.length_cons] at this;rw[aH];omega
   have hdc:cJ c=true:=eI.mpr (by omega)
   refine bf ⟨_,rfl,_,rfl,z,rfl,zl,?_⟩
   rw[e2,ez]
   refine⟨txt r,bU,rfl,ar,fun hn H2 s2=>⟨_,rfl,z,0,c,rfl,rfl,zl,aj (j:=0) (show(az z)[0]? =some c by rw[ez];rfl),⟨#[c]⟩,_,rfl,zF hdc,by show 1≤640;decide,by show 2≤sizeLine;decide,fun q hq=>?_⟩,fun hn=>(ke (by rw[eP];exact if_neg (by rw[hn];decide))).same sW⟩
   exact kq _ (by rw[eP];exact if_pos hn) q _ ((sW.trans s2).trans (Same.new hq)) ag
  ·have eP:fS z=if nameB bU z=true then some (z,1) else none:=by
    unfold fS
    split
    ·rename_i c r ez
     exact if_neg (fun q=>hd ⟨c,r,ez,q⟩)
    ·rename_i ez
     rw[show z=txt [] by rw[←ez,gY],CU];rfl
   rw[decide_eq_false (fun q=>by
    obtain⟨c,hc,h1,h2⟩:=(mem _).mp q
    cases ez:az z with
    | nil=>rw[ez] at hc;cases hc
    | cons d r=>
     rw[ez] at hc
     have:d=c:=(List.cons.inj hc).1
     exact hd ⟨c,r,by rw[ez,this],h1,h2⟩)]
   refine aG ⟨_,rfl,z,bU,rfl,ha,fun hn H2 s2=>⟨by show 2≤sizeLine;decide,fun q hq=>?_⟩,fun hn=>(ke (by rw[eP];exact if_neg (by rw[hn];decide))).same sW⟩
   exact kq _ (by rw[eP];exact if_pos hn) q _ ((sW.trans s2).trans (Same.new hq)) ag
def pZ (z:Str):Prop:=jT z∧∀k,(((az z).drop k).takeWhile fb).length≤55
def zT (K:PySem.W.Frag) (c4:Addr):Sp:=fun vs H Q E=>∃z:Str,vs=[.str z]∧jT z∧z.length≤55∧(∀t,ig z=some t→∀y H',Same H H'→aq K H' y t.dt→Q y H')∧(ig z=none→Rz c4 H E)
def rk (K:PySem.W.Frag) (c4:Addr):Sp:=fun vs H Q E=>∃(z:Str) (k:Nat) (v:List Nat),vs=[.str z,.int k]∧pZ z∧Pl z k v∧
 (∀t r,fV v=some (t,r)→∀p y (e:Nat) H',Same H H'→H' p=some (.tup [y,.int e])→aq K H' y t.dt→Pl z e r→Q (.ref p) H')∧(fV v=none→Rz c4 H E)
def zU (K:PySem.W.Frag) (c4:Addr):Sp:=fun vs H Q E=>∃(z:Str) (k:Nat) (v:List Nat),vs=[.str z,.int k]∧pZ z∧Pl z k v∧
 (∀a t r,mz v=some (a,t,r)→∀p y (e:Nat) H',Same H H'→H' p=some (.tup [.str a,y,.int e])→aq K H' y t.dt→Pl z e r→Q (.ref p) H')∧(mz v=none→Rz c4 H E)
theorem Nu (z:Str):Txt.split z (Str.ofString "+")=spl 43 z:=by unfold spl;rw[show Str.ofString "+"=⟨#[43]⟩ by decide+kernel]
def Bg (H:Hp) (q:Addr) (p:Str×Int):Prop:=H q=some (.tup [.str p.1,.int p.2])
theorem xu {K:PySem.W.Frag} {H:Hp}:∀{qs:List Addr} {ps:List (Str×Int)},Paired (Bg H) qs ps→aF K H (qs.map V.ref) (ps.map eZ)
 | _,_,.nil=>by simp[aF]
 | _,_,.cons h t=>by
  rw[List.map_cons,List.map_cons,aF]
  exact⟨bP (.of h) (ax bu (ax jd a_)),xu t⟩
theorem G8 {l:List Str} (h:l≠[]):(l.map V.str)[(l.map V.str).length-1]? =some (.str (l.getLastD (txt [])))∧j2 (l.map V.str) (-1)=some (.str (l.getLastD (txt []))):=by
 have e:l=l.dropLast++[l.getLastD (txt [])]:=nW h
 generalize l.getLastD (txt [])=y at e ⊢
 rw[e,List.map_append]
 exact⟨by simp,DC _ _⟩
theorem G9 (z:Str):(∀t∈(dq z).2,t∈spl 43 z)∧(dq z).2.length≤(spl 43 z).length:=by
 unfold dq
 split
 ·split
  ·exact⟨fun t ht=>(List.dropLast_sublist _).subset ht,by show(spl 43 z).dropLast.length≤_;rw[List.length_dropLast];omega⟩
  ·exact⟨fun t ht=>ht,Nat.le_refl _⟩
 ·exact⟨fun t ht=>ht,Nat.le_refl _⟩
theorem fF:aY ["some","pieces","number","parts","names"] ["some"] (au dW):=⟨rfl,rfl,rfl,by decide+kernel,rfl,by decide+kernel,by decide+kernel⟩
theorem xv {a:dn} {x:gB} (T:Txt K mg a) (TE:TX K mg x):aR P w K mg base (bS P w) 5 a.hV a.iR ["some"] (zT K x.c4):=by
 have yM:aR P w K mg base (bS P w) 4 a.hU a.iQ ["some"] (C8 K x.c4):=xr T TE
 have yN:=xp (P:=P) (w:=w) (base:=base) T
 refine T.yz.lM fF (fun vs H Q E h=>?_) (fun cdv A outer s H vs Q E hr h=>?_)
 ·obtain⟨z,rfl,_⟩:=h
  rfl
 ·obtain⟨z,rfl,hz,VC,kq,ke⟩:=h
  have xx:aP 4 _:=hr
  have xy:aP 2 _:=hr.mono (by decide)
  have n4:aP 2 _:=hr.mono (by decide)
  refine⟨_,(ai (aI (i:=1) fF.nd rfl (Or.inl rfl) (cU PySem.F.plainAttrs_str PySem.F.slot_str_split PySem.F.type_str_split D6 (pv 0) (ae ay af)))
  (ai (aI (i:=2) fF.nd rfl (Or.inl rfl) ah)
  (ai (bw (PW.pt (kr (cI (av yN xy rfl T.yr T.yt T.yu .nil aM (ae (aB (bH K) (pv 1) (Ab vE ah) (fun _ _=>rfl)) af)) (fun _=>rfl)) (mG (PW.pt (gC (aJ cb (pv 0) ay (aN _)) (gE (aJ nj (aB (bH K) (pv 1) (Ab vE ah) (fun _ _=>rfl)) ay (aN _))))))))
   (aw (aI (i:=2) fF.nd rfl (Or.inl rfl) (cL o8 (by rfl) T.nU kC (ae (oX PySem.F.plainAttrs_list PySem.F.slot_list_pop PySem.F.type_list_pop rC (pv 1)) af))))
   aS)
  (ai (x8 (i:=3) (bF.mk' (esc:=au dW) (N:=["some","pieces","number","parts","names"]) (own:=["piece"]) (bO:=[]) (cy:=[]) rfl rfl (by decide+kernel)) rfl ⟨rfl,rfl⟩ Cr (mH (pv 1)) (fun _ _ _ _ _=>(cf (i:=0) (show List.Nodup (["piece"]:List Str) by decide+kernel) rfl (Or.inl rfl))) (fun _ _ _ _ _=>gH) (fun _ _ _ _ _ hx=>(av yM xx rfl T.yw T.yx T.yy .nil hx (ae (pv 0) af))) fF.nd rfl rfl)
  (ai (nC (i:=4) (bF.mk' (esc:=au dW) (N:=["some","pieces","number","parts","names"]) (own:=["part"]) (bO:=[]) (cy:=[]) rfl rfl (by decide+kernel)) rfl (mH (pv 3)) (fun _ _ _ _=>(cf (i:=0) (show List.Nodup (["part"]:List Str) by decide+kernel) rfl (Or.inl rfl))) (fun _ _ _ _=>gH) (fun _ _ _ _=>(aB (aE K) (pv 0) ah (fun _ _=>rfl))) fF.nd rfl rfl)
  (ai (bw (aJ (Ic K hr.units) (pv 4) (bz (wb rfl) (by rfl) T.wx ua (ae (cL (Cm rfl) (by rfl) T.K8 HZ (ae (pv 4) af)) af)) (aN _))
   (aw (rM hr.hd TE.x4 jP (o5 TE.x4 TE.M4 (r_ TE) n4 (by rfl) TE.m4 TE.b4)))
   aS)
  (aw (aL (aX (ae (pv 2) (ae (cL (qv K) (by rfl) T.zx vV (ae (pv 3) af)) af))))))))))),?_⟩
  have zl:=hz.2
  refine⟨_,rfl,rfl,z,_,rfl,rfl,by omega,by decide,fun L hL=>?_⟩
  rw[Nu]
  have sL:=Same.new (o:=.lst ((spl 43 z).map V.str)) hL
  have eL:(upd H L (.lst ((spl 43 z).map V.str))) L=some (.lst ((spl 43 z).map V.str)):=ag
  generalize upd H L (.lst ((spl 43 z).map V.str))=H1 at sL eL ⊢
  have many:=Eu (c:=43) (z:=z)
  obtain⟨Mj,Jx⟩:=G8 (mV 43 z)
  have Jy:jT ((spl 43 z).getLastD (txt [])):=by
   refine hz.part (c:=43) ?_
   rw[List.getLastD_eq_getLast?,List.getLast?_eq_some_getLast (mV 43 z)]
   exact List.getLast_mem _
  dsimp only[iJ]
  refine K4 fun Y hY=>?_
  dsimp only[nh,tC,iJ]
  subst hY
  refine o6 (t:=sM _ _ _) (fun σ H'=>σ=[some (.str z),some (.ref L),some (.int (dq z).1),none,none]∧Same H H'∧H' L=some (.lst ((dq z).2.map V.str))) ?re (fun R hR=>?_)
  case re=>
   rintro σ H2 ⟨rfl,s2,sr⟩
   have cm:=G9 z
   have rT:ig z=match dv fS (dq z).2 with
    | some ps=>if rising (ps.map (·.1))=true then some ⟨(dq z).1,ps⟩ else none
    | none=>none:=rfl
   generalize dq z=cn at cm rT sr ⊢
   obtain⟨num,ws⟩:=cn
   dsimp only at cm rT sr ⊢
   have wl:ws.length≤56:=by have:=cm.2;omega
   refine⟨_,rfl,L,rfl,⟨_,.of sr⟩,fun C hC=>?_⟩
   refine oY (xs:=ws.map V.str) (fun i σ H'=>∃(ps:List (Str×Int)) (rp:List Addr) (v:Option V),σ=[v]∧Same H2 H'∧H' C=some (.lst (rp.map V.ref))∧dv fS (ws.take i)=some ps∧Paired (Bg H') rp ps)
    ⟨[],[],none,rfl,Same.new hC,ag,rfl,.nil⟩ (fun i σ H' _ ⟨_,_,_,_,s,_⟩=>.of (s _ _ sr)) ?_ ?_
   ·rintro i y σ H3 hy ⟨ps,rp,v,rfl,s3,eC,en,pr⟩
    obtain⟨t,rfl,et⟩:=sV hy
    have ht:t∈ws:=List.mem_of_getElem? et
    refine⟨_,rfl,t,rfl,hz.part (c:=43) (cm.1 t ht),fun p hn q H4 s4 eq=>?_,fun hn=>(ke ?_).same (s2.trans s3)⟩
    ·have nl:=qS en
     have pl:=nJ pr
     rw[List.length_take] at nl
     have Dc:=s4 _ _ eC
     refine⟨_,Dc,?_,ps++[p],rp++[q],_,rfl,(s3.trans s4).kbn hC KB.write,?_,?_,?_⟩
     ·rw[List.length_map];exact Nat.lt_of_lt_of_le (show rp.length<200000 by omega) (by decide)
     ·rw[ag,List.map_append];rfl
     ·rw[List.take_add_one,et];exact ux en hn
     ·have kt:eB H3 (upd H4 C (.lst (rp.map V.ref++[.ref q]))):=s4.kt.trans (eB.lst Dc)
      exact fZ (Paired.oQ pr fun _ _ h=>kt _ _ h) (.cons (eB.lst Dc _ _ eq) .nil)
    ·rw[rT,uy ht hn]
   rintro σ H3 ⟨ps,rp,v,rfl,s3,eC,en,pr⟩
   rw[List.length_map,List.take_length] at en
   have rT:ig z=if rising (ps.map (·.1))=true then some ⟨num,ps⟩ else none:=by rw[rT,en]
   have s3':=s2.trans s3
   have nl:=qS en
   have pl:=nJ pr
   refine⟨_,rfl,C,rfl,⟨_,.of eC⟩,fun N hN=>?_⟩
   refine oY (xs:=rp.map V.ref) (fun i σ H'=>∃v:Option V,σ=[v]∧Same H3 H'∧H' N=some (.lst (((ps.take i).map (·.1)).map V.str)))
    ⟨none,rfl,Same.new hN,ag⟩ (fun i σ H' _ ⟨_,_,s,_⟩=>.of (s _ _ eC)) ?_ ?_
   ·rintro i y σ H4 hy ⟨v,rfl,s4,eN⟩
    obtain⟨ra,rfl,era⟩:=zP hy
    obtain⟨p,ep,e1⟩:=rP pr era
    have hi:=(List.getElem?_eq_some_iff.mp era).1
    refine⟨_,rfl,ra,_,_,.str p.1,rfl,rfl,.of (s4 _ _ e1),aj (j:=0) rfl,_,eN,?_,_,rfl,s4.kbn hN KB.write,?_⟩
    ·rw[List.length_map,List.length_map,List.length_take];exact Nat.lt_of_lt_of_le (show min i ps.length<200000 by omega) (by decide)
    ·rw[ag,List.take_add_one,ep,List.map_append,List.map_append];rfl
   rintro σ H4 ⟨v,rfl,s4,eN⟩
   rw[List.length_map,pl,List.take_length] at eN
   have uI:=s3'.trans s4
   have Dc:=s4 _ _ eC
   have pr4:Paired (Bg H4) rp ps:=Paired.oQ pr fun _ _ h=>s4.kt _ _ h
   refine⟨_,rfl,_,rfl,N,ps.map (·.1),rfl,.of eN,by rw[List.length_map];exact Nat.lt_of_le_of_lt (show ps.length+1≤57 by omega) (by decide),fun S1 ks hS1 nd mk kl=>?_⟩
   rw[List.length_map] at kl
   have SA:=Same.new (o:=kG P w S1 ks) hS1
   refine⟨S1,ks,rfl,ag,by omega,fun S2 ss hS2 pm so=>?_⟩
   show(DR K true (V.ref N) (V.ref S2) (upd (upd H4 S1 (kG P w S1 ks)) S2 (HO.lst (List.map V.str ss))) _)∧∃d d':Dt,aq K (upd (upd H4 S1 (kG P w S1 ks)) S2 (HO.lst (List.map V.str ss))) (V.ref N) d∧aq K (upd (upd H4 S1 (kG P w S1 ks)) S2 (HO.lst (List.map V.str ss))) (V.ref S2) d'∧((∃ds ds',d=.tup ds∧d'=.tup ds')∨∃ds ds',d=.lst ds∧d'=.lst ds')
   have FQ:=SA.trans (Same.new (o:=.lst (ss.map V.str)) hS2)
   have FR:=FQ _ _ eN
   have Mk:(upd (upd H4 S1 (kG P w S1 ks)) S2 (.lst (ss.map V.str))) S2=some (.lst (ss.map V.str)):=ag
   have FJ:=FQ _ _ Dc
   have w4:Paired (Bg (upd (upd H4 S1 (kG P w S1 ks)) S2 (.lst (ss.map V.str)))) rp ps:=Paired.oQ pr4 fun _ _ h=>FQ.kt _ _ h
   have s6:=uI.trans FQ
   generalize upd (upd H4 S1 (kG P w S1 ks)) S2 (.lst (ss.map V.str))=H6 at FR Mk FJ w4 s6 ⊢
   have D1:aq K H6 (.ref N) (.lst ((ps.map (·.1)).map Dt.str)):=by rw[aq];exact⟨N,_,rfl,.of FR,ma _⟩
   have D2:aq K H6 (.ref S2) (.lst (ss.map Dt.str)):=by rw[aq];exact⟨S2,_,rfl,.of Mk,ma _⟩
   refine⟨⟨_,_,D1,D2,rfl,rfl,by rw[Dt.dep,pL];decide,_,rfl,?_⟩,_,_,D1,D2,.inr ⟨_,_,rfl,rfl⟩⟩
   rw[Dt.beq,pK,A1 pm nd mk so]
   cases Ml:rising (ps.map (·.1)) with
   | false=>
    exact bf (fQ TE ((ke (by rw[rT];exact if_neg (by rw[Ml];decide))).same s6))
   | true=>
    refine aG ⟨_,rfl,_,rfl,C,_,rfl,.inl ⟨.of FJ,fun pa hpa=>⟨by show 2≤sizeLine;decide,fun q hq=>?_⟩⟩⟩
    have s7:=(Same.new (o:=.tup (rp.map V.ref)) hpa).trans (Same.new (o:=.tup [.int num,.ref pa]) hq)
    refine kq ⟨num,ps⟩ (by rw[rT];exact if_pos Ml) _ _ (s6.trans s7) ?_
    exact bP (.of ag) (ax jd (ax (bP (.of ((Same.new hq) _ _ ag)) (xu (Paired.oQ w4 fun _ _ h=>s7.kt _ _ h))) a_))
  refine⟨_,rfl,_,rfl,L,_,_,_,rfl,rfl,.of eL,Jx,_,rfl,Jy,fun H2 s2=>⟨_,rfl,?_⟩⟩
  have sr:=s2 _ _ eL
  have s2':=sL.trans s2
  generalize hla:(spl 43 z).getLastD (txt [])=la at Mj Jx Jy ⊢
  have mC:dq z=match fR (az la) with
   | some n=>if z=Str.ofString "0"∨la≠Str.ofString "0" then((n:Int),(spl 43 z).dropLast) else(0,spl 43 z)
   | none=>(0,spl 43 z):=by rw[←hla];rfl
  have stay:dq z=(0,spl 43 z)→R [some (.str z),some (.ref L),some (.int 0),none,none] H2:=fun e=>hR _ _ ⟨by rw[e],s2',by rw[e];exact sr⟩
  cases en:fR (az la) with
  | none=>
   rw[en] at mC
   exact aG (aG (stay mC))
  | some n=>
   rw[en] at mC
   dsimp only at mC
   obtain⟨ei,el⟩:=G7 en
   have goes:dq z=((n:Int),(spl 43 z).dropLast)→∀D:Ends,D.nx=R→nh (Fd (fun xs H Q=>∃(z:Str) (n:Int),xs=[.str z]∧PySem.intText? z=some n∧z.length≤640∧Q (.int n) H) (h8 (HD K "list" HE (mw 1)) iM)) (iJ 2) D [some (.str z),some (.ref L),some (.int 0),none,none] H2:=fun e D hD=>by
    refine⟨_,rfl,.inl ⟨rfl,_,.of sr⟩,L,_,_,rfl,rfl,sr,Mj,la,_,rfl,ei,by omega,?_⟩
    show D.nx _ _
    rw[hD]
    exact hR _ _ ⟨by rw[e];rfl,s2'.kbn hL KB.write,by rw[ag,e,List.map_dropLast]⟩
   refine bf ⟨_,rfl,rfl,_,rfl,?_⟩
   by_cases h0:z=Str.ofString "0"
   ·rw[decide_eq_true (show V.str z=V.str (Str.ofString "0") by rw[h0])]
    rw[if_pos (.inl h0)] at mC
    exact bf (bf (goes mC _ rfl))
   ·rw[decide_eq_false (show ¬V.str z=V.str (Str.ofString "0") from fun q=>h0 (V.str.inj q))]
    refine aG ⟨_,rfl,_,rfl,L,_,_,_,rfl,rfl,.of sr,Jx,rfl,_,rfl,?_⟩
    by_cases h1:la=Str.ofString "0"
    ·rw[decide_eq_true (show V.str la=V.str (Str.ofString "0") by rw[h1])]
     rw[if_neg (fun q=>q.elim h0 fun z=>z h1)] at mC
     exact aG (stay mC)
    ·rw[decide_eq_false (show ¬V.str la=V.str (Str.ofString "0") from fun q=>h1 (V.str.inj q))]
     rw[if_pos (.inr h1)] at mC
     exact bf (goes mC _ rfl)
theorem su:aY ["text","at","end"] ["text","at"] (au iy):=⟨rfl,rfl,rfl,by decide+kernel,rfl,by decide+kernel,by decide+kernel⟩
theorem sv {a:dn} {x:gB} (T:Txt K mg a) (TE:TX K mg x):aR P w K mg base (bS P w) 6 a.iB a.iS ["text","at"] (rk K x.c4):=by
 have yO:aR P w K mg base (bS P w) 5 a.hV a.iR ["some"] (zT K x.c4):=xv T TE
 have gM:=kc (P:=P) (w:=w) (base:=base) T
 obtain⟨VD,SD⟩:=T.wz
 refine T.Cz.lM su (fun vs H Q E h=>?_) (fun cdv A outer s H vs Q E hr h=>?_)
 ·obtain⟨z,k,v,rfl,_⟩:=h
  rfl
 ·obtain⟨z,k,v,rfl,hz,pl,kq,ke⟩:=h
  have xA:aP 5 _:=hr
  have fX:aP 1 _:=hr.mono (by decide)
  refine⟨_,(ai (aI (i:=2) su.nd rfl (Or.inl rfl) (av gM fX rfl T.lV T.lX T.lY .nil aM (ae (pv 0) (ae (pv 1) (ae (fz (v:=.str "abcdefghijklmnopqrstuvwxyz0123456789+") (by rfl) SD ⟨_,rfl⟩) af)))))
  (aw (aL (aX (ae (av yO xA rfl T.yA T.yB T.yC .nil bj (ae (fN jN (pv 0) (dG (pv 1)) (dG (pv 2))) af)) (ae (pv 2) af)))))),?_⟩
  have zl:z.length≤sizeLine:=Nat.le_trans hz.1.2 (by decide)
  refine⟨_,rfl,_,rfl,z,FP,k,v,fb,rfl,hz.1.2,pl,Lc,fun H1 s1=>?_⟩
  refine⟨_,rfl,_,rfl,_,rfl,_,rfl,_,rfl,z,rfl,zl,?_⟩
  rw[pl.EE fb]
  refine⟨_,rfl,pl.EF hz.1 fb,by rw[aH,←pl.2];exact hz.2 k,fun t ht y H2 s2 dy=>⟨_,rfl,by show 2≤sizeLine;decide,fun p hp=>?_⟩,fun hn=>(ke (by unfold fV;rw[hn];rfl)).same s1⟩
  exact kq t _ (by unfold fV;rw[ht];rfl) p y _ _ ((s1.trans s2).trans (Same.new hp)) ag (aA (Same.new hp).kts _ _ t.bb dy) (pl.run fb)
theorem mj:aY ["text","at","end","name","term"] ["text","at"] (au je):=⟨rfl,rfl,rfl,by decide+kernel,rfl,by decide+kernel,by decide+kernel⟩
theorem Dd {a:dn} {x:gB} (T:Txt K mg a) (TE:TX K mg x):aR P w K mg base (bS P w) 7 a.kO a.lP ["text","at"] (zU K x.c4):=by
 have ml:aR P w K mg base (bS P w) 6 a.iB a.iS ["text","at"] (rk K x.c4):=sv T TE
 have gM:=kc (P:=P) (w:=w) (base:=base) T
 have gA:aR P w K mg base (bS P w) 3 a.fk a.fC ["some","signs"] (r6 x.c4):=lE T TE
 have i3:aR P w K mg base (bS P w) 3 a.j6 a.jQ ["text","at","piece"] (qo x.c4):=pY T TE
 obtain⟨SE,FT⟩:=T.zz
 refine T.D9.lM mj (fun vs H Q E h=>?_) (fun cdv A outer s H vs Q E hr h=>?_)
 ·obtain⟨z,k,v,rfl,_⟩:=h
  rfl
 ·obtain⟨z,k,v,rfl,hz,pl,kq,ke⟩:=h
  have kd:aP 6 _:=hr
  have fX:aP 1 _:=hr.mono (by decide)
  have fE:aP 3 _:=hr.mono (by decide)
  have gN:aP 3 _:=hr.mono (by decide)
  refine⟨_,(ai (aI (i:=2) mj.nd rfl (Or.inl rfl) (av gM fX rfl T.lV T.lX T.lY .nil aM (ae (pv 0) (ae (pv 1) (ae (fz (v:=.str "ABCDEFGHIJKLMNOPQRSTUVWXYZ") (by rfl) FT ⟨_,rfl⟩) af)))))
  (ai (aI (i:=3) mj.nd rfl (Or.inl rfl) (av gA fE rfl T.jC T.jD T.jE .nil bj (ae (fN jN (pv 0) (dG (pv 1)) (dG (pv 2))) (ae (fz (v:=.str "ABCDEFGHIJKLMNOPQRSTUVWXYZ") (by rfl) FT ⟨_,rfl⟩) af))))
  (ai (aI (i:=4) mj.nd rfl (Or.inl rfl) (av ml kd rfl T.pD T.pE T.pF .nil bj (ae (pv 0) (ae (av i3 gN rfl T.nR T.nS T.nT .nil bj (ae (pv 0) (ae (pv 2) (ae ay af)))) af))))
  (aw (aL (aX (ae (pv 3) (ae (aB (aE K) (pv 4) ah (fun _ _=>rfl)) (ae (av i3 gN rfl T.nR T.nS T.nT .nil bj (ae (pv 0) (ae (aB (aE K) (pv 4) ah (fun _ _=>rfl)) (ae ay af)))) af))))))))),?_⟩
  have zl:z.length≤sizeLine:=Nat.le_trans hz.1.2 (by decide)
  have Mm:az (Str.ofString "[")=[91]:=by decide+kernel
  have Mn:az (Str.ofString "]")=[93]:=by decide+kernel
  refine⟨_,rfl,_,rfl,z,bX,k,v,bQ,rfl,hz.1.2,pl,xm,fun H1 s1=>?_⟩
  refine⟨_,rfl,_,rfl,_,rfl,_,rfl,_,rfl,z,rfl,zl,?_⟩
  rw[pl.EE bQ]
  refine⟨_,bX,rfl,pl.EF hz.1 bQ,fun hn H2 s2=>?_,fun hn=>(ke (if_neg (by rw[hn];decide))).same s1⟩
  have eP:mz v=(cK [91] (v.dropWhile bQ)).bind fun v1=>(fV v1).bind fun q=>(cK [93] q.2).bind fun v3=>some (txt (v.takeWhile bQ),q.1,v3):=if_pos hn
  have s2':=s1.trans s2
  refine⟨_,rfl,_,rfl,_,rfl,z,Str.ofString "[",_,_,rfl,by decide+kernel,by decide+kernel,pl.run bQ,fun r1 h1 e1 H3 s3 mm=>?_,fun h1=>(ke (by rw[Mm] at h1;rw[eP,h1];rfl)).same s2'⟩
  rw[Mm] at h1
  rw[h1,Option.bind_some] at eP
  have s3':=s2'.trans s3
  refine⟨z,e1,r1,rfl,hz,mm,fun t r2 h2 p y e2 H4 s4 ep dy Jz=>?_,fun h2=>(ke (by rw[eP,h2];rfl)).same s3'⟩
  rw[h2,Option.bind_some] at eP
  have uI:=s3'.trans s4
  refine⟨_,rfl,_,rfl,p,_,_,_,rfl,rfl,.of ep,aj (j:=0) (v:=y) rfl,_,rfl,_,rfl,p,_,_,_,rfl,rfl,.of ep,aj (j:=1) (v:=.int e2) rfl,z,Str.ofString "]",e2,r2,rfl,by decide+kernel,by decide+kernel,Jz,fun r3 h3 e3 H5 s5 qC=>⟨by show 3≤sizeLine;decide,fun q hq=>?_⟩,fun h3=>(ke (by rw[Mn] at h3;rw[eP];dsimp only;rw[h3];rfl)).same uI⟩
  rw[Mn] at h3
  have s6:=s5.trans (Same.new (o:=.tup [.str (txt (v.takeWhile bQ)),y,.int e3]) hq)
  exact kq _ t r3 (by rw[eP];dsimp only;rw[h3];rfl) q y e3 _ (uI.trans s6) ag (aA s6.kts _ _ t.bb dy) qC
def qp (K:PySem.W.Frag) (c4:Addr) (Pf:List Nat→Option (ao×List Nat)):Sp:=fun vs H Q E=>∃(z:Str) (k:Nat) (v:List Nat),vs=[.str z,.int k]∧pZ z∧Pl z k v∧
 (∀f r,Pf v=some (f,r)→∀p y (e:Nat) H',Same H H'→H' p=some (.tup [y,.int e])→aq K H' y f.dt→Pl z e r→Q (.ref p) H')∧(Pf v=none→Rz c4 H E)
theorem p_:az (Str.ofString " < ")=[32,60,32]∧az (Str.ofString " = ")=[32,61,32]∧az (Str.ofString " ~ ")=[32,126,32]:=⟨by decide+kernel,by decide+kernel,by decide+kernel⟩
theorem Pl.st {z y:Str} {k:Nat} {v u:List Nat} (pl:Pl z k v) (hy:az y=u) (hu:u≠[]):Txt.startswith3 z y (k:Int)=u.isPrefixOf v:=by
 rw[um (by rw[bE,hy];exact fun q=>hu (List.length_eq_zero_iff.mp q)),show z.cps.toList.drop k=v from pl.2,show y.cps.toList=u from hy]
theorem Pl.Nv {z:Str} {k:Nat} {v:List Nat} (h:Pl z k v):Txt.slice z (some (k:Int)) (some ((k+1:Nat):Int))=txt (v.take 1):=by
 obtain⟨h1,h2⟩:=h
 have hl:v.length=z.length-k:=by rw[←h2,List.length_drop,←bE]
 refine bD ?_
 rw[jt]
 show _=az (txt _)
 rw[aK]
 unfold qK
 rw[HT.i',HT.i',show z.cps.toList.length=z.length from dB z,Nat.min_eq_left h1]
 show((az z).drop k).take _=_
 rw[h2]
 by_cases hk:k+1≤z.length
 ·rw[Nat.min_eq_left hk,show k+1-k=1 by omega]
 ·have:v=[]:=List.length_eq_zero_iff.mp (by omega)
  rw[this];simp
theorem jI:aY ["text","at","one","word","other"] ["text","at"] (au gR):=⟨rfl,rfl,rfl,by decide+kernel,rfl,by decide+kernel,by decide+kernel⟩
theorem yP {a:dn} {x:gB} (T:Txt K mg a) (TE:TX K mg x):aR P w K mg base (bS P w) 7 a.iT a.jz ["text","at"] (qp K x.c4 gJ):=by
 have ml:aR P w K mg base (bS P w) 6 a.iB a.iS ["text","at"] (rk K x.c4):=sv T TE
 have i3:aR P w K mg base (bS P w) 3 a.j6 a.jQ ["text","at","piece"] (qo x.c4):=pY T TE
 refine T.AK.lM jI (fun vs H Q E h=>?_) (fun cdv A outer s H vs Q E hr h=>?_)
 ·obtain⟨z,k,v,rfl,_⟩:=h
  rfl
 ·obtain⟨z,k,v,rfl,hz,pl,kq,ke⟩:=h
  have kd:aP 6 _:=hr
  have gN:aP 3 _:=hr.mono (by decide)
  refine⟨_,(ai (aI (i:=2) jI.nd rfl (Or.inl rfl) (av ml kd rfl T.pD T.pE T.pF .nil bj (ae (pv 0) (ae (pv 1) af))))
  (ai (aI (i:=3) jI.nd rfl (Or.inl rfl) (ng (cI (cU PySem.F.plainAttrs_str PySem.F.slot_str_startswith PySem.F.type_str_startswith fK (pv 0) (ae ay (ae (aB (aE K) (pv 2) ah (fun _ _=>rfl)) af))) (fun _=>rfl)) ay ay))
  (ai (aI (i:=4) jI.nd rfl (Or.inl rfl) (av ml kd rfl T.pD T.pE T.pF .nil bj (ae (pv 0) (ae (av i3 gN rfl T.nR T.nS T.nT .nil bj (ae (pv 0) (ae (aB (aE K) (pv 2) ah (fun _ _=>rfl)) (ae (ng (aJ cb (pv 3) ay (aN _)) ay ay) af)))) af))))
  (aw (aL (aX (ae (aX (ae (pv 3) (ae (aB (aE K) (pv 2) ah (fun _ _=>rfl)) (ae (aB (aE K) (pv 4) ah (fun _ _=>rfl)) af)))) (ae (aB (aE K) (pv 4) ah (fun _ _=>rfl)) af)))))))),?_⟩
  refine⟨_,rfl,_,rfl,z,k,v,rfl,hz,pl,fun t r1 h1 p1 y1 e1 H1 s1 hJ xB sy=>?_,fun h1=>ke (by unfold gJ;rw[h1];rfl)⟩
  have eP:gJ v=if [32,60,32].isPrefixOf r1=true then((cK [32,60,32] r1).bind fun v2=>(fV v2).bind fun q2=>some (ao.less t q2.1,q2.2)) else((cK [32,61,32] r1).bind fun v2=>(fV v2).bind fun q2=>some (ao.same t q2.1,q2.2)):=by unfold gJ;rw[h1];rfl
  refine⟨_,rfl,rfl,_,rfl,p1,_,_,_,rfl,rfl,.of hJ,aj (j:=1) (v:=.int e1) rfl,z,Str.ofString " < ",e1,rfl,rfl,_,rfl,?_⟩
  rw[sy.st p_.1 (by simp)]
  cases hc:[32,60,32].isPrefixOf r1 with
  | true=>
   rw[hc,if_pos rfl] at eP
   refine bf ?_
   refine⟨_,rfl,_,rfl,_,rfl,p1,_,_,_,rfl,rfl,.of hJ,aj (j:=1) (v:=.int e1) rfl,_,rfl,rfl,_,rfl,bf ?_⟩
   refine⟨z,Str.ofString " < ",e1,r1,rfl,by decide+kernel,by decide+kernel,sy,fun r2 h2 e2 H2 s2 jV=>?_,fun h2=>(ke (by rw[p_.1] at h2;rw[eP,h2];rfl)).same s1⟩
   rw[p_.1] at h2
   rw[h2,Option.bind_some] at eP
   have s2':=s1.trans s2
   refine⟨z,e2,r2,rfl,hz,jV,fun u r3 h3 p2 y2 e3 H3 s3 iO xC mm=>?_,fun h3=>(ke (by rw[eP,h3];rfl)).same s2'⟩
   rw[h3,Option.bind_some] at eP
   have qD:=s2.trans s3
   have hJ:=qD _ _ hJ
   refine⟨_,rfl,_,rfl,p1,_,_,_,rfl,rfl,.of hJ,aj (j:=0) (v:=y1) rfl,_,rfl,p2,_,_,_,rfl,rfl,.of iO,aj (j:=0) (v:=y2) rfl,by show 3≤sizeLine;decide,fun q hq=>?_⟩
   have sq:=Same.new (o:=.tup [.str (Str.ofString "less"),y1,y2]) hq
   have iO:=sq _ _ iO
   refine⟨_,rfl,p2,_,_,_,rfl,rfl,.of iO,aj (j:=1) (v:=.int e3) rfl,by show 2≤sizeLine;decide,fun p hp=>?_⟩
   have sp:=Same.new (o:=.tup [.ref q,.int e3]) hp
   refine kq (.less t u) r3 (by rw[eP]) p (.ref q) e3 _ (((s2'.trans s3).trans sq).trans sp) ag ?_ mm
   exact bP (.of (sp _ _ ag)) (ax bu (ax (aA ((qD.trans sq).trans sp).kts _ _ t.bb xB) (ax (aA (sq.trans sp).kts _ _ u.bb xC) a_)))
  | false=>
   rw[hc,if_neg (by decide)] at eP
   refine aG ?_
   refine⟨_,rfl,_,rfl,_,rfl,p1,_,_,_,rfl,rfl,.of hJ,aj (j:=1) (v:=.int e1) rfl,_,rfl,rfl,_,rfl,aG ?_⟩
   refine⟨z,Str.ofString " = ",e1,r1,rfl,by decide+kernel,by decide+kernel,sy,fun r2 h2 e2 H2 s2 jV=>?_,fun h2=>(ke (by rw[p_.2.1] at h2;rw[eP,h2];rfl)).same s1⟩
   rw[p_.2.1] at h2
   rw[h2,Option.bind_some] at eP
   have s2':=s1.trans s2
   refine⟨z,e2,r2,rfl,hz,jV,fun u r3 h3 p2 y2 e3 H3 s3 iO xC mm=>?_,fun h3=>(ke (by rw[eP,h3];rfl)).same s2'⟩
   rw[h3,Option.bind_some] at eP
   have qD:=s2.trans s3
   have hJ:=qD _ _ hJ
   refine⟨_,rfl,_,rfl,p1,_,_,_,rfl,rfl,.of hJ,aj (j:=0) (v:=y1) rfl,_,rfl,p2,_,_,_,rfl,rfl,.of iO,aj (j:=0) (v:=y2) rfl,by show 3≤sizeLine;decide,fun q hq=>?_⟩
   have sq:=Same.new (o:=.tup [.str (Str.ofString "same"),y1,y2]) hq
   have iO:=sq _ _ iO
   refine⟨_,rfl,p2,_,_,_,rfl,rfl,.of iO,aj (j:=1) (v:=.int e3) rfl,by show 2≤sizeLine;decide,fun p hp=>?_⟩
   have sp:=Same.new (o:=.tup [.ref q,.int e3]) hp
   refine kq (.same t u) r3 (by rw[eP]) p (.ref q) e3 _ (((s2'.trans s3).trans sq).trans sp) ag ?_ mm
   exact bP (.of (sp _ _ ag)) (ax bu (ax (aA ((qD.trans sq).trans sp).kts _ _ t.bb xB) (ax (aA (sq.trans sp).kts _ _ u.bb xC) a_)))
theorem jJ:aY ["text","at","one","place","other"] ["text","at"] (au gT):=⟨rfl,rfl,rfl,by decide+kernel,rfl,by decide+kernel,by decide+kernel⟩
theorem yQ {a:dn} {x:gB} (T:Txt K mg a) (TE:TX K mg x):aR P w K mg base (bS P w) 8 a.iU a.jA ["text","at"] (qp K x.c4 gK):=by
 have xE:aR P w K mg base (bS P w) 7 a.kO a.lP ["text","at"] (zU K x.c4):=Dd T TE
 have i3:aR P w K mg base (bS P w) 3 a.j6 a.jQ ["text","at","piece"] (qo x.c4):=pY T TE
 have u5:aR P w K mg base (bS P w) 3 a.gc a.gW ["some"] (wI x.c4):=tN T TE
 refine T.AQ.lM jJ (fun vs H Q E h=>?_) (fun cdv A outer s H vs Q E hr h=>?_)
 ·obtain⟨z,k,v,rfl,_⟩:=h
  rfl
 ·obtain⟨z,k,v,rfl,hz,pl,kq,ke⟩:=h
  have uJ:aP 7 _:=hr
  have gN:aP 3 _:=hr.mono (by decide)
  have tO:aP 3 _:=hr.mono (by decide)
  refine⟨_,(ai (aI (i:=2) jJ.nd rfl (Or.inl rfl) (av xE uJ rfl T.wo T.wq T.wt .nil bj (ae (pv 0) (ae (pv 1) af))))
  (ai (bw (cI (cU PySem.F.plainAttrs_str PySem.F.slot_str_startswith PySem.F.type_str_startswith fK (pv 0) (ae ay (ae (aB (aE K) (pv 2) ah (fun _ _=>rfl)) af))) (fun _=>rfl))
   (ai (aI (i:=3) jJ.nd rfl (Or.inl rfl) (aD cN (aB (aE K) (pv 2) ah (fun _ _=>rfl)) ah))
   (aw (aL (aX (ae (aX (ae ay (ae (aB (aE K) (pv 2) ah (fun _ _=>rfl)) (ae (aB (aE K) (pv 2) ah (fun _ _=>rfl)) (ae (av u5 tO rfl T.uX T.uY T.uZ .nil bj (ae (fN jN (pv 0) (dG (pv 3)) (dG (aD cN (pv 3) ah))) af)) af))))) (ae (aD cN (pv 3) ah) af))))))
   aS)
  (ai (aI (i:=4) jJ.nd rfl (Or.inl rfl) (av xE uJ rfl T.wo T.wq T.wt .nil bj (ae (pv 0) (ae (av i3 gN rfl T.nR T.nS T.nT .nil bj (ae (pv 0) (ae (aB (aE K) (pv 2) ah (fun _ _=>rfl)) (ae ay af)))) af))))
  (aw (aL (aX (ae (aX (ae ay (ae (aB (aE K) (pv 2) ah (fun _ _=>rfl)) (ae (aB (aE K) (pv 2) ah (fun _ _=>rfl)) (ae (aB (aE K) (pv 4) ah (fun _ _=>rfl)) (ae (aB (aE K) (pv 4) ah (fun _ _=>rfl)) af)))))) (ae (aB (aE K) (pv 4) ah (fun _ _=>rfl)) af)))))))),?_⟩
  have zl:z.length≤sizeLine:=Nat.le_trans hz.1.2 (by decide)
  refine⟨_,rfl,_,rfl,z,k,v,rfl,hz,pl,fun n t r1 h1 p1 y1 e1 H1 s1 hJ xB sy=>?_,fun h1=>ke (by unfold gK;rw[h1];rfl)⟩
  have eP:gK v=if [32,61,32].isPrefixOf r1=true then((qV (r1.drop 3)).bind fun g=>some (ao.sign n t (g.1:Nat),g.2)) else((cK [32,126,32] r1).bind fun v2=>(mz v2).bind fun q2=>some (ao.alike n t q2.1 q2.2.1,q2.2.2)):=by unfold gK;rw[h1];rfl
  refine⟨_,rfl,rfl,_,rfl,p1,_,_,_,rfl,rfl,.of hJ,aj (j:=2) (v:=.int e1) rfl,z,Str.ofString " = ",e1,rfl,rfl,_,rfl,?_⟩
  rw[sy.st p_.2.1 (by simp)]
  cases hc:[32,61,32].isPrefixOf r1 with
  | true=>
   rw[hc,if_pos rfl] at eP
   have mm:Pl z (e1+3) (r1.drop 3):=sy.due (p:=[32,61,32]) (if_pos hc)
   refine bf ⟨_,rfl,p1,_,_,_,rfl,rfl,.of hJ,aj (j:=2) (v:=.int e1) rfl,_,_,rfl,rfl,?_⟩
   refine⟨_,rfl,p1,_,_,_,rfl,rfl,.of hJ,aj (j:=0) (v:=.str n) rfl,_,rfl,p1,_,_,_,rfl,rfl,.of hJ,aj (j:=1) (v:=y1) rfl,_,rfl,_,rfl,_,rfl,_,rfl,_,_,rfl,rfl,_,rfl,z,rfl,zl,?_⟩
   rw[show Txt.slice z (some ((e1:Int)+3)) (some ((e1:Int)+3+1))=txt ((r1.drop 3).take 1) from mm.Nv]
   refine⟨_,rfl,?_,fun g hg H2 s2=>⟨by show 4≤sizeLine;decide,fun q hq=>?_⟩,fun hn=>(ke ?_).same s1⟩
   ·rw[aH];exact Nat.le_trans (List.length_take_le _ _) (by decide)
   ·cases er:r1.drop 3 with
    | nil=>rw[er,zE (by rw[aH];decide)] at hg;cases hg
    | cons c r=>
     rw[er,qg (c:=c) rfl] at hg
     have hc:cJ c=true:=by
      cases h:cJ c with
      | true=>rfl
      | false=>rw[h] at hg;cases hg
     rw[hc,if_pos rfl] at hg
     cases hg
     rw[er] at eP mm
     have ef:qV (c::r)=some (c-48,r):=if_pos hc
     rw[ef,Option.bind_some] at eP
     have sq:=Same.new (o:=.tup [.str (Str.ofString "sign"),.str n,y1,.int ((c-48:Nat):Int)]) hq
     refine⟨_,rfl,_,_,rfl,rfl,by show 2≤sizeLine;decide,fun p hp=>?_⟩
     have sp:=Same.new (o:=.tup [.ref q,.int (((e1+3+1:Nat)):Int)]) hp
     refine kq (.sign n t ((c-48:Nat):Int)) r (by rw[eP]) p (.ref q) (e1+3+1) _ (((s1.trans s2).trans sq).trans sp) ag ?_ ⟨?_,?_⟩
     ·exact bP (.of (sp _ _ ag)) (ax bu (ax bu (ax (aA ((s2.trans sq).trans sp).kts _ _ t.bb xB) (ax jd a_))))
     ·have hl:(c::r).length=z.length-(e1+3):=by rw[←mm.2,List.length_drop,←bE]
      rw[List.length_cons] at hl
      omega
     ·rw[←List.drop_drop,mm.2];rfl
   ·rw[eP]
    cases er:r1.drop 3 with
    | nil=>rfl
    | cons c r=>
     rw[er,qg (c:=c) rfl] at hn
     cases h:cJ c with
     | true=>rw[h] at hn;cases hn
     | false=>
      have ef:qV (c::r)=none:=if_neg (by rw[h];decide)
      rw[ef];rfl
  | false=>
   rw[hc,if_neg (by decide)] at eP
   refine aG ?_
   refine⟨_,rfl,_,rfl,_,rfl,p1,_,_,_,rfl,rfl,.of hJ,aj (j:=2) (v:=.int e1) rfl,z,Str.ofString " ~ ",e1,r1,rfl,by decide+kernel,by decide+kernel,sy,fun r2 h2 e2 H2 s2 jV=>?_,fun h2=>(ke (by rw[p_.2.2] at h2;rw[eP,h2];rfl)).same s1⟩
   rw[p_.2.2] at h2
   rw[h2,Option.bind_some] at eP
   have s2':=s1.trans s2
   refine⟨z,e2,r2,rfl,hz,jV,fun m u r3 h3 p2 y2 e3 H3 s3 iO xC mm=>?_,fun h3=>(ke (by rw[eP,h3];rfl)).same s2'⟩
   rw[h3,Option.bind_some] at eP
   have qD:=s2.trans s3
   have hJ:=qD _ _ hJ
   refine⟨_,rfl,p1,_,_,_,rfl,rfl,.of hJ,aj (j:=0) (v:=.str n) rfl,_,rfl,p1,_,_,_,rfl,rfl,.of hJ,aj (j:=1) (v:=y1) rfl,_,rfl,p2,_,_,_,rfl,rfl,.of iO,aj (j:=0) (v:=.str m) rfl,_,rfl,p2,_,_,_,rfl,rfl,.of iO,aj (j:=1) (v:=y2) rfl,by show 5≤sizeLine;decide,fun q hq=>?_⟩
   have sq:=Same.new (o:=.tup [.str (Str.ofString "alike"),.str n,y1,.str m,y2]) hq
   have iO:=sq _ _ iO
   refine⟨_,rfl,p2,_,_,_,rfl,rfl,.of iO,aj (j:=2) (v:=.int e3) rfl,by show 2≤sizeLine;decide,fun p hp=>?_⟩
   have sp:=Same.new (o:=.tup [.ref q,.int e3]) hp
   refine kq (.alike n t m u) r3 (by rw[eP]) p (.ref q) e3 _ (((s2'.trans s3).trans sq).trans sp) ag ?_ mm
   exact bP (.of (sp _ _ ag)) (ax bu (ax bu (ax (aA ((qD.trans sq).trans sp).kts _ _ t.bb xB) (ax bu (ax (aA (sq.trans sp).kts _ _ u.bb xC) a_)))))
theorem Bh:aY ["text","at"] ["text","at"] (au iz):=⟨rfl,rfl,rfl,by decide+kernel,rfl,by decide+kernel,by decide+kernel⟩
theorem Bi {a:dn} {x:gB} (T:Txt K mg a) (TE:TX K mg x):aR P w K mg base (bS P w) 9 a.jR a.j7 ["text","at"] (qp K x.c4 gD):=by
 have Bj:aR P w K mg base (bS P w) 7 a.iT a.jz ["text","at"] (qp K x.c4 gJ):=yP T TE
 have Bk:aR P w K mg base (bS P w) 8 a.iU a.jA ["text","at"] (qp K x.c4 gK):=yQ T TE
 have gM:=kc (P:=P) (w:=w) (base:=base) T
 obtain⟨SE,FT⟩:=T.zz
 refine T.CA.lM Bh (fun vs H Q E h=>?_) (fun cdv A outer s H vs Q E hr h=>?_)
 ·obtain⟨z,k,v,rfl,_⟩:=h
  rfl
 ·obtain⟨z,k,v,rfl,hz,pl,kq,ke⟩:=h
  have yR:aP 7 _:=hr.mono (by decide)
  have yS:aP 8 _:=hr
  have fX:aP 1 _:=hr.mono (by decide)
  refine⟨_,(ai (bw (aJ nq (av gM fX rfl T.lV T.lX T.lY .nil aM (ae (pv 0) (ae (pv 1) (ae (fz (v:=.str "ABCDEFGHIJKLMNOPQRSTUVWXYZ") (by rfl) FT ⟨_,rfl⟩) af)))) (pv 1) (aN _))
   (aw (aL (av Bk yS rfl T.AU T.AV T.AW .nil bj (ae (pv 0) (ae (pv 1) af)))))
   aS)
  (aw (aL (av Bj yR rfl T.AL T.AN T.AO .nil bj (ae (pv 0) (ae (pv 1) af)))))),?_⟩
  refine⟨_,rfl,_,rfl,z,bX,k,v,bQ,rfl,hz.1.2,pl,xm,fun H1 s1=>⟨_,rfl,_,_,rfl,rfl,_,rfl,?_⟩⟩
  by_cases hg:v.takeWhile bQ=[]
  ·have eP:gD v=gJ v:=if_pos hg
   rw[decide_eq_false (show ¬((k:Int)<((k+(v.takeWhile bQ).length:Nat):Int)) by rw[hg];simp)]
   refine aG ⟨_,rfl,_,rfl,z,k,v,rfl,hz,pl,fun f r h p y e H2 s2=>kq f r (by rw[eP];exact h) p y e H2 (s1.trans s2),fun h=>(ke (by rw[eP];exact h)).same s1⟩
  ·have eP:gD v=gK v:=if_neg hg
   have hl:0<(v.takeWhile bQ).length:=List.length_pos_iff.mpr hg
   rw[decide_eq_true (show((k:Int)<((k+(v.takeWhile bQ).length:Nat):Int)) by omega)]
   refine bf ⟨_,rfl,_,rfl,z,k,v,rfl,hz,pl,fun f r h p y e H2 s2=>kq f r (by rw[eP];exact h) p y e H2 (s1.trans s2),fun h=>(ke (by rw[eP];exact h)).same s1⟩
def hdD:Hd→List Dt
 | .par=>[.str "("]
 | .no=>[.str "not"]
 | .some n=>[.str "some",.str n]
 | .each n=>[.str "each",.str n]
 | .and f=>[.str "and",f.dt]
 | .or f=>[.str "or",f.dt]
theorem xF (h:Hd):Dt.dP (hdD h)=true:=by cases h<;>simp[hdD,Dt.dP,Dt.bb,ao.bb]
theorem JA (h:Hd):(hdD h).length≤2:=by cases h<;>simp[hdD]
def p3 (K:PySem.W.Frag) (H:Hp) (x:V) (h:Hd):Prop:=∃p xs,x=.ref p∧H p=some (.tup xs)∧aF K H xs (hdD h)
theorem p3.keep {K:PySem.W.Frag} {H H':Hp} {x:V} {h:Hd} (a:p3 K H x h) (k:eB H H') (s:eJ K H H'):p3 K H' x h:=by
 obtain⟨p,xs,e,ep,d⟩:=a
 exact⟨p,xs,e,k _ _ ep,cg s _ _ (xF h) d⟩
def gO (K:PySem.W.Frag) (H:Hp) (ys:List V) (w:List Hd):Prop:=Paired (p3 K H) ys w.reverse
theorem gO.keep {K:PySem.W.Frag} {H H':Hp} {ys:List V} {w:List Hd} (a:gO K H ys w) (k:eB H H') (s:eJ K H H'):gO K H' ys w:=Paired.oQ a fun _ _ h=>h.keep k s
theorem gO.push {K:PySem.W.Frag} {H:Hp} {ys:List V} {w:List Hd} {y:V} {h:Hd} (a:gO K H ys w) (b:p3 K H y h):gO K H (ys++[y]) (h::w):=by
 unfold gO
 rw[List.reverse_cons]
 exact fZ a (.cons b .nil)
theorem gO.len {K:PySem.W.Frag} {H:Hp} {ys:List V} {w:List Hd} (a:gO K H ys w):ys.length=w.length:=by
 have:=Paired.length a
 rw[List.length_reverse] at this
 exact this
theorem sE {α β:Type} {F:α→β→Prop}:∀{l:List α} {m:List β} {b:β},Paired F l (m++[b])→∃l' a,l=l'++[a]∧Paired F l' m∧F a b
 | _,[],b,.cons h .nil=>⟨[],_,rfl,.nil,h⟩
 | _,c::m,b,.cons h t=>by
  obtain⟨l',a,rfl,p,q⟩:=sE t
  exact⟨_::l',a,rfl,.cons h p,q⟩
theorem gO.pop {K:PySem.W.Frag} {H:Hp} {ys:List V} {w:List Hd} {h:Hd} (a:gO K H ys (h::w)):∃ys' y,ys=ys'++[y]∧gO K H ys' w∧p3 K H y h:=by
 unfold gO at a
 rw[List.reverse_cons] at a
 exact sE a
def De (c W:Addr) (H:Hp) (E:XK):Prop:=∀H' a,KB W H H'→H' a=some (xo false a c none)→E (.ref a) none H'
theorem De.rz {c W:Addr} {H H':Hp} {E:XK} (h:De c W H E) (k:KB W H H'):Rz c H' E:=fun H2 a s2 e=>h H2 a (k.trans s2.kb) e
def uK (K:PySem.W.Frag) (c4:Addr):Sp:=fun vs H Q E=>∃(z:Str) (k:Nat) (v:List Nat),vs=[.str z,.int k]∧pZ z∧Pl z k v∧(openP v=some none→∀H',Same H H'→Q .non H')∧
 (∀h r,openP v=some (some (h,r))→∀p y (e:Nat) H',Same H H'→H' p=some (.tup [y,.int e])→p3 K H' y h→Pl z e r→Q (.ref p) H')∧(openP v=none→Rz c4 H E)
def xG (K:PySem.W.Frag) (c4:Addr):Sp:=fun vs H Q E=>∃(z:Str) (k:Nat) (v:List Nat) (W:Addr) (ys:List V) (w:List Hd) (n:Nat) (R:Option (ao×List Nat)),vs=[.str z,.int k,.ref W]∧pZ z∧Pl z k v∧H W=some (.lst ys)∧gO K H ys w∧v.length<n∧w.length+v.length≤200000∧run n v w=R∧
 (∀(e:Nat) v' w' n' ys' H',KB W H H'→H' W=some (.lst ys')→gO K H' ys' w'→Pl z e v'→v'.length<n'→run n' v' w'=R→openP v'=some none→w'.length+v'.length≤w.length+v.length→v'.length≤v.length→Q (.int e) H')∧(R=none→De c4 W H E)
def xH (K:PySem.W.Frag) (c4:Addr):Sp:=fun vs H Q E=>∃(z:Str) (k:Nat) (v:List Nat) (W:Addr) (y:V) (f:ao) (ys:List V) (w:List Hd),vs=[.str z,.int k,.ref W,y]∧pZ z∧Pl z k v∧H W=some (.lst ys)∧gO K H ys w∧w.length≤200000∧aq K H y f.dt∧
 (∀g r w',bt v w f=some (some g,r,w')→∀p y (e:Nat) ys' H',KB W H H'→H' p=some (.tup [y,.int e])→aq K H' y g.dt→Pl z e r→H' W=some (.lst ys')→Q (.ref p) H')∧
 (∀r w',bt v w f=some (none,r,w')→∀p (e:Nat) ys' H',KB W H H'→H' p=some (.tup [.non,.int e])→H' W=some (.lst ys')→gO K H' ys' w'→Pl z e r→Q (.ref p) H')∧
 (bt v w f=none→De c4 W H E)
def p4 (K:PySem.W.Frag) (c4:Addr):Sp:=fun vs H Q E=>∃z:Str,vs=[.str z]∧pZ z∧(∀f,qk z=some f→∀y H',Same H H'→aq K H' y f.dt→Q y H')∧(qk z=none→Rz c4 H E)
theorem n5 {p v r:List Nat} (h:cK p v=some r):r.length+p.length=v.length:=by rw[fU h,List.length_append,Nat.add_comm]
theorem Df {v r:List Nat} {h:Hd} (e:openP v=some (some (h,r))):r.length<v.length:=by
 have pre:∀{p:List Nat},p.isPrefixOf v=true→p.length≤v.length:=fun q=>by
  have:=congrArg List.length (dC q)
  rw[List.length_append] at this
  omega
 unfold openP at e
 split at e
 ·rename_i q
  cases e
  have:=pre q
  rw[List.length_drop];simp at this;omega
 split at e
 ·rename_i q
  cases e
  have:=pre q
  rw[List.length_drop];simp at this;omega
 split at e
 ·rename_i q
  have h5:5≤v.length:=by rcases q with q | q<;>exact pre q
  split at e
  ·obtain⟨r',h1,h2⟩:=Option.bind_eq_some_iff.mp e
   have:=n5 h1
   have h3:((v.drop 5).dropWhile bT).length≤(v.drop 5).length:=(List.dropWhile_sublist _).length_le
   rw[List.length_drop] at h3
   cases h2
   simp at this
   omega
  ·cases e
 ·cases e
theorem g6:∀{w:List Hd} {v r:List Nat} {f:ao} {w':List Hd},bt v w f=some (none,r,w')→w'.length≤w.length∧r.length≤v.length
 | [],v,r,f,w',h=>by cases h
 | .par::w,v,r,f,w',h=>by
  unfold bt at h
  split at h
  ·cases h;exact⟨Nat.le_refl _,by rw[List.length_drop];omega⟩
  ·obtain⟨r',h1,h2⟩:=Option.bind_eq_some_iff.mp h
   cases h2
   exact⟨Nat.le_refl _,by have:=n5 h1;omega⟩
 | .and g::w,v,r,f,w',h=>by
  unfold bt at h
  obtain⟨r',h1,h2⟩:=Option.bind_eq_some_iff.mp h
  have:=g6 h2
  have:=n5 h1
  rw[List.length_cons];omega
 | .or g::w,v,r,f,w',h=>by
  unfold bt at h
  obtain⟨r',h1,h2⟩:=Option.bind_eq_some_iff.mp h
  have:=g6 h2
  have:=n5 h1
  rw[List.length_cons];omega
 | .no::w,v,r,f,w',h=>by
  unfold bt at h
  have:=g6 h
  rw[List.length_cons];omega
 | .some n::w,v,r,f,w',h=>by
  unfold bt at h
  have:=g6 h
  rw[List.length_cons];omega
 | .each n::w,v,r,f,w',h=>by
  unfold bt at h
  have:=g6 h
  rw[List.length_cons];omega
theorem lits:az (Str.ofString "(")=[40]∧az (Str.ofString "not ")=[110,111,116,32]∧az (Str.ofString "some ")=[115,111,109,101,32]∧az (Str.ofString "each ")=[101,97,99,104,32]∧az (Str.ofString " ")=[32]∧az (Str.ofString ")")=[41]∧az (Str.ofString " or ")=[32,111,114,32]:=⟨by decide+kernel,by decide+kernel,by decide+kernel,by decide+kernel,by decide+kernel,by decide+kernel,by decide+kernel⟩
theorem JB {T:(Bool→Hp→Prop)→Prop} {Qf:Bool→Hp→Prop} {c:Bool} {H:Hp} (h:∀Qc:Bool→Hp→Prop,Qc c H→T Qc) (x:Qf c H):T Qf:=h Qf x
def JC (K:PySem.W.Frag) (z:Str) (v:List Nat) (o:V) (H:Hp):Prop:=(o=.non∧openP v=some none)∨∃(p:Addr) (y:V) (e:Nat) (h:Hd) (r:List Nat),o=.ref p∧H p=some (.tup [y,.int e])∧p3 K H y h∧Pl z e r∧openP v=some (some (h,r))
theorem nextOf {D:Ends} {σ:St} {H:Hp} (h:D.nx σ H):E5 D σ H:=h
def JD:Option (ao×List Nat)→Option ao
 | some (f,[])=>some f
 | _=>none
theorem EK {n:Nat} {v r:List Nat} {w:List Hd} {h:Hd} (e:openP v=some (some (h,r))):run (n+1) v w=run n r (h::w):=by
 show(match openP v with | none=>none | some (some (h,v'))=>run n v' (h::w) | some none=>_)=_
 rw[e]
theorem EL {n:Nat} {v r:List Nat} {w:List Hd} {f:ao} (h:openP v=some none) (h2:gD v=some (f,r)):run (n+1) v w=cont n r w f:=by
 show(match openP v with | none=>none | some (some (h,v'))=>run n v' (h::w) | some none=>_)=_
 rw[h,h2];rfl
theorem Dg {n:Nat} {v:List Nat} {w:List Hd} (h:openP v=some none) (h2:gD v=none):run (n+1) v w=none:=by
 show(match openP v with | none=>none | some (some (h,v'))=>run n v' (h::w) | some none=>_)=_
 rw[h,h2]
theorem oM:aY ["text","at","end"] ["text","at"] (au fA):=⟨rfl,rfl,rfl,by decide+kernel,rfl,by decide+kernel,by decide+kernel⟩
theorem u6 {a:dn} {x:gB} (T:Txt K mg a) (TE:TX K mg x):aR P w K mg base (bS P w) 4 a.gI a.h9 ["text","at"] (uK K x.c4):=by
 have gM:=kc (P:=P) (w:=w) (base:=base) T
 have gA:aR P w K mg base (bS P w) 3 a.fk a.fC ["some","signs"] (r6 x.c4):=lE T TE
 have i3:aR P w K mg base (bS P w) 3 a.j6 a.jQ ["text","at","piece"] (qo x.c4):=pY T TE
 obtain⟨Sz,C9⟩:=T.zy
 refine T.wu.lM oM (fun vs H Q E h=>?_) (fun cdv A outer s H vs Q E hr h=>?_)
 ·obtain⟨z,k,v,rfl,_⟩:=h
  rfl
 ·obtain⟨z,k,v,rfl,hz,pl,kn,kq,ke⟩:=h
  have fX:aP 1 _:=hr.mono (by decide)
  have fE:aP 3 _:=hr
  have gN:aP 3 _:=hr
  refine⟨_,(ai (bw (cI (cU PySem.F.plainAttrs_str PySem.F.slot_str_startswith PySem.F.type_str_startswith fK (pv 0) (ae ay (ae (pv 1) af))) (fun _=>rfl))
   (aw (aL (aX (ae (aX (ae ay af)) (ae (aD cN (pv 1) ah) af)))))
   aS)
  (ai (bw (cI (cU PySem.F.plainAttrs_str PySem.F.slot_str_startswith PySem.F.type_str_startswith fK (pv 0) (ae ay (ae (pv 1) af))) (fun _=>rfl))
   (aw (aL (aX (ae (aX (ae ay af)) (ae (aD cN (pv 1) ah) af)))))
   aS)
  (ai (bw (PW.pt (gC (cI (cU PySem.F.plainAttrs_str PySem.F.slot_str_startswith PySem.F.type_str_startswith fK (pv 0) (ae ay (ae (pv 1) af))) (fun _=>rfl)) (gE (cI (cU PySem.F.plainAttrs_str PySem.F.slot_str_startswith PySem.F.type_str_startswith fK (pv 0) (ae ay (ae (pv 1) af))) (fun _=>rfl)))))
   (ai (aI (i:=2) oM.nd rfl (Or.inl rfl) (av gM fX rfl T.lV T.lX T.lY .nil aM (ae (pv 0) (ae (aD cN (pv 1) ah) (ae (fz (v:=.str "abcdefghijklmnopqrstuvwxyz") (by rfl) C9 ⟨_,rfl⟩) af)))))
   (aw (aL (aX (ae (aX (ae (fN jN (pv 0) (dG (pv 1)) (dG (aD cN (pv 1) ah))) (ae (av gA fE rfl T.jC T.jD T.jE .nil bj (ae (fN jN (pv 0) (dG (aD cN (pv 1) ah)) (dG (pv 2))) (ae (fz (v:=.str "abcdefghijklmnopqrstuvwxyz") (by rfl) C9 ⟨_,rfl⟩) af))) af))) (ae (av i3 gN rfl T.nR T.nS T.nT .nil bj (ae (pv 0) (ae (pv 2) (ae ay af)))) af))))))
   aS)
  (aw (aL oU))))),?_⟩
  have zl:z.length≤sizeLine:=Nat.le_trans hz.1.2 (by decide)
  obtain⟨l1,l2,l3,l4,l5,l6,l7⟩:=lits
  refine⟨_,rfl,rfl,_,rfl,z,_,k,rfl,rfl,_,rfl,?_⟩
  rw[pl.st l1 (by simp)]
  cases h1:[40].isPrefixOf v with
  | true=>
   refine bf ⟨by show 1≤sizeLine;decide,fun q hq=>⟨_,rfl,_,_,rfl,rfl,by show 2≤sizeLine;decide,fun p hp=>?_⟩⟩
   have sp:=Same.new (o:=.tup [.ref q,.int ((k+1:Nat):Int)]) hp
   exact kq .par (v.drop 1) (if_pos h1) p (.ref q) (k+1) _ ((Same.new hq).trans sp) ag ⟨q,_,rfl,sp _ _ ag,ax bu a_⟩ (pl.due (p:=[40]) (if_pos h1))
  | false=>
  refine aG ⟨_,rfl,rfl,_,rfl,z,_,k,rfl,rfl,_,rfl,?_⟩
  have o1:openP v=(if [110,111,116,32].isPrefixOf v=true then some (some (.no,v.drop 4))
   else if [115,111,109,101,32].isPrefixOf v=true∨[101,97,99,104,32].isPrefixOf v=true then
   (if nameB bU (txt ((v.drop 5).takeWhile bT))=true then((cK [32] ((v.drop 5).dropWhile bT)).bind fun r=>
   some (some (if [115,111,109,101,32].isPrefixOf v=true then .some (txt ((v.drop 5).takeWhile bT)) else .each (txt ((v.drop 5).takeWhile bT)),r))) else none)
   else some none):=by unfold openP;rw[h1];rfl
  rw[pl.st l2 (by simp)]
  cases h2:[110,111,116,32].isPrefixOf v with
  | true=>
   rw[h2,if_pos rfl] at o1
   refine bf ⟨by show 1≤sizeLine;decide,fun q hq=>⟨_,rfl,_,_,rfl,rfl,by show 2≤sizeLine;decide,fun p hp=>?_⟩⟩
   have sp:=Same.new (o:=.tup [.ref q,.int ((k+4:Nat):Int)]) hp
   exact kq .no (v.drop 4) o1 p (.ref q) (k+4) _ ((Same.new hq).trans sp) ag ⟨q,_,rfl,sp _ _ ag,ax bu a_⟩ (pl.due (p:=[110,111,116,32]) (if_pos h2))
  | false=>
  rw[h2,if_neg (by decide)] at o1
  refine aG (nextOf ?_)
  dsimp only[qF,sM]
  by_cases hse:[115,111,109,101,32].isPrefixOf v=true∨[101,97,99,104,32].isPrefixOf v=true
  ·rw[if_pos hse] at o1
   refine(JB (c:=true) (H:=H) (fun Qc hQ=>?_) ?_:Hj _ _ _ _ _)
   ·refine⟨_,rfl,rfl,_,rfl,z,_,k,rfl,rfl,_,rfl,?_⟩
    rw[pl.st l3 (by simp)]
    cases h3:[115,111,109,101,32].isPrefixOf v with
    | true=>exact bf hQ
    | false=>
     refine aG ⟨_,rfl,rfl,_,rfl,z,_,k,rfl,rfl,_,rfl,?_⟩
     have h4:[101,97,99,104,32].isPrefixOf v=true:=hse.resolve_left (by rw[h3];decide)
     rw[pl.st l4 (by simp),h4]
     exact hQ
   refine bf ?_
   obtain⟨wd,cw,r0,ew,JE,JF⟩:∃(wd:Str) (cw r0:List Nat),v=cw++32::r0∧cw.length=4∧txt cw=wd∧(∀n,hdD (if [115,111,109,101,32].isPrefixOf v=true then .some n else .each n)=[.str wd,.str n]):=by
    cases h3:[115,111,109,101,32].isPrefixOf v with
    | true=>exact⟨"some",[115,111,109,101],v.drop 5,dC h3,rfl,by decide+kernel,fun n=>rfl⟩
    | false=>
     have h4:[101,97,99,104,32].isPrefixOf v=true:=hse.resolve_left (by rw[h3];decide)
     exact⟨"each",[101,97,99,104],v.drop 5,dC h4,rfl,by decide+kernel,fun n=>rfl⟩
   obtain⟨SF,JF⟩:=JF
   have e5:v.drop 5=r0:=by
    rw[ew,show cw++32::r0=(cw++[32])++r0 by simp,List.drop_left' (by simp[JE])]
   rw[e5] at o1
   have qC:Pl z (k+5) r0:=by
    have:=pl.due (p:=cw++[32]) (r:=r0) (by rw[ew,show cw++32::r0=(cw++[32])++r0 by simp];exact fD _ _)
    have h5:(cw++[32]).length=5:=by rw[List.length_append,JE];rfl
    rw[h5] at this
    exact this
   refine⟨_,rfl,_,rfl,_,_,rfl,rfl,z,bU,k+5,r0,bT,rfl,hz.1.2,qC,EI,fun H1 s1=>?_⟩
   refine⟨_,rfl,_,rfl,_,rfl,_,rfl,_,_,rfl,rfl,_,rfl,z,rfl,zl,?_⟩
   rw[show Txt.slice z (some (k:Int)) (some ((k:Int)+4))=wd from(pl.cut (u:=cw) (e:=k+4) ew (by rw[JE])).trans SF]
   refine⟨_,rfl,_,rfl,_,_,rfl,rfl,_,rfl,_,rfl,_,rfl,z,rfl,zl,?_⟩
   rw[show Txt.slice z (some ((k:Int)+5)) (some ((k+5+(r0.takeWhile bT).length:Nat):Int))=txt (r0.takeWhile bT) from qC.EE bT]
   refine⟨_,bU,rfl,qC.EF hz.1 bT,fun hn H2 s2=>⟨by show 2≤sizeLine;decide,fun q hq=>?_⟩,fun hn=>(ke (by rw[o1];exact if_neg (by rw[hn];decide))).same s1⟩
   rw[if_pos hn] at o1
   have sq:=(s1.trans s2).trans (Same.new (o:=.tup [.str wd,.str (txt (r0.takeWhile bT))]) hq)
   refine⟨_,rfl,_,rfl,z,_,_,_,rfl,by decide+kernel,by decide+kernel,qC.run bT,fun r h e H3 s3 mq=>⟨by show 2≤sizeLine;decide,fun p hp=>?_⟩,fun h=>(ke (by rw[l5] at h;rw[o1,h];rfl)).same sq⟩
   rw[l5] at h
   rw[h,Option.bind_some] at o1
   have sp:=Same.new (o:=.tup [.ref q,.int e]) hp
   exact kq _ r o1 p (.ref q) e _ ((sq.trans s3).trans sp) ag ⟨q,_,rfl,sp _ _ (s3 _ _ ag),by rw[JF];exact ax bu (ax bu a_)⟩ mq
  ·rw[if_neg hse] at o1
   have h3:[115,111,109,101,32].isPrefixOf v=false:=by
    cases h:[115,111,109,101,32].isPrefixOf v with
    | false=>rfl
    | true=>exact absurd (.inl h) hse
   have h4:[101,97,99,104,32].isPrefixOf v=false:=by
    cases h:[101,97,99,104,32].isPrefixOf v with
    | false=>rfl
    | true=>exact absurd (.inr h) hse
   refine(JB (c:=false) (H:=H) (fun Qc hQ=>?_) ?_:Hj _ _ _ _ _)
   ·refine⟨_,rfl,rfl,_,rfl,z,_,k,rfl,rfl,_,rfl,?_⟩
    rw[pl.st l3 (by simp),h3]
    refine aG ⟨_,rfl,rfl,_,rfl,z,_,k,rfl,rfl,_,rfl,?_⟩
    rw[pl.st l4 (by simp),h4]
    exact hQ
   exact aG (kn o1 H (Same.refl _))
theorem mr:aY ["text","at","waiting","opening"] ["text","at","waiting"] (au jf):=⟨rfl,rfl,rfl,by decide+kernel,rfl,by decide+kernel,by decide+kernel⟩
theorem Dh {a:dn} {x:gB} (T:Txt K mg a) (TE:TX K mg x):aR P w K mg base (bS P w) 5 a.kP a.lQ ["text","at","waiting"] (xG K x.c4):=by
 have p5:aR P w K mg base (bS P w) 4 a.gI a.h9 ["text","at"] (uK K x.c4):=u6 T TE
 refine T.D'.lM mr (fun vs H Q E h=>?_) (fun cdv A outer s H vs Q E hr h=>?_)
 ·obtain⟨z,k,v,W,ys,w,n,R,rfl,_⟩:=h
  rfl
 ·obtain⟨z,k,v,W,ys,w,n,R,rfl,hz,pl,eW,hw,hn,hl,eR,kq,ke⟩:=h
  have oN:aP 4 _:=hr
  refine⟨_,(ai (aI (i:=3) mr.nd rfl (Or.inl rfl) (av p5 oN rfl T.pG T.pH T.pI .nil bj (ae (pv 0) (ae (pv 1) af))))
  (ai (kx PassesOwn.leaving (aJ GB (pv 3) oU (aN _))
   (ai (dF (cU PySem.F.plainAttrs_list PySem.F.slot_list_append PySem.F.type_list_append cQ (pv 2) (ae (aB (aE K) (pv 3) ah (fun _ _=>rfl)) af)))
   (ai (aI (i:=1) mr.nd rfl (Or.inl rfl) (aB (aE K) (pv 3) ah (fun _ _=>rfl)))
   (aw (aI (i:=3) mr.nd rfl (Or.inl rfl) (av p5 oN rfl T.pG T.pH T.pI .nil bj (ae (pv 0) (ae (pv 1) af))))))))
  (aw (aL (pv 1))))),?_⟩
  have none_of:∀{n:Nat} {v:List Nat} {w:List Hd},run n v w=R→openP v=none→R=none:=fun {n v w} e1 e2=>by
   cases n with
   | zero=>rw[←e1];rfl
   | succ n=>rw[←e1];unfold run;rw[e2]
  refine o6 (t:=nh _ _) (fun σ H'=>∃o:V,σ=[some (.str z),some (.int (k:Nat)),some (.ref W),some o]∧Same H H'∧JC K z v o H') ?re (fun R1 hR=>?_)
  case re=>
   rintro σ H1 ⟨o,rfl,s1,op⟩
   refine qd (fun m σ H'=>∃(k':Nat) (v':List Nat) (w':List Hd) (n':Nat) (ys':List V) (o:V),σ=[some (.str z),some (.int (k':Nat)),some (.ref W),some o]∧KB W H H'∧H' W=some (.lst ys')∧gO K H' ys' w'∧Pl z k' v'∧v'.length<n'∧run n' v' w'=R∧w'.length+v'.length≤w.length+v.length∧v'.length≤v.length∧m=v'.length∧JC K z v' o H')
    ⟨v.length,k,v,w,n,ys,o,rfl,s1.kb,s1 _ _ eW,hw.keep s1.kt s1.kts,pl,hn,eR,Nat.le_refl _,Nat.le_refl _,rfl,op⟩ ?_ ?_
   ·rintro m σ H2 N hN ⟨k',v',w',n',ys',o,rfl,k2,iG,hw2,jV,hn2,xI,hl2,hv2,rfl,op⟩
    refine⟨_,rfl,rfl,_,rfl,?_⟩
    rcases op with⟨rfl,h0⟩ | ⟨p,y,e,h,r,rfl,ep,hy,mq,h0⟩
    ·exact aG ⟨_,rfl,kq k' v' w' n' ys' H2 k2 iG hw2 jV hn2 xI h0 hl2 hv2⟩
    ·have hrl:=Df h0
     obtain⟨n1,rfl⟩:∃n1,n'=n1+1:=⟨n'-1,by omega⟩
     have Di:run n1 r (h::w')=R:=(EK h0).symm.trans xI
     have wl:=hw2.len
     refine bf ⟨_,rfl,.inl ⟨rfl,_,.of iG⟩,_,rfl,p,_,_,_,rfl,rfl,.of ep,aj (j:=0) (v:=y) rfl,W,ys',y,rfl,rfl,iG,Nat.lt_of_le_of_lt (show ys'.length≤200000 by omega) (by decide),?_⟩
     have kt:=eB.lst (o:=.lst (ys'++[y])) iG
     have ks:eJ K H2 (upd H2 W (.lst (ys'++[y]))):=KB.kts iG KB.write
     have j4:(upd H2 W (.lst (ys'++[y]))) W=some (.lst (ys'++[y])):=ag
     have k3:=k2.trans (KB.write (o:=.lst (ys'++[y])))
     have oO:gO K (upd H2 W (.lst (ys'++[y]))) (ys'++[y]) (h::w'):=(hw2.keep kt ks).push (hy.keep kt ks)
     have Mp:=kt _ _ ep
     generalize upd H2 W (.lst (ys'++[y]))=H3 at j4 k3 oO Mp ⊢
     refine⟨_,rfl,p,_,_,_,rfl,rfl,.of Mp,aj (j:=1) (v:=.int e) rfl,?_⟩
     have step:∀(o:V) H4,Same H3 H4→JC K z r o H4→N [some (.str z),some (.int (e:Nat)),some (.ref W),some o] H4:=fun o H4 s4 SG=>
      hN _ _ r.length hrl ⟨e,r,h::w',n1,ys'++[y],o,rfl,k3.trans s4.kb,s4 _ _ j4,oO.keep s4.kt s4.kts,mq,by omega,Di,by rw[List.length_cons];omega,by omega,rfl,SG⟩
     refine⟨_,rfl,_,rfl,z,e,r,rfl,hz,mq,fun h1 H4 s4=>step _ _ s4 (.inl ⟨rfl,h1⟩),fun h' r' h1 p' y' e' H4 s4 SH JG Nw=>step _ _ s4 (.inr ⟨p',y',e',h',r',rfl,SH,JG,Nw,h1⟩),fun h1=>(ke (none_of Di h1)).rz k3⟩
   ·rintro σ H2 Q1 Q2 hm ⟨a1,e1,e2,b,e3,q⟩
    exact⟨a1,e1,e2,b,e3,hm _ _ q⟩
  refine⟨_,rfl,_,rfl,z,k,v,rfl,hz,pl,fun h1 H1 s1=>hR _ _ ⟨_,rfl,s1,.inl ⟨rfl,h1⟩⟩,fun h r h1 p y e H1 s1 ep hy mq=>hR _ _ ⟨_,rfl,s1,.inr ⟨p,y,e,h,r,rfl,ep,hy,mq,h1⟩⟩,fun h1=>(ke (none_of eR h1)).rz (KB.refl _ _)⟩
theorem jW:aY ["text","at","waiting","saying","head","word"] ["text","at","waiting","saying"] (au jg):=⟨rfl,rfl,rfl,by decide+kernel,rfl,by decide+kernel,by decide+kernel⟩
theorem Dj {a:dn} {x:gB} (T:Txt K mg a) (TE:TX K mg x):aR P w K mg base (bS P w) 4 a.kQ a.lR ["text","at","waiting","saying"] (xH K x.c4):=by
 have i3:aR P w K mg base (bS P w) 3 a.j6 a.jQ ["text","at","piece"] (qo x.c4):=pY T TE
 refine T.Ed.lM jW (fun vs H Q E h=>?_) (fun cdv A outer s H vs Q E hr h=>?_)
 ·obtain⟨z,k,v,W,y,f,ys,w,rfl,_⟩:=h
  rfl
 ·obtain⟨z,k,v,W,y,f,ys,w,rfl,hz,pl,eW,hw,hl,hy,kq,kn,ke⟩:=h
  have gN:aP 3 _:=hr
  refine⟨_,(ai (kx PassesOwn.leaving (cI (pv 2) (fun _=>rfl))
   (ai (aI (i:=4) jW.nd rfl (Or.inl rfl) (oX PySem.F.plainAttrs_list PySem.F.slot_list_pop PySem.F.type_list_pop rC (pv 2)))
   (ai (bw (aJ cb (aB (aE K) (pv 4) ah (fun _ _=>rfl)) ay (aN _))
    (ai (aI (i:=5) jW.nd rfl (Or.inl rfl) (ng (cI (cU PySem.F.plainAttrs_str PySem.F.slot_str_startswith PySem.F.type_str_startswith fK (pv 0) (ae ay (ae (pv 1) af))) (fun _=>rfl)) ay ay))
    (ai (dF (cU PySem.F.plainAttrs_list PySem.F.slot_list_append PySem.F.type_list_append cQ (pv 2) (ae (aX (ae (pv 5) (ae (pv 3) af))) af)))
    (aw (aL (aX (ae oU (ae (av i3 gN rfl T.nR T.nS T.nT .nil bj (ae (pv 0) (ae (pv 1) (ae (ki (f_ (eV (pv 5) (f_ mU)))) af)))) af)))))))
    aS)
   (ai (bw (aJ (mQ K) (aB (aE K) (pv 4) ah (fun _ _=>rfl)) (aX (ae ay (ae ay af))) (by with_unfolding_all rfl))
    (aw (aI (i:=1) jW.nd rfl (Or.inl rfl) (av i3 gN rfl T.nR T.nS T.nT .nil bj (ae (pv 0) (ae (pv 1) (ae ay af))))))
    aS)
   (aw (aI (i:=3) jW.nd rfl (Or.inl rfl) (aD (GZ K) (pv 4) (aX (ae (pv 3) af)))))))))
  (aw (aL (aX (ae (pv 3) (ae (pv 1) af)))))),?_⟩
  obtain⟨l1,l2,l3,l4,l5,l6,l7⟩:=lits
  refine qd (fun m σ H'=>∃(k':Nat) (v':List Nat) (w':List Hd) (ys':List V) (y':V) (f':ao) (v4 v5:Option V),σ=[some (.str z),some (.int (k':Nat)),some (.ref W),some y',v4,v5]∧KB W H H'∧H' W=some (.lst ys')∧gO K H' ys' w'∧Pl z k' v'∧w'.length≤200000∧m=w'.length∧aq K H' y' f'.dt∧bt v' w' f'=bt v w f)
   ⟨w.length,k,v,w,ys,y,f,none,none,rfl,KB.refl _ _,eW,hw,pl,hl,rfl,hy,rfl⟩ ?_ ?_
  ·rintro m σ H2 N hN ⟨k',v',w',ys',y',f',v4,v5,rfl,k2,iG,hw2,jV,hl2,rfl,hy2,sF⟩
   refine⟨_,rfl,_,.inl ⟨_,.of iG,rfl⟩,?_⟩
   cases w' with
   | nil=>
    have:ys'=[]:=List.length_eq_zero_iff.mp (by rw[hw2.len];rfl)
    subst this
    refine aG ⟨_,rfl,_,rfl,by show 2≤sizeLine;decide,fun p hp=>?_⟩
    have sp:=Same.new (o:=.tup [y',.int (k':Nat)]) hp
    exact kq f' v' [] sF.symm p y' k' [] _ (k2.trans sp.kb) ag (aA sp.kts _ _ f'.bb hy2) jV (sp _ _ iG)
   | cons h w'=>
   obtain⟨fc,hd0,rfl,oO,hhd⟩:=hw2.pop
   obtain⟨p,xs,rfl,ep,hd⟩:=hhd
   rw[show(!(fc++[V.ref p]).isEmpty)=true by cases fc<;>rfl]
   refine bf ⟨_,rfl,.inl ⟨rfl,_,.of iG⟩,W,_,.ref p,rfl,rfl,iG,by simp,?_⟩
   rw[List.dropLast_concat]
   have kt:=eB.lst (o:=.lst fc) iG
   have ks:eJ K H2 (upd H2 W (.lst fc)):=KB.kts iG KB.write
   have j4:(upd H2 W (.lst fc)) W=some (.lst fc):=ag
   have k3:=k2.trans (KB.write (o:=.lst fc))
   have oO:=oO.keep kt ks
   have ep:=kt _ _ ep
   have hd:=cg ks _ _ (xF h) hd
   have FU:=aA ks _ _ f'.bb hy2
   have yl:=oO.len
   rw[List.length_cons] at hl2
   generalize upd H2 W (.lst fc)=H3 at kt ks j4 k3 oO ep hd FU ⊢
   have cat:∀{v5:Option V} {k1:Nat} {v1:List Nat} {H4:Hp} {D:Ends} (g:ao),Same H3 H4→g.dt=.tup (hdD h++[f'.dt])→D.nx=N→Pl z k1 v1→bt v1 w' g=bt v w f→
     nh (vD (Fv K) (mw 4) (DB (h8 (mw 3) iM))) (iJ 3) D [some (.str z),some (.int (k1:Nat)),some (.ref W),some y',some (.ref p),v5] H4:=fun {v5 k1 v1 H4 D} g s4 eg eN sy ec=>by
    refine⟨_,rfl,_,rfl,by show 1≤sizeLine;decide,fun q hq=>?_⟩
    have sq:=s4.trans (Same.new (o:=.tup [y']) hq)
    refine⟨p,q,xs,[y'],rfl,rfl,sq _ _ ep,ag,?_,fun u H5 s5 eu=>?_⟩
    ·rw[hd.length];have:=JA h;exact Nat.le_trans (show(hdD h).length+1≤3 by omega) (by decide)
    show D.nx _ _
    rw[eN]
    have zW:=sq.trans s5
    refine hN _ _ w'.length (by simp) ⟨k1,v1,w',fc,.ref u,g,some (.ref p),v5,rfl,k3.trans zW.kb,zW _ _ j4,oO.keep zW.kt zW.kts,sy,by omega,rfl,?_,ec⟩
    rw[eg]
    exact bP (.of eu) (nH (cg zW.kts _ _ (xF h) hd) (ax (aA zW.kts _ _ f'.bb FU) a_))
   cases h with
   | par=>
    refine⟨_,rfl,p,xs,_,_,rfl,rfl,.of ep,aj (j:=0) (bg hd (i:=0) rfl),rfl,_,rfl,bf ?_⟩
    refine⟨_,rfl,rfl,_,rfl,z,_,k',rfl,rfl,_,rfl,?_⟩
    rw[jV.st l7 (by simp)]
    cases ho:[32,111,114,32].isPrefixOf v' with
    | true=>
     refine bf ?_
     refine⟨_,rfl,.inl ⟨rfl,_,.of j4⟩,_,rfl,_,rfl,by show 2≤sizeLine;decide,fun q hq=>⟨W,fc,.ref q,rfl,rfl,(Same.new hq) _ _ j4,Nat.lt_of_le_of_lt (show fc.length≤200000 by omega) (by decide),?_⟩⟩
     have sq:=Same.new (o:=.tup [.str (Str.ofString "or"),y']) hq
     have pP:=sq _ _ j4
     have Dk:=eB.lst (o:=.lst (fc++[.ref q])) pP
     have Dl:eJ K _ (upd (upd H3 q (.tup [.str (Str.ofString "or"),y'])) W (.lst (fc++[.ref q]))):=KB.kts pP KB.write
     have k4:=(k3.trans sq.kb).trans (KB.write (o:=.lst (fc++[.ref q])))
     have xJ:gO K (upd (upd H3 q (.tup [.str (Str.ofString "or"),y'])) W (.lst (fc++[.ref q]))) (fc++[.ref q]) (.or f'::w'):=((oO.keep sq.kt sq.kts).keep Dk Dl).push ⟨q,_,rfl,Dk _ _ ag,ax bu (ax (aA Dl _ _ f'.bb (aA sq.kts _ _ f'.bb FU)) a_)⟩
     have lu:(upd (upd H3 q (.tup [.str (Str.ofString "or"),y'])) W (.lst (fc++[.ref q]))) W=some (.lst (fc++[.ref q])):=ag
     generalize upd (upd H3 q (.tup [.str (Str.ofString "or"),y'])) W (.lst (fc++[.ref q]))=H5 at k4 xJ lu ⊢
     have ct:az (Str.empty++Str.ofString " "++Str.ofString "or"++Str.ofString " ")=[32,111,114,32]:=by decide+kernel
     refine⟨_,rfl,_,rfl,by decide+kernel,_,rfl,.inr ⟨_,rfl,by decide+kernel,by decide+kernel,by decide+kernel,z,_,k',v',rfl,by decide+kernel,by decide+kernel,jV,fun r hr1 e H6 s6 mq=>⟨by show 2≤sizeLine;decide,fun pt hpt=>?_⟩,fun hr1=>(ke ?_).rz k4⟩⟩
     ·rw[ct] at hr1
      have st:=s6.trans (Same.new (o:=.tup [.non,.int e]) hpt)
      refine kn r (.or f'::w') ?_ pt e _ _ (k4.trans st.kb) ag (st _ _ lu) (xJ.keep st.kt st.kts) mq
      rw[←sF]
      unfold bt
      have:r=v'.drop 4:=(Option.some.inj ((if_pos ho:cK [32,111,114,32] v'=some (v'.drop 4)).symm.trans hr1)).symm
      rw[if_pos ho,this]
     ·rw[ct] at hr1
      rw[show cK [32,111,114,32] v'=some (v'.drop 4) from if_pos ho] at hr1
      cases hr1
    | false=>
     refine aG ?_
     refine⟨_,rfl,.inl ⟨rfl,_,.of j4⟩,_,rfl,_,rfl,by show 2≤sizeLine;decide,fun q hq=>⟨W,fc,.ref q,rfl,rfl,(Same.new hq) _ _ j4,Nat.lt_of_le_of_lt (show fc.length≤200000 by omega) (by decide),?_⟩⟩
     have sq:=Same.new (o:=.tup [.str (Str.ofString "and"),y']) hq
     have pP:=sq _ _ j4
     have Dk:=eB.lst (o:=.lst (fc++[.ref q])) pP
     have Dl:eJ K _ (upd (upd H3 q (.tup [.str (Str.ofString "and"),y'])) W (.lst (fc++[.ref q]))):=KB.kts pP KB.write
     have k4:=(k3.trans sq.kb).trans (KB.write (o:=.lst (fc++[.ref q])))
     have xJ:gO K (upd (upd H3 q (.tup [.str (Str.ofString "and"),y'])) W (.lst (fc++[.ref q]))) (fc++[.ref q]) (.and f'::w'):=((oO.keep sq.kt sq.kts).keep Dk Dl).push ⟨q,_,rfl,Dk _ _ ag,ax bu (ax (aA Dl _ _ f'.bb (aA sq.kts _ _ f'.bb FU)) a_)⟩
     have lu:(upd (upd H3 q (.tup [.str (Str.ofString "and"),y'])) W (.lst (fc++[.ref q]))) W=some (.lst (fc++[.ref q])):=ag
     generalize upd (upd H3 q (.tup [.str (Str.ofString "and"),y'])) W (.lst (fc++[.ref q]))=H5 at k4 xJ lu ⊢
     have ct:az (Str.empty++Str.ofString " "++Str.ofString "and"++Str.ofString " ")=[32,97,110,100,32]:=by decide+kernel
     refine⟨_,rfl,_,rfl,by decide+kernel,_,rfl,.inr ⟨_,rfl,by decide+kernel,by decide+kernel,by decide+kernel,z,_,k',v',rfl,by decide+kernel,by decide+kernel,jV,fun r hr1 e H6 s6 mq=>⟨by show 2≤sizeLine;decide,fun pt hpt=>?_⟩,fun hr1=>(ke ?_).rz k4⟩⟩
     ·rw[ct] at hr1
      have st:=s6.trans (Same.new (o:=.tup [.non,.int e]) hpt)
      refine kn r (.and f'::w') ?_ pt e _ _ (k4.trans st.kb) ag (st _ _ lu) (xJ.keep st.kt st.kts) mq
      rw[←sF]
      unfold bt
      rw[if_neg (by rw[ho];decide),hr1];rfl
     ·rw[ct] at hr1
      rw[←sF]
      unfold bt
      rw[if_neg (by rw[ho];decide),hr1];rfl
   | no=>
    have m_:bt v' w' (.no f')=bt v w f:=sF
    refine⟨_,rfl,p,xs,_,_,rfl,rfl,.of ep,aj (j:=0) (bg hd (i:=0) rfl),rfl,_,rfl,aG ?_⟩
    refine⟨_,rfl,p,xs,_,_,rfl,rfl,.of ep,aj (j:=0) (bg hd (i:=0) rfl),by show 2≤sizeLine;decide,fun t1 ht1=>⟨t1,_,rfl,.inr (.of ag),rfl,rfl,_,rfl,aG ?_⟩⟩
    have st:=Same.new (o:=.tup [.str (Str.ofString "and"),.str (Str.ofString "or")]) ht1
    refine cat (.no f') st rfl rfl jV m_
   | some n=>
    have m_:bt v' w' (.some n f')=bt v w f:=sF
    refine⟨_,rfl,p,xs,_,_,rfl,rfl,.of ep,aj (j:=0) (bg hd (i:=0) rfl),rfl,_,rfl,aG ?_⟩
    refine⟨_,rfl,p,xs,_,_,rfl,rfl,.of ep,aj (j:=0) (bg hd (i:=0) rfl),by show 2≤sizeLine;decide,fun t1 ht1=>⟨t1,_,rfl,.inr (.of ag),rfl,rfl,_,rfl,aG ?_⟩⟩
    have st:=Same.new (o:=.tup [.str (Str.ofString "and"),.str (Str.ofString "or")]) ht1
    refine cat (.some n f') st rfl rfl jV m_
   | each n=>
    have m_:bt v' w' (.each n f')=bt v w f:=sF
    refine⟨_,rfl,p,xs,_,_,rfl,rfl,.of ep,aj (j:=0) (bg hd (i:=0) rfl),rfl,_,rfl,aG ?_⟩
    refine⟨_,rfl,p,xs,_,_,rfl,rfl,.of ep,aj (j:=0) (bg hd (i:=0) rfl),by show 2≤sizeLine;decide,fun t1 ht1=>⟨t1,_,rfl,.inr (.of ag),rfl,rfl,_,rfl,aG ?_⟩⟩
    have st:=Same.new (o:=.tup [.str (Str.ofString "and"),.str (Str.ofString "or")]) ht1
    refine cat (.each n f') st rfl rfl jV m_
   | and g=>
    have m_:bt v w f=(cK [41] v').bind fun r=>bt r w' (.and g f'):=sF.symm
    refine⟨_,rfl,p,xs,_,_,rfl,rfl,.of ep,aj (j:=0) (bg hd (i:=0) rfl),rfl,_,rfl,aG ?_⟩
    refine⟨_,rfl,p,xs,_,_,rfl,rfl,.of ep,aj (j:=0) (bg hd (i:=0) rfl),by show 2≤sizeLine;decide,fun t1 ht1=>⟨t1,_,rfl,.inr (.of ag),rfl,rfl,_,rfl,bf ?_⟩⟩
    have st:=Same.new (o:=.tup [.str (Str.ofString "and"),.str (Str.ofString "or")]) ht1
    refine⟨_,rfl,_,rfl,z,_,k',v',rfl,by decide+kernel,by decide+kernel,jV,fun r hr1 e H5 s5 mq=>?_,fun hr1=>(ke (by rw[l6] at hr1;rw[m_,hr1];rfl)).rz (k3.trans st.kb)⟩
    rw[l6] at hr1
    rw[hr1,Option.bind_some] at m_
    exact cat (.and g f') (st.trans s5) rfl rfl mq m_.symm
   | or g=>
    have m_:bt v w f=(cK [41] v').bind fun r=>bt r w' (.or g f'):=sF.symm
    refine⟨_,rfl,p,xs,_,_,rfl,rfl,.of ep,aj (j:=0) (bg hd (i:=0) rfl),rfl,_,rfl,aG ?_⟩
    refine⟨_,rfl,p,xs,_,_,rfl,rfl,.of ep,aj (j:=0) (bg hd (i:=0) rfl),by show 2≤sizeLine;decide,fun t1 ht1=>⟨t1,_,rfl,.inr (.of ag),rfl,rfl,_,rfl,bf ?_⟩⟩
    have st:=Same.new (o:=.tup [.str (Str.ofString "and"),.str (Str.ofString "or")]) ht1
    refine⟨_,rfl,_,rfl,z,_,k',v',rfl,by decide+kernel,by decide+kernel,jV,fun r hr1 e H5 s5 mq=>?_,fun hr1=>(ke (by rw[l6] at hr1;rw[m_,hr1];rfl)).rz (k3.trans st.kb)⟩
    rw[l6] at hr1
    rw[hr1,Option.bind_some] at m_
    exact cat (.or g f') (st.trans s5) rfl rfl mq m_.symm
  ·rintro σ H2 Q1 Q2 hm ⟨a1,e1,b,e2,q⟩
   exact⟨a1,e1,b,e2,hm _ _ q⟩
theorem fG:aY ["text","waiting","told","atom"] ["text"] (au eQ):=⟨rfl,rfl,rfl,by decide+kernel,rfl,by decide+kernel,by decide+kernel⟩
theorem tP {a:dn} {x:gB} (T:Txt K mg a) (TE:TX K mg x):aR P w K mg base (bS P w) 10 a.gf a.gX ["text"] (p4 K x.c4):=by
 have Dm:aR P w K mg base (bS P w) 9 a.jR a.j7 ["text","at"] (qp K x.c4 gD):=Bi T TE
 have EM:aR P w K mg base (bS P w) 5 a.kP a.lQ ["text","at","waiting"] (xG K x.c4):=Dh T TE
 have EN:aR P w K mg base (bS P w) 4 a.kQ a.lR ["text","at","waiting","saying"] (xH K x.c4):=Dj T TE
 refine T.u_.lM fG (fun vs H Q E h=>?_) (fun cdv A outer s H vs Q E hr h=>?_)
 ·obtain⟨z,rfl,_⟩:=h
  rfl
 ·obtain⟨z,rfl,hz,kq,ke⟩:=h
  have Bl:aP 9 _:=hr
  have Dn:aP 5 _:=hr.mono (by decide)
  have Dq:aP 4 _:=hr.mono (by decide)
  have n4:aP 2 _:=hr.mono (by decide)
  refine⟨_,(ai (aI (i:=1) fG.nd rfl (Or.inl rfl) (cx af))
  (ai (aI (i:=2) fG.nd rfl (Or.inl rfl) (aX (ae oU (ae ah af))))
  (ai (kx PassesOwn.leaving (aJ Hr (aB (aE K) (pv 2) ah (fun _ _=>rfl)) oU (aN _))
   (ai (aI (i:=3) fG.nd rfl (Or.inl rfl) (av Dm Bl rfl T.CB T.CD T.CF .nil bj (ae (pv 0) (ae (av EM Dn rfl T.Ea T.Eb T.Ec .nil bj (ae (pv 0) (ae (aB (aE K) (pv 2) ah (fun _ _=>rfl)) (ae (pv 1) af)))) af))))
   (aw (aI (i:=2) fG.nd rfl (Or.inl rfl) (av EN Dq rfl T.Ee T.k_closed T.Ef .nil bj (ae (pv 0) (ae (aB (aE K) (pv 3) ah (fun _ _=>rfl)) (ae (pv 1) (ae (aB (aE K) (pv 3) ah (fun _ _=>rfl)) af)))))))))
  (ai (bw (aJ nj (aB (aE K) (pv 2) ah (fun _ _=>rfl)) (bz (bJ K) (by rfl) T.dm cz (ae (pv 0) af)) (aN _))
   (aw (rM hr.hd TE.x4 jP (o5 TE.x4 TE.M4 (r_ TE) n4 (by rfl) TE.m4 TE.b4)))
   aS)
  (aw (aL (aB (aE K) (pv 2) ah (fun _ _=>rfl)))))))),?_⟩
  have zl:z.length≤sizeLine:=Nat.le_trans hz.1.2 (by decide)
  refine⟨by decide,fun W hW=>⟨by show 2≤sizeLine;decide,fun p0 hp0=>?_⟩⟩
  have sW:=Same.new (o:=.lst []) hW
  have eW:(upd H W (.lst [])) W=some (.lst []):=ag
  generalize upd H W (.lst [])=H0 at sW eW hp0 ⊢
  have s0:=Same.new (o:=.tup [.non,.int 0]) hp0
  have e0:(upd H0 p0 (.tup [.non,.int 0])) p0=some (.tup [.non,.int 0]):=ag
  generalize upd H0 p0 (.tup [.non,.int 0])=H1 at s0 e0 ⊢
  obtain⟨R,eR⟩:∃R,run ((az z).length+1) (az z) []=R:=⟨_,rfl⟩
  have JH:qk z=JD R:=by rw[←eR];unfold qk JD;rfl
  have rn:R=none→∀H',Same H H'→De x.c4 W H' E:=fun e H' s' H2 a k2 ea=>ke (by rw[JH,e];rfl) H2 a (s'.kbn hW k2) ea
  have lz:=bE z
  refine qd (fun m σ H'=>∃(pt:Addr) (o:V) (e:Nat) (v3:Option V) (ys:List V),σ=[some (.str z),some (.ref W),some (.ref pt),v3]∧Same H H'∧H' W=some (.lst ys)∧H' pt=some (.tup [o,.int e])∧
    ((∃v w n,o=.non∧gO K H' ys w∧Pl z e v∧v.length<n∧run n v w=R∧w.length+v.length≤100000∧m=v.length+1)∨∃g r,aq K H' o g.dt∧Pl z e r∧R=some (g,r)∧m=0))
   ⟨(az z).length+1,p0,.non,0,none,[],rfl,sW.trans s0,s0 _ _ eW,e0,.inl ⟨az z,[],_,rfl,.nil,⟨Nat.zero_le _,rfl⟩,Nat.lt_succ_self _,eR,by have:=hz.1.2;rw[List.length_nil,←lz];omega,rfl⟩⟩ ?_ ?_
  ·rintro m σ H2 N hN ⟨pt,o,e,v3,ys,rfl,s2,iG,FV,st⟩
   refine⟨_,rfl,pt,_,_,_,rfl,rfl,.of FV,aj (j:=0) (v:=o) rfl,rfl,_,rfl,?_⟩
   rcases st with⟨v,w,n,rfl,hw,pl,hn,xI,hl,rfl⟩ | ⟨g,r,hg,pl,xI,rfl⟩
   ·refine bf ⟨_,rfl,_,rfl,_,rfl,pt,_,_,_,rfl,rfl,.of FV,aj (j:=1) (v:=.int e) rfl,_,rfl,z,e,v,W,ys,w,n,R,rfl,hz,pl,iG,hw,hn,by omega,xI,fun e1 v1 w1 n1 ys1 H3 k3 j4 oO mm VE Di ho hl3 VF=>?_,fun e=>rn e H2 s2⟩
    obtain⟨n2,rfl⟩:∃n2,n1=n2+1:=⟨n1-1,by omega⟩
    have s3:=s2.kbn hW k3
    refine⟨z,e1,v1,rfl,hz,mm,fun f v2 h1 pa ya e2 H4 s4 Mq SJ Jz=>?_,fun h1=>(rn (Di.symm.trans (Dg ho h1)) H3 s3).rz (KB.refl _ _)⟩
    have FW:=Di.symm.trans (EL ho h1)
    unfold cont at FW
    have VG:v2.length<v1.length:=by
     obtain⟨_,ev⟩:=yI h1
     have h3:=fW f
     have h4:1≤f.nodes:=by cases f<;>simp[ao.nodes]
     rw[ev,List.length_append];omega
    have uI:=s3.trans s4
    have pP:=s4 _ _ j4
    have xJ:=oO.keep s4.kt s4.kts
    refine⟨_,rfl,_,rfl,pa,_,_,_,rfl,rfl,.of Mq,aj (j:=1) (v:=.int e2) rfl,_,rfl,_,rfl,pa,_,_,_,rfl,rfl,.of Mq,aj (j:=0) (v:=ya) rfl,z,e2,v2,W,ya,f,ys1,w1,rfl,hz,Jz,pP,xJ,by omega,SJ,fun g r w' h2 p y e3 ys2 H5 k5 ep dy qC lu=>?_,fun r w' h2 p e3 ys2 H5 k5 ep lu SK qC=>?_,fun h2=>rn (by rw[FW,h2]) H4 uI⟩
    ·exact hN _ _ 0 (Nat.succ_pos _) ⟨p,y,e3,_,ys2,rfl,uI.kbn hW k5,lu,ep,.inr ⟨g,r,dy,qC,by rw[FW,h2],rfl⟩⟩
    ·have cl:=g6 h2
     exact hN _ _ (r.length+1) (by omega) ⟨p,.non,e3,_,ys2,rfl,uI.kbn hW k5,lu,ep,.inl ⟨r,w',n2,rfl,SK,qC,by omega,by rw[FW,h2],by omega,rfl⟩⟩
   ·obtain⟨q,xs,rfl,_⟩:∃q xs,o=.ref q∧bY K H2 q xs:=by
     cases g<;>(obtain⟨q,xs,e,h,_⟩:=dJ hg;exact⟨q,xs,e,h⟩)
    refine aG ⟨_,rfl,pt,_,_,_,rfl,rfl,.of FV,aj (j:=1) (v:=.int e) rfl,_,rfl,_,z.length,rfl,⟨zl,rfl⟩,rfl,_,rfl,?_⟩
    have lr:r.length=z.length-e:=by rw[←pl.2,List.length_drop,←lz]
    by_cases he:e=z.length
    ·rw[dI (show((e:Nat):Int)=((z.length:Nat):Int) by rw[he])]
     have:r=[]:=List.length_eq_zero_iff.mp (by omega)
     subst this
     exact aG ⟨_,rfl,pt,_,_,_,rfl,rfl,.of FV,aj (j:=0) (v:=.ref q) rfl,kq g (by rw[JH,xI];rfl) _ _ s2 hg⟩
    ·rw[B7 (show ¬((e:Nat):Int)=((z.length:Nat):Int) by omega)]
     refine bf (fQ TE ((ke ?_).same s2))
     rw[JH,xI]
     cases r with
     | nil=>have:=pl.1;simp at lr;omega
     | cons c r=>rfl
  ·rintro σ H2 Q1 Q2 hm ⟨a1,e1,a2,a3,a4,a5,e2,e3,e4,e5,e6,b,e7,q⟩
   exact⟨a1,e1,a2,a3,a4,a5,e2,e3,e4,e5,e6,b,e7,hm _ _ q⟩
def yT (K:PySem.W.Frag):Sp:=fun vs H Q _=>∃(x:V) (t:Term),vs=[x]∧aq K H x t.dt∧dH t∧∀H',Same H H'→Q (.str (txt (aQ t))) H'
def qq (K:PySem.W.Frag) (n:Nat):Sp:=fun vs H Q _=>∃(x:V) (f:ao),vs=[x]∧aq K H x f.dt∧f.dw∧f.deep<n∧(ak f).length≤100000∧∀H',Same H H'→Q (.str (txt (ak f))) H'
theorem strs_nil (l:List Str):Dt.beq (.lst (l.map Dt.str)) (.lst [])=decide (l=[]):=by
 rw[Dt.beq];exact pK l []
theorem g7:aY ["_law_term_here","_law_words","_law_name","_law_times"] ["_law_term_here"] (au eS):=⟨rfl,rfl,rfl,by decide+kernel,rfl,by decide+kernel,by decide+kernel⟩
theorem m3 {a:dn} (T:Txt K mg a):aR P w K mg base cX 1 a.ia a.jl ["_law_term_here"] (yT K):=by
 refine T.u0.ok g7 (fun vs H Q E h=>?_) (fun cdv A outer s H vs Q E hr h=>?_)
 ·obtain⟨x,t,rfl,_⟩:=h
  rfl
 ·obtain⟨x,t,rfl,hx,⟨ok,hl⟩,k⟩:=h
  obtain⟨q,b,ys,rfl,hq,hb,hy⟩:=xb hx
  refine⟨_,(ai (aI (i:=1) g7.nd rfl (Or.inl rfl) (cx af))
  (ai (iK PassesOwn.never rfl (vz (aB (aE K) (pv 0) ah (fun _ _=>rfl))) (vw rfl (i9 (cf (i:=2) g7.nd rfl (Or.inl rfl)) (i9 (cf (i:=3) g7.nd rfl (Or.inl rfl)) sN)))
   (aw (dF (cU PySem.F.plainAttrs_list PySem.F.slot_list_append PySem.F.type_list_append cQ (pv 1) (ae (aD aO (aB (bH K) (cx (ae ay (ae (cL iL (by rfl) T.rZ oZ (ae (pv 3) af)) af))) (cL lK (by rfl) T.nU kC (ae (gg nq (pv 3) ah (aN _)) af)) (fun _ _=>rfl)) (pv 2)) af)))))
  (ai (bw (PW.pt (gC (aJ nq (aB (aE K) (pv 0) ah (fun _ _=>rfl)) ah (aN _)) (gE (aJ (B6 K hr.units) (pv 1) (cx af) (aN _)))))
   (aw (dF (cU PySem.F.plainAttrs_list PySem.F.slot_list_append PySem.F.type_list_append cQ (pv 1) (ae (cL iL (by rfl) T.rZ oZ (ae (aB (aE K) (pv 0) ah (fun _ _=>rfl)) af)) af))))
   aS)
  (aw (aL (cU PySem.F.plainAttrs_str PySem.F.slot_str_join PySem.F.type_str_join (qI K) ay (ae (pv 1) af))))))),?_⟩
  have ly:ys.length=t.parts.length:=by rw[hy.length,List.length_map]
  obtain⟨n,en⟩:∃n:Nat,t.num=(n:Int):=⟨t.num.toNat,by have:=ok.1;omega⟩
  have hn:n<100:=by have:=ok.1;omega
  refine⟨by decide,fun C hC=>?_⟩
  have sC:=Same.new (o:=.lst []) hC
  have eC:(upd H C (.lst [])) C=some (.lst []):=ag
  generalize upd H C (.lst [])=H0 at sC eC ⊢
  refine⟨_,rfl,q,_,_,_,rfl,rfl,sC.dr hq,aj (j:=1) (v:=.ref b) rfl,b,rfl,⟨_,sC.dr hb⟩,GA (xs:=ys) (fun i σ H'=>∃v2 v3:Option V,σ=[some (.ref q),some (.ref C),v2,v3]∧Same H H'∧H' C=some (.lst (((t.parts.take i).map fun p=>txt (bo p)).map V.str)))
   ⟨none,none,rfl,sC,eC⟩ (fun i σ H' _ ⟨_,_,_,h,_⟩=>h.dr hb) ?_ ?_⟩
  ·rintro i y σ H1 hy1 ⟨v2,v3,rfl,s1,sG⟩
   obtain⟨d,ed,hd⟩:=hy.get hy1
   rw[List.getElem?_map] at ed
   cases ep:t.parts[i]? with
   | none=>rw[ep] at ed;cases ed
   | some p=>
    rw[ep] at ed
    obtain rfl:eZ p=d:=Option.some.inj ed
    obtain⟨pa,rfl,hp⟩:=xa hd
    obtain⟨n1,n2,n3⟩:=ok.2.2 p (List.mem_of_getElem? ep)
    have nl:=(bR n1).2.1
    obtain⟨m,em⟩:∃m:Nat,p.2=(m:Int):=⟨p.2.toNat,by omega⟩
    have hm:m<10:=by omega
    refine⟨pa,_,rfl,s1.dr hp,rfl,_,_,rfl,_,_,rfl,rfl,?_⟩
    refine⟨_,rfl,.inl ⟨rfl,_,.of sG⟩,_,rfl,_,rfl,by rw[em];exact qi hm,by show 2≤sizeLine;decide,fun L hL=>?_⟩
    have sL:=Same.new (o:=.lst [.str (Str.ofString ""),.str (Str.ofString (toString p.2))]) hL
    refine⟨_,rfl,_,_,rfl,rfl,.inr ⟨_,rfl,?_⟩⟩
    have eP:txt (bo p)=(if 1<p.2 then Str.ofString (toString p.2) else Str.ofString "")++p.1:=by
     refine bD ?_
     show az _=az _
     rw[aK,aZ]
     unfold bo
     by_cases h1:1<p.2
     ·rw[if_pos h1,if_neg (by omega),em,mX hm];rfl
     ·rw[if_neg h1,if_pos (by omega),show az (Str.ofString "")=[] by decide+kernel]
    have fin:∀Hx,Same H1 Hx→∃v2 v3:Option V,[some (V.ref q),some (V.ref C),some (V.str p.1),some (V.int p.2)]=[some (.ref q),some (.ref C),v2,v3]∧Same H (upd Hx C (.lst (((t.parts.take i).map fun p=>txt (bo p)).map V.str++[.str (txt (bo p))])))∧(upd Hx C (.lst (((t.parts.take i).map fun p=>txt (bo p)).map V.str++[.str (txt (bo p))]))) C=some (.lst (((t.parts.take (i+1)).map fun p=>txt (bo p)).map V.str)):=fun Hx sx=>by
     refine⟨_,_,rfl,(s1.trans sx).kbn hC KB.write,?_⟩
     rw[ag,List.take_add_one,ep,List.map_append,List.map_append];rfl
    have ll:(((t.parts.take i).map fun p=>txt (bo p)).map V.str).length<sizeLine:=by rw[List.length_map,List.length_map,List.length_take];exact Nat.lt_of_le_of_lt (show min i t.parts.length≤3 by omega) (by decide)
    by_cases h1:1<p.2
    ·rw[decide_eq_true h1]
     rw[if_pos h1] at eP
     refine⟨L,_,_,.str (Str.ofString (toString p.2)),rfl,rfl,.of ag,aj (j:=1) rfl,_,rfl,_,_,rfl,rfl,?_,C,_,_,rfl,rfl,sL _ _ sG,ll,?_⟩
     ·rw[em,qj hm];exact Nat.le_trans (show 1+p.1.length≤4 by omega) (by decide)
     ·rw[←eP];exact fin _ sL
    ·rw[decide_eq_false h1]
     rw[if_neg h1] at eP
     refine⟨L,_,_,.str (Str.ofString ""),rfl,rfl,.of ag,aj (j:=0) rfl,_,rfl,_,_,rfl,rfl,?_,C,_,_,rfl,rfl,sL _ _ sG,ll,?_⟩
     ·rw[show(Str.ofString "").length=0 by decide+kernel];exact Nat.le_trans (show 0+p.1.length≤4 by omega) (by decide)
     ·rw[←eP];exact fin _ sL
  rintro σ H1 ⟨v2,v3,rfl,s1,sG⟩
  rw[ly,List.take_length] at sG
  have fin:∀H',Same H H'→H' C=some (.lst (((bB t).map txt).map V.str))→rJoin K (.str (Str.ofString "+")) [.ref C] H' Q:=fun H' s' e'=>by
   refine⟨Str.ofString "+",C,(bB t).map txt,rfl,rfl,.of e',?_,fun z hz ez=>?_⟩
   ·have h1:(Str.ofString "+").length=1:=by decide+kernel
    have h3:((bB t).map txt).length≤4:=by
     rw[List.length_map]
     unfold bB
     rw[List.length_append,List.length_map]
     split
     ·simp;omega
     ·simp;omega
    have h2:=wL (l:=(bB t).map txt) (k:=4) (n:=4) (fun x hx=>by
     obtain⟨l,hl,rfl⟩:=List.mem_map.mp hx
     rw[aH]
     unfold bB at hl
     rcases List.mem_append.mp hl with h | h
     ·obtain⟨p,hp,rfl⟩:=List.mem_map.mp h
      exact me (ok.2.2 p hp)
     ·split at h
      ·rw[List.mem_singleton.mp h];exact Nat.le_trans kZ.1 (by decide)
      ·cases h) h3
    rw[h1]
    omega
   ·have:z=txt (aQ t):=by
     refine bD ?_
     show az z=az _
     rw[ez,aK,C6,List.map_map]
     unfold aQ
     congr 1
     rw[show(az∘txt)=id from funext fun l=>aK l,List.map_id]
    rw[this]
    exact k H' s'
  dsimp only
  refine o6 (t:=sM _ _ _) (fun σ H'=>(∃v2 v3:Option V,σ=[some (.ref q),some (.ref C),v2,v3])∧Same H H'∧H' C=some (.lst (((bB t).map txt).map V.str))) ?re (fun R hR=>?_)
  case re=>
   rintro σ H2 ⟨⟨v2,v3,rfl⟩,s2,SM⟩
   exact⟨rfl,_,rfl,fin H2 s2 SM⟩
  have eW:∀b:Bool,(b=true↔(t.num≠0∨t.parts=[]))→(bB t).map txt=(t.parts.map fun p=>txt (bo p))++(if b=true then [Str.ofString (toString t.num)] else []):=fun b hb=>by
   unfold bB
   by_cases c:t.num≠0∨t.parts=[]
   ·rw[if_pos c,if_pos (hb.mpr c),List.map_append,List.map_map,en]
    have:Str.ofString (toString ((n:Nat):Int))=txt (dU ((n:Nat):Int).toNat):=bD (by show az _=az _;rw[wM hn,aK];rfl)
    rw[this];rfl
   ·rw[if_neg c,if_neg (fun z=>c (hb.mp z)),List.append_nil,List.append_nil,List.map_map];rfl
  have app:∀Hx,Same H1 Hx→(t.num≠0∨t.parts=[])→∀D:Ends,D.nx=R→zZ (LC K "list" y9 (mw 1) (h8 (Fd (fun xs H Q=>∃i,xs=[.int i]∧i.natAbs.log2<1920∧Q (.str (toString i)) H) (h8 (vD (DE K) (mw 0) (tC (.int 0))) iM)) iM)) D [some (.ref q),some (.ref C),v2,v3] Hx:=fun Hx sx c D hD=>by
   refine⟨_,rfl,.inl ⟨rfl,_,.of (sx _ _ sG)⟩,_,rfl,q,_,_,_,rfl,rfl,(s1.trans sx).dr hq,aj (j:=0) (v:=.int t.num) rfl,_,rfl,by rw[en];exact pQ (by omega),C,_,_,rfl,rfl,sx _ _ sG,?_,?_⟩
   ·rw[List.length_map,List.length_map];exact Nat.lt_of_le_of_lt (show t.parts.length≤3 by omega) (by decide)
   ·show D.nx _ _
    rw[hD]
    refine hR _ _ ⟨⟨_,_,rfl⟩,(s1.trans sx).kbn hC KB.write,?_⟩
    rw[ag,eW true (iff_of_true rfl c),if_pos rfl,List.map_append];rfl
  refine⟨_,rfl,q,_,_,_,rfl,rfl,s1.dr hq,aj (j:=0) (v:=.int t.num) rfl,_,_,rfl,rfl,_,rfl,?_⟩
  by_cases h0:(0:Int)<t.num
  ·rw[decide_eq_true h0]
   exact bf (bf (app H1 (Same.refl _) (.inl (by omega)) _ rfl))
  ·rw[decide_eq_false h0]
   have hz:t.num=0:=by have:=ok.1;omega
   refine aG ⟨_,rfl,by decide,fun O hO=>?_⟩
   have sO:=Same.new (o:=.lst []) hO
   have D1:aq K (upd H1 O (.lst [])) (.ref C) (.lst ((t.parts.map fun p=>txt (bo p)).map Dt.str)):=by rw[aq];exact⟨C,_,rfl,.of (sO _ _ sG),ma _⟩
   have D2:aq K (upd H1 O (.lst [])) (.ref O) (.lst []):=by rw[aq];exact⟨O,_,rfl,.of ag,by simp[aF]⟩
   refine⟨_,_,D1,D2,rfl,rfl,by rw[Dt.dep,pL];decide,_,rfl,?_⟩
   show(if Dt.beq (.lst ((t.parts.map fun p=>txt (bo p)).map Dt.str)) (.lst [])=true then _ else _)
   rw[strs_nil]
   by_cases hp:t.parts=[]
   ·rw[decide_eq_true (by rw[hp];rfl)]
    exact bf (app _ sO (.inr hp) _ rfl)
   ·rw[decide_eq_false (fun z=>hp (List.map_eq_nil_iff.mp z))]
    refine aG (hR _ _ ⟨⟨_,_,rfl⟩,s1.trans sO,?_⟩)
    rw[sO _ _ sG,eW false (iff_of_false (by decide) (fun z=>z.elim (fun z=>z hz) hp)),if_neg (by decide),List.append_nil]
theorem i5 {K:PySem.W.Frag} {H:Hp} {x:V} {ds:List Dt} (h:aq K H x (.tup ds)):∃a xs,x=.ref a∧bY K H a xs∧aF K H xs ds:=gy h
theorem p6:aY ["_law_saying_here","_law_word","_law_one"] ["_law_saying_here"] (au jk):=⟨rfl,rfl,rfl,by decide+kernel,rfl,by decide+kernel,by decide+kernel⟩
theorem tQ {a:dn} (T:Txt K mg a) (n:Nat) (jq:aR P w K mg base cX (n+1) a.iq a.iC ["_law_saying_here"] (qq K n)):aR P w K mg base cX (n+1+1) a.iq a.iC ["_law_saying_here"] (qq K (n+1)):=by
 have cP:=m3 (P:=P) (w:=w) (base:=base) T
 refine T.Em.ok p6 (fun vs H Q E h=>?_) (fun cdv A outer s H vs Q E hr h=>?_)
 ·obtain⟨x,f,rfl,_⟩:=h
  rfl
 ·obtain⟨x,f,rfl,hx,fit,dp,ln,k⟩:=h
  have iH:aP (n+1) _:=hr
  have cv:aP 1 _:=hr.mono (by omega)
  refine⟨_,(ai (aI (i:=1) p6.nd rfl (Or.inl rfl) (aB (aE K) (pv 0) ah (fun _ _=>rfl)))
  (ai (bw (PW.pt (gC (aJ cb (pv 1) ay (aN _)) (gE (aJ cb (pv 1) ay (aN _)))))
   (aw (aL (aD aO (aD aO (av cP cv rfl T.dh T.di T.dj .nil aM (ae (aB (aE K) (pv 0) ah (fun _ _=>rfl)) af)) (aB (bH K) (cx (ae ay (ae ay af))) (cL lK (by rfl) T.nU kC (ae (gg cb (pv 1) ay (aN _)) af)) (fun _ _=>rfl))) (av cP cv rfl T.dh T.di T.dj .nil aM (ae (aB (aE K) (pv 0) ah (fun _ _=>rfl)) af)))))
   aS)
  (ai (bw (aJ cb (pv 1) ay (aN _))
   (aw (aL (ki (eV (aB (aE K) (pv 0) ah (fun _ _=>rfl)) (f_ (eV (av cP cv rfl T.dh T.di T.dj .nil aM (ae (aB (aE K) (pv 0) ah (fun _ _=>rfl)) af)) (f_ (eV (aB (aE K) (pv 0) ah (fun _ _=>rfl)) mU))))))))
   aS)
  (ai (bw (aJ cb (pv 1) ay (aN _))
   (ai (aI (i:=2) p6.nd rfl (Or.inl rfl) (aD aO (aD aO (aD aO (aB (aE K) (pv 0) ah (fun _ _=>rfl)) ay) (av cP cv rfl T.dh T.di T.dj .nil aM (ae (aB (aE K) (pv 0) ah (fun _ _=>rfl)) af))) ay))
   (aw (aL (aD aO (aD aO (aD aO (aD aO (aD aO (pv 2) ay) (aB (aE K) (pv 0) ah (fun _ _=>rfl))) ay) (av cP cv rfl T.dh T.di T.dj .nil aM (ae (aB (aE K) (pv 0) ah (fun _ _=>rfl)) af))) ay))))
   aS)
  (ai (bw (aJ cb (pv 1) ay (aN _))
   (aw (aL (aD aO ay (av jq iH rfl T.kR T.kS T.kU .nil aM (ae (aB (aE K) (pv 0) ah (fun _ _=>rfl)) af)))))
   aS)
  (ai (bw (PW.pt (gC (aJ cb (pv 1) ay (aN _)) (gE (aJ cb (pv 1) ay (aN _)))))
   (aw (aL (ki (f_ (eV (av jq iH rfl T.kR T.kS T.kU .nil aM (ae (aB (aE K) (pv 0) ah (fun _ _=>rfl)) af)) (f_ (eV (pv 1) (f_ (eV (av jq iH rfl T.kR T.kS T.kU .nil aM (ae (aB (aE K) (pv 0) ah (fun _ _=>rfl)) af)) (f_ mU))))))))))
   aS)
  (aw (aL (ki (eV (pv 1) (f_ (eV (aB (aE K) (pv 0) ah (fun _ _=>rfl)) (f_ (eV (av jq iH rfl T.kR T.kS T.kU .nil aM (ae (aB (aE K) (pv 0) ah (fun _ _=>rfl)) af)) mU)))))))))))))),?_⟩
  have oa:az (Str.ofString "[")=[91]:=by decide+kernel
  have cu:(Str.ofString "[").length=1:=by decide+kernel
  have og:az (Str.ofString "]")=[93]:=by decide+kernel
  have cA:(Str.ofString "]").length=1:=by decide+kernel
  have oh:az (Str.ofString " = ")=[32,61,32]:=by decide+kernel
  have cC:(Str.ofString " = ").length=3:=by decide+kernel
  have kg:az (Str.ofString "] = ")=[93,32,61,32]:=by decide+kernel
  have bN:(Str.ofString "] = ").length=4:=by decide+kernel
  have oi:az (Str.ofString " < ")=[32,60,32]:=by decide+kernel
  have cE:(Str.ofString " < ").length=3:=by decide+kernel
  have oj:az (Str.ofString " ~ ")=[32,126,32]:=by decide+kernel
  have cF:(Str.ofString " ~ ").length=3:=by decide+kernel
  have om:az (Str.ofString "not ")=[110,111,116,32]:=by decide+kernel
  have cG:(Str.ofString "not ").length=4:=by decide+kernel
  have oq:az (Str.ofString "(")=[40]:=by decide+kernel
  have lpo:(Str.ofString "(").length=1:=by decide+kernel
  have ot:az (Str.ofString ")")=[41]:=by decide+kernel
  have cH:(Str.ofString ")").length=1:=by decide+kernel
  have ou:az (Str.ofString " ")=[32]:=by decide+kernel
  have lbl:(Str.ofString " ").length=1:=by decide+kernel
  have kh:az (Str.ofString "and")=[97,110,100]:=by decide+kernel
  have land:(Str.ofString "and").length=3:=by decide+kernel
  have ow:az (Str.ofString "or")=[111,114]:=by decide+kernel
  have lor:(Str.ofString "or").length=2:=by decide+kernel
  have i6:az (Str.ofString "some")=[115,111,109,101]:=by decide+kernel
  have bp:(Str.ofString "some").length=4:=by decide+kernel
  have i7:az (Str.ofString "each")=[101,97,99,104]:=by decide+kernel
  have bq:(Str.ofString "each").length=4:=by decide+kernel
  have e0:Str.empty.length=0:=rfl
  have xK:az Str.empty=[]:=rfl
  cases f with
  | same t u=>
   obtain⟨q,xs,rfl,hq,hd⟩:=i5 hx
   obtain⟨y1,sH,hy1⟩:=dc hd (i:=1) rfl
   obtain⟨y2,lG,hy2⟩:=dc hd (i:=2) rfl
   have l1:=(cq fit.1).1
   have l2:=(cq fit.2).1
   refine⟨_,rfl,q,xs,_,_,rfl,rfl,hq,aj (j:=0) (bg hd (i:=0) rfl),_,rfl,rfl,_,rfl,bf (bf ?_)⟩
   refine⟨_,rfl,q,xs,_,_,rfl,rfl,hq,aj (j:=1) sH,y1,t,rfl,hy1,fit.1,fun H1 s1=>⟨by show 2≤sizeLine;decide,fun L hL=>?_⟩⟩
   have sL:=s1.trans (Same.new (o:=.lst [.str (Str.ofString " = "),.str (Str.ofString " < ")]) hL)
   refine⟨_,rfl,rfl,.inr ⟨_,rfl,L,_,_,.str (Str.ofString " = "),rfl,rfl,.of ag,aj (j:=0) rfl,_,_,rfl,rfl,(by rw[PySem.sizeLine_eq];simp only[strLen_append,aH,e0,cu,cA,cC,bN,cE,cF,cG,lpo,cH,lbl,land,lor,bp,bq];omega),_,rfl,q,xs,_,_,rfl,rfl,sL.dr hq,aj (j:=2) lG,y2,u,rfl,aA sL.kts _ _ u.bb hy2,fit.2,fun H2 s2=>⟨_,_,rfl,rfl,(by rw[PySem.sizeLine_eq];simp only[strLen_append,aH,e0,cu,cA,cC,bN,cE,cF,cG,lpo,cH,lbl,land,lor,bp,bq];omega),?_⟩⟩⟩
   have et:txt (aQ t)++Str.ofString " = "++txt (aQ u)=txt (ak (.same t u)):=by
    refine bD ?_
    show az _=az _
    simp only[aZ,aK,oa,og,oh,kg,oi,oj,om,oq,ot,ou,kh,ow,i6,i7]
    simp[ak]
   exact Eq.mp (congrArg (fun z=>Q (V.str z) _) et.symm) (k _ (sL.trans s2))
  | less t u=>
   obtain⟨q,xs,rfl,hq,hd⟩:=i5 hx
   obtain⟨y1,sH,hy1⟩:=dc hd (i:=1) rfl
   obtain⟨y2,lG,hy2⟩:=dc hd (i:=2) rfl
   have l1:=(cq fit.1).1
   have l2:=(cq fit.2).1
   refine⟨_,rfl,q,xs,_,_,rfl,rfl,hq,aj (j:=0) (bg hd (i:=0) rfl),_,rfl,rfl,_,rfl,aG ⟨_,rfl,rfl,_,rfl,bf ?_⟩⟩
   refine⟨_,rfl,q,xs,_,_,rfl,rfl,hq,aj (j:=1) sH,y1,t,rfl,hy1,fit.1,fun H1 s1=>⟨by show 2≤sizeLine;decide,fun L hL=>?_⟩⟩
   have sL:=s1.trans (Same.new (o:=.lst [.str (Str.ofString " = "),.str (Str.ofString " < ")]) hL)
   refine⟨_,rfl,rfl,.inr ⟨_,rfl,L,_,_,.str (Str.ofString " < "),rfl,rfl,.of ag,aj (j:=1) rfl,_,_,rfl,rfl,(by rw[PySem.sizeLine_eq];simp only[strLen_append,aH,e0,cu,cA,cC,bN,cE,cF,cG,lpo,cH,lbl,land,lor,bp,bq];omega),_,rfl,q,xs,_,_,rfl,rfl,sL.dr hq,aj (j:=2) lG,y2,u,rfl,aA sL.kts _ _ u.bb hy2,fit.2,fun H2 s2=>⟨_,_,rfl,rfl,(by rw[PySem.sizeLine_eq];simp only[strLen_append,aH,e0,cu,cA,cC,bN,cE,cF,cG,lpo,cH,lbl,land,lor,bp,bq];omega),?_⟩⟩⟩
   have et:txt (aQ t)++Str.ofString " < "++txt (aQ u)=txt (ak (.less t u)):=by
    refine bD ?_
    show az _=az _
    simp only[aZ,aK,oa,og,oh,kg,oi,oj,om,oq,ot,ou,kh,ow,i6,i7]
    simp[ak]
   exact Eq.mp (congrArg (fun z=>Q (V.str z) _) et.symm) (k _ (sL.trans s2))
  | sign m t g=>
   obtain⟨q,xs,rfl,hq,hd⟩:=i5 hx
   obtain⟨y2,lG,hy2⟩:=dc hd (i:=2) rfl
   obtain⟨nm,ft,g0,g9⟩:=fit
   have l1:=(cq ft).1
   have l2:=(cj nm).2.1
   obtain⟨gn,rfl⟩:∃gn:Nat,g=(gn:Int):=⟨g.toNat,by omega⟩
   have lg:gn<10:=by omega
   have Mr:=qj lg
   refine⟨_,rfl,q,xs,_,_,rfl,rfl,hq,aj (j:=0) (bg hd (i:=0) rfl),_,rfl,rfl,_,rfl,aG ⟨_,rfl,rfl,_,rfl,aG ⟨_,rfl,rfl,_,rfl,bf ?_⟩⟩⟩
   refine⟨_,rfl,q,xs,_,_,rfl,rfl,hq,aj (j:=1) (bg hd (i:=1) rfl),.inr ⟨m,rfl,(by simp only[strLen_append,aH,e0,cu,cA,cC,bN,cE,cF,cG,lpo,cH,lbl,land,lor,bp,bq];omega),(by simp only[strLen_append,aH,e0,cu,cA,cC,bN,cE,cF,cG,lpo,cH,lbl,land,lor,bp,bq];omega),_,rfl,q,xs,_,_,rfl,rfl,hq,aj (j:=2) lG,y2,t,rfl,hy2,ft,fun H1 s1=>.inr ⟨_,rfl,(by simp only[strLen_append,aH,e0,cu,cA,cC,bN,cE,cF,cG,lpo,cH,lbl,land,lor,bp,bq];omega),(by simp only[strLen_append,aH,e0,cu,cA,cC,bN,cE,cF,cG,lpo,cH,lbl,land,lor,bp,bq];omega),_,rfl,q,xs,_,_,rfl,rfl,s1.dr hq,aj (j:=3) (C7 hd (i:=3) rfl),.inl ⟨_,rfl,qi lg,?_,?_,?_⟩⟩⟩⟩
   ·simp only[strLen_append,aH,e0,cu,bN,Mr];omega
   ·simp only[strLen_append,aH,e0,cu,bN,Mr];omega
   have et:Str.empty++m++Str.ofString "["++txt (aQ t)++Str.ofString "] = "++Str.ofString (toString ((gn:Nat):Int))=txt (ak (.sign m t ((gn:Nat):Int))):=by
    refine bD ?_
    show az _=az _
    simp only[aZ,aK,xK,mX lg,oa,og,oh,kg,oi,oj,om,oq,ot,ou,kh,ow,i6,i7]
    simp[ak,atT]
   exact Eq.mp (congrArg (fun z=>Q (V.str z) _) et.symm) (k _ s1)
  | alike m t m2 u=>
   obtain⟨q,xs,rfl,hq,hd⟩:=i5 hx
   obtain⟨y2,lG,hy2⟩:=dc hd (i:=2) rfl
   obtain⟨y4,SN,JG⟩:=dc hd (i:=4) rfl
   obtain⟨nm,ft,SO,fu⟩:=fit
   have l1:=(cq ft).1
   have l2:=(cj nm).2.1
   have l3:=(cq fu).1
   have l4:=(cj SO).2.1
   refine⟨_,rfl,q,xs,_,_,rfl,rfl,hq,aj (j:=0) (bg hd (i:=0) rfl),_,rfl,rfl,_,rfl,aG ⟨_,rfl,rfl,_,rfl,aG ⟨_,rfl,rfl,_,rfl,aG ⟨_,rfl,rfl,_,rfl,bf ?_⟩⟩⟩⟩
   refine⟨_,rfl,q,xs,_,_,rfl,rfl,hq,aj (j:=1) (bg hd (i:=1) rfl),_,_,rfl,rfl,(by rw[PySem.sizeLine_eq];simp only[strLen_append,aH,e0,cu,cA,cC,bN,cE,cF,cG,lpo,cH,lbl,land,lor,bp,bq];omega),_,rfl,q,xs,_,_,rfl,rfl,hq,aj (j:=2) lG,y2,t,rfl,hy2,ft,fun H1 s1=>⟨_,_,rfl,rfl,(by rw[PySem.sizeLine_eq];simp only[strLen_append,aH,e0,cu,cA,cC,bN,cE,cF,cG,lpo,cH,lbl,land,lor,bp,bq];omega),_,_,rfl,rfl,(by rw[PySem.sizeLine_eq];simp only[strLen_append,aH,e0,cu,cA,cC,bN,cE,cF,cG,lpo,cH,lbl,land,lor,bp,bq];omega),?_⟩⟩
   refine⟨_,rfl,_,_,rfl,rfl,(by rw[PySem.sizeLine_eq];simp only[strLen_append,aH,e0,cu,cA,cC,bN,cE,cF,cG,lpo,cH,lbl,land,lor,bp,bq];omega),_,rfl,q,xs,_,_,rfl,rfl,s1.dr hq,aj (j:=3) (bg hd (i:=3) rfl),_,_,rfl,rfl,(by rw[PySem.sizeLine_eq];simp only[strLen_append,aH,e0,cu,cA,cC,bN,cE,cF,cG,lpo,cH,lbl,land,lor,bp,bq];omega),_,_,rfl,rfl,(by rw[PySem.sizeLine_eq];simp only[strLen_append,aH,e0,cu,cA,cC,bN,cE,cF,cG,lpo,cH,lbl,land,lor,bp,bq];omega),_,rfl,q,xs,_,_,rfl,rfl,s1.dr hq,aj (j:=4) SN,y4,u,rfl,aA s1.kts _ _ u.bb JG,fu,fun H2 s2=>⟨_,_,rfl,rfl,(by rw[PySem.sizeLine_eq];simp only[strLen_append,aH,e0,cu,cA,cC,bN,cE,cF,cG,lpo,cH,lbl,land,lor,bp,bq];omega),_,_,rfl,rfl,(by rw[PySem.sizeLine_eq];simp only[strLen_append,aH,e0,cu,cA,cC,bN,cE,cF,cG,lpo,cH,lbl,land,lor,bp,bq];omega),?_⟩⟩
   have et:m++Str.ofString "["++txt (aQ t)++Str.ofString "]"++Str.ofString " ~ "++m2++Str.ofString "["++txt (aQ u)++Str.ofString "]"=txt (ak (.alike m t m2 u)):=by
    refine bD ?_
    show az _=az _
    simp only[aZ,aK,xK,oa,og,oh,kg,oi,oj,om,oq,ot,ou,kh,ow,i6,i7]
    simp[ak,atT]
   exact Eq.mp (congrArg (fun z=>Q (V.str z) _) et.symm) (k _ (s1.trans s2))
  | no g=>
   obtain⟨q,xs,rfl,hq,hd⟩:=i5 hx
   obtain⟨y1,sH,hy1⟩:=dc hd (i:=1) rfl
   have lg:(ak g).length≤100000:=by simp[ak] at ln;omega
   refine⟨_,rfl,q,xs,_,_,rfl,rfl,hq,aj (j:=0) (bg hd (i:=0) rfl),_,rfl,rfl,_,rfl,aG ⟨_,rfl,rfl,_,rfl,aG ⟨_,rfl,rfl,_,rfl,aG ⟨_,rfl,rfl,_,rfl,aG ⟨_,rfl,rfl,_,rfl,bf ?_⟩⟩⟩⟩⟩
   refine⟨_,rfl,q,xs,_,_,rfl,rfl,hq,aj (j:=1) sH,y1,g,rfl,hy1,fit,by simp only[ao.deep] at dp;omega,lg,fun H1 s1=>⟨_,_,rfl,rfl,(by rw[PySem.sizeLine_eq];simp only[strLen_append,aH,e0,cu,cA,cC,bN,cE,cF,cG,lpo,cH,lbl,land,lor,bp,bq];omega),?_⟩⟩
   have et:Str.ofString "not "++txt (ak g)=txt (ak (.no g)):=by
    refine bD ?_
    show az _=az _
    simp only[aZ,aK,xK,oa,og,oh,kg,oi,oj,om,oq,ot,ou,kh,ow,i6,i7]
    simp[ak]
   exact Eq.mp (congrArg (fun z=>Q (V.str z) _) et.symm) (k _ s1)
  | and g h=>
   obtain⟨q,xs,rfl,hq,hd⟩:=i5 hx
   obtain⟨y1,sH,hy1⟩:=dc hd (i:=1) rfl
   obtain⟨y2,lG,hy2⟩:=dc hd (i:=2) rfl
   have lg:(ak g).length+(ak h).length≤100000:=by simp[ak] at ln;omega
   have dg:g.deep<n∧h.deep<n:=by simp only[ao.deep] at dp;omega
   refine⟨_,rfl,q,xs,_,_,rfl,rfl,hq,aj (j:=0) (bg hd (i:=0) rfl),_,rfl,rfl,_,rfl,aG ⟨_,rfl,rfl,_,rfl,aG ⟨_,rfl,rfl,_,rfl,aG ⟨_,rfl,rfl,_,rfl,aG ⟨_,rfl,rfl,_,rfl,aG ⟨_,rfl,rfl,_,rfl,bf (bf ?_)⟩⟩⟩⟩⟩⟩
   refine⟨(by simp only[strLen_append,aH,e0,cu,cA,cC,bN,cE,cF,cG,lpo,cH,lbl,land,lor,bp,bq];omega),_,rfl,q,xs,_,_,rfl,rfl,hq,aj (j:=1) sH,y1,g,rfl,hy1,fit.1,dg.1,by omega,fun H1 s1=>.inr ⟨_,rfl,(by simp only[strLen_append,aH,e0,cu,cA,cC,bN,cE,cF,cG,lpo,cH,lbl,land,lor,bp,bq];omega),(by simp only[strLen_append,aH,e0,cu,cA,cC,bN,cE,cF,cG,lpo,cH,lbl,land,lor,bp,bq];omega),_,rfl,.inr ⟨_,rfl,(by simp only[strLen_append,aH,e0,cu,cA,cC,bN,cE,cF,cG,lpo,cH,lbl,land,lor,bp,bq];omega),(by simp only[strLen_append,aH,e0,cu,cA,cC,bN,cE,cF,cG,lpo,cH,lbl,land,lor,bp,bq];omega),_,rfl,q,xs,_,_,rfl,rfl,s1.dr hq,aj (j:=2) lG,y2,h,rfl,aA s1.kts _ _ h.bb hy2,fit.2,dg.2,by omega,fun H2 s2=>.inr ⟨_,rfl,(by simp only[strLen_append,aH,e0,cu,cA,cC,bN,cE,cF,cG,lpo,cH,lbl,land,lor,bp,bq];omega),(by simp only[strLen_append,aH,e0,cu,cA,cC,bN,cE,cF,cG,lpo,cH,lbl,land,lor,bp,bq];omega),(by simp only[strLen_append,aH,e0,cu,cA,cC,bN,cE,cF,cG,lpo,cH,lbl,land,lor,bp,bq];omega),?_⟩⟩⟩⟩
   have et:Str.empty++Str.ofString "("++txt (ak g)++Str.ofString " "++Str.ofString "and"++Str.ofString " "++txt (ak h)++Str.ofString ")"=txt (ak (.and g h)):=by
    refine bD ?_
    show az _=az _
    simp only[aZ,aK,xK,oa,og,oh,kg,oi,oj,om,oq,ot,ou,kh,ow,i6,i7]
    simp[ak]
   exact Eq.mp (congrArg (fun z=>Q (V.str z) _) et.symm) (k _ (s1.trans s2))
  | or g h=>
   obtain⟨q,xs,rfl,hq,hd⟩:=i5 hx
   obtain⟨y1,sH,hy1⟩:=dc hd (i:=1) rfl
   obtain⟨y2,lG,hy2⟩:=dc hd (i:=2) rfl
   have lg:(ak g).length+(ak h).length≤100000:=by simp[ak] at ln;omega
   have dg:g.deep<n∧h.deep<n:=by simp only[ao.deep] at dp;omega
   refine⟨_,rfl,q,xs,_,_,rfl,rfl,hq,aj (j:=0) (bg hd (i:=0) rfl),_,rfl,rfl,_,rfl,aG ⟨_,rfl,rfl,_,rfl,aG ⟨_,rfl,rfl,_,rfl,aG ⟨_,rfl,rfl,_,rfl,aG ⟨_,rfl,rfl,_,rfl,aG ⟨_,rfl,rfl,_,rfl,aG ⟨_,rfl,rfl,_,rfl,bf ?_⟩⟩⟩⟩⟩⟩⟩
   refine⟨(by simp only[strLen_append,aH,e0,cu,cA,cC,bN,cE,cF,cG,lpo,cH,lbl,land,lor,bp,bq];omega),_,rfl,q,xs,_,_,rfl,rfl,hq,aj (j:=1) sH,y1,g,rfl,hy1,fit.1,dg.1,by omega,fun H1 s1=>.inr ⟨_,rfl,(by simp only[strLen_append,aH,e0,cu,cA,cC,bN,cE,cF,cG,lpo,cH,lbl,land,lor,bp,bq];omega),(by simp only[strLen_append,aH,e0,cu,cA,cC,bN,cE,cF,cG,lpo,cH,lbl,land,lor,bp,bq];omega),_,rfl,.inr ⟨_,rfl,(by simp only[strLen_append,aH,e0,cu,cA,cC,bN,cE,cF,cG,lpo,cH,lbl,land,lor,bp,bq];omega),(by simp only[strLen_append,aH,e0,cu,cA,cC,bN,cE,cF,cG,lpo,cH,lbl,land,lor,bp,bq];omega),_,rfl,q,xs,_,_,rfl,rfl,s1.dr hq,aj (j:=2) lG,y2,h,rfl,aA s1.kts _ _ h.bb hy2,fit.2,dg.2,by omega,fun H2 s2=>.inr ⟨_,rfl,(by simp only[strLen_append,aH,e0,cu,cA,cC,bN,cE,cF,cG,lpo,cH,lbl,land,lor,bp,bq];omega),(by simp only[strLen_append,aH,e0,cu,cA,cC,bN,cE,cF,cG,lpo,cH,lbl,land,lor,bp,bq];omega),(by simp only[strLen_append,aH,e0,cu,cA,cC,bN,cE,cF,cG,lpo,cH,lbl,land,lor,bp,bq];omega),?_⟩⟩⟩⟩
   have et:Str.empty++Str.ofString "("++txt (ak g)++Str.ofString " "++Str.ofString "or"++Str.ofString " "++txt (ak h)++Str.ofString ")"=txt (ak (.or g h)):=by
    refine bD ?_
    show az _=az _
    simp only[aZ,aK,xK,oa,og,oh,kg,oi,oj,om,oq,ot,ou,kh,ow,i6,i7]
    simp[ak]
   exact Eq.mp (congrArg (fun z=>Q (V.str z) _) et.symm) (k _ (s1.trans s2))
  | some m g=>
   obtain⟨q,xs,rfl,hq,hd⟩:=i5 hx
   obtain⟨y2,lG,hy2⟩:=dc hd (i:=2) rfl
   have l1:=(bR fit.1).2.1
   have lg:(ak g).length≤100000:=by simp[ak] at ln;omega
   have dg:g.deep<n:=by simp only[ao.deep] at dp;omega
   refine⟨_,rfl,q,xs,_,_,rfl,rfl,hq,aj (j:=0) (bg hd (i:=0) rfl),_,rfl,rfl,_,rfl,aG ⟨_,rfl,rfl,_,rfl,aG ⟨_,rfl,rfl,_,rfl,aG ⟨_,rfl,rfl,_,rfl,aG ⟨_,rfl,rfl,_,rfl,aG ⟨_,rfl,rfl,_,rfl,aG ⟨_,rfl,rfl,_,rfl,aG ?_⟩⟩⟩⟩⟩⟩⟩
   refine⟨_,rfl,.inr ⟨_,rfl,(by simp only[strLen_append,aH,e0,cu,cA,cC,bN,cE,cF,cG,lpo,cH,lbl,land,lor,bp,bq];omega),(by simp only[strLen_append,aH,e0,cu,cA,cC,bN,cE,cF,cG,lpo,cH,lbl,land,lor,bp,bq];omega),_,rfl,q,xs,_,_,rfl,rfl,hq,aj (j:=1) (bg hd (i:=1) rfl),.inr ⟨m,rfl,(by simp only[strLen_append,aH,e0,cu,cA,cC,bN,cE,cF,cG,lpo,cH,lbl,land,lor,bp,bq];omega),(by simp only[strLen_append,aH,e0,cu,cA,cC,bN,cE,cF,cG,lpo,cH,lbl,land,lor,bp,bq];omega),_,rfl,q,xs,_,_,rfl,rfl,hq,aj (j:=2) lG,y2,g,rfl,hy2,fit.2,dg,lg,fun H1 s1=>.inr ⟨_,rfl,(by simp only[strLen_append,aH,e0,cu,cA,cC,bN,cE,cF,cG,lpo,cH,lbl,land,lor,bp,bq];omega),(by simp only[strLen_append,aH,e0,cu,cA,cC,bN,cE,cF,cG,lpo,cH,lbl,land,lor,bp,bq];omega),?_⟩⟩⟩⟩
   have et:Str.empty++Str.ofString "some"++Str.ofString " "++m++Str.ofString " "++txt (ak g)=txt (ak (.some m g)):=by
    refine bD ?_
    show az _=az _
    simp only[aZ,aK,xK,oa,og,oh,kg,oi,oj,om,oq,ot,ou,kh,ow,i6,i7]
    simp[ak]
   exact Eq.mp (congrArg (fun z=>Q (V.str z) _) et.symm) (k _ s1)
  | each m g=>
   obtain⟨q,xs,rfl,hq,hd⟩:=i5 hx
   obtain⟨y2,lG,hy2⟩:=dc hd (i:=2) rfl
   have l1:=(bR fit.1).2.1
   have lg:(ak g).length≤100000:=by simp[ak] at ln;omega
   have dg:g.deep<n:=by simp only[ao.deep] at dp;omega
   refine⟨_,rfl,q,xs,_,_,rfl,rfl,hq,aj (j:=0) (bg hd (i:=0) rfl),_,rfl,rfl,_,rfl,aG ⟨_,rfl,rfl,_,rfl,aG ⟨_,rfl,rfl,_,rfl,aG ⟨_,rfl,rfl,_,rfl,aG ⟨_,rfl,rfl,_,rfl,aG ⟨_,rfl,rfl,_,rfl,aG ⟨_,rfl,rfl,_,rfl,aG ?_⟩⟩⟩⟩⟩⟩⟩
   refine⟨_,rfl,.inr ⟨_,rfl,(by simp only[strLen_append,aH,e0,cu,cA,cC,bN,cE,cF,cG,lpo,cH,lbl,land,lor,bp,bq];omega),(by simp only[strLen_append,aH,e0,cu,cA,cC,bN,cE,cF,cG,lpo,cH,lbl,land,lor,bp,bq];omega),_,rfl,q,xs,_,_,rfl,rfl,hq,aj (j:=1) (bg hd (i:=1) rfl),.inr ⟨m,rfl,(by simp only[strLen_append,aH,e0,cu,cA,cC,bN,cE,cF,cG,lpo,cH,lbl,land,lor,bp,bq];omega),(by simp only[strLen_append,aH,e0,cu,cA,cC,bN,cE,cF,cG,lpo,cH,lbl,land,lor,bp,bq];omega),_,rfl,q,xs,_,_,rfl,rfl,hq,aj (j:=2) lG,y2,g,rfl,hy2,fit.2,dg,lg,fun H1 s1=>.inr ⟨_,rfl,(by simp only[strLen_append,aH,e0,cu,cA,cC,bN,cE,cF,cG,lpo,cH,lbl,land,lor,bp,bq];omega),(by simp only[strLen_append,aH,e0,cu,cA,cC,bN,cE,cF,cG,lpo,cH,lbl,land,lor,bp,bq];omega),?_⟩⟩⟩⟩
   have et:Str.empty++Str.ofString "each"++Str.ofString " "++m++Str.ofString " "++txt (ak g)=txt (ak (.each m g)):=by
    refine bD ?_
    show az _=az _
    simp only[aZ,aK,xK,oa,og,oh,kg,oi,oj,om,oq,ot,ou,kh,ow,i6,i7]
    simp[ak]
   exact Eq.mp (congrArg (fun z=>Q (V.str z) _) et.symm) (k _ s1)
theorem uL {a:dn} (T:Txt K mg a):∀n:Nat,aR P w K mg base cX (n+1) a.iq a.iC ["_law_saying_here"] (qq K n)
 | 0=>aR.none fun vs H Q E h=>by
  obtain⟨x,f,_,_,_,hlt,_⟩:=h
  omega
 | n+1=>tQ T n (uL T n)
def Rn (n:Nat) (l:List Nat):Prop:=∀k,((l.drop k).takeWhile fb).length≤n
theorem zX {p:Nat→Bool} {c:Nat} {b:List Nat} (hc:p c=false):∀x:List Nat,(x++c::b).takeWhile p=x.takeWhile p
 | []=>by rw[List.nil_append,List.takeWhile_cons,hc];rfl
 | d::x=>by rw[List.cons_append,List.takeWhile_cons,List.takeWhile_cons,zX hc x]
theorem dR {n c:Nat} {a b:List Nat} (ha:Rn n a) (hc:fb c=false) (hb:Rn n b):Rn n (a++c::b):=fun k=>by
 by_cases hk:k≤a.length
 ·rw[List.drop_append_of_le_length hk,zX hc];exact ha k
 ·rw[List.drop_append,List.drop_of_length_le (by omega),List.nil_append,show k-a.length=(k-a.length-1)+1 by omega,List.drop_succ_cons]
  exact hb _
theorem de {n:Nat} {l:List Nat} (h:l.length≤n):Rn n l:=fun k=>Nat.le_trans (List.takeWhile_sublist _).length_le (Nat.le_trans (by rw[List.length_drop];omega) h)
theorem m5 {n c:Nat} {b:List Nat} (hc:fb c=false) (hb:Rn n b):Rn n (c::b):=dR (a:=[]) (de (Nat.zero_le _)) hc hb
theorem Bm {a:Str} {t:Term} {b:List Nat} (ha:nameB bX a=true) (ft:dH t) (hb:Rn 55 b):Rn 55 (atT a t++b):=by
 have e:atT a t++b=az a++91::(aQ t++93::b):=by simp[atT]
 rw[e]
 exact dR (de (by rw[←bE];have:=(cj ha).2.1;omega)) (by decide) (dR (de (by have:=(cq ft).1;omega)) (by decide) hb)
theorem G':∀{f:ao} {b:List Nat},f.dw→(b=[]∨∃c r,b=c::r∧fb c=false∧Rn 55 r)→Rn 55 (ak f++b):=by
 have tl:∀{t:Term} {b:List Nat},dH t→(b=[]∨∃c r,b=c::r∧fb c=false∧Rn 55 r)→Rn 55 (aQ t++b):=fun {t b} ft hb=>by
  have lt:=(cq ft).1
  rcases hb with rfl | ⟨c,r,rfl,hc,hr⟩
  ·rw[List.append_nil];exact de (by omega)
  ·exact dR (de (by omega)) hc hr
 have rb:∀{b:List Nat},(b=[]∨∃c r,b=c::r∧fb c=false∧Rn 55 r)→Rn 55 b:=fun {b} hb=>by
  rcases hb with rfl | ⟨c,r,rfl,hc,hr⟩
  ·exact de (Nat.zero_le _)
  ·exact m5 hc hr
 intro f
 induction f with
 | same t u=>
  intro b h hb
  have e:ak (.same t u)++b=aQ t++32::([61]++32::(aQ u++b)):=by simp[ak]
  rw[e]
  exact tl h.1 (.inr ⟨_,_,rfl,by decide,dR (de (by decide)) (by decide) (tl h.2 hb)⟩)
 | less t u=>
  intro b h hb
  have e:ak (.less t u)++b=aQ t++32::([60]++32::(aQ u++b)):=by simp[ak]
  rw[e]
  exact tl h.1 (.inr ⟨_,_,rfl,by decide,dR (de (by decide)) (by decide) (tl h.2 hb)⟩)
 | sign a t s=>
  intro b h hb
  have e:ak (.sign a t s)++b=atT a t++(32::([61]++32::([48+s.toNat]++b))):=by simp[ak]
  rw[e]
  refine Bm h.1 h.2.1 (m5 (by decide) (dR (de (by decide)) (by decide) ?_))
  rcases hb with rfl | ⟨c,r,rfl,hc,hr⟩
  ·rw[List.append_nil];exact de (by simp)
  ·exact dR (de (by simp)) hc hr
 | alike a t a2 u=>
  intro b h hb
  have e:ak (.alike a t a2 u)++b=atT a t++(32::([126]++32::(atT a2 u++b))):=by simp[ak]
  rw[e]
  exact Bm h.1 h.2.1 (m5 (by decide) (dR (de (by decide)) (by decide) (Bm h.2.2.1 h.2.2.2 (rb hb))))
 | no g ih=>
  intro b h hb
  have e:ak (.no g)++b=[110,111,116]++32::(ak g++b):=by simp[ak]
  rw[e]
  exact dR (de (by decide)) (by decide) (ih h hb)
 | and g k ih1 ih2=>
  intro b h hb
  have e:ak (.and g k)++b=40::(ak g++32::([97,110,100]++32::(ak k++41::b))):=by simp[ak]
  rw[e]
  exact m5 (by decide) (ih1 h.1 (.inr ⟨_,_,rfl,by decide,dR (de (by decide)) (by decide) (ih2 h.2 (.inr ⟨_,_,rfl,by decide,rb hb⟩))⟩))
 | or g k ih1 ih2=>
  intro b h hb
  have e:ak (.or g k)++b=40::(ak g++32::([111,114]++32::(ak k++41::b))):=by simp[ak]
  rw[e]
  exact m5 (by decide) (ih1 h.1 (.inr ⟨_,_,rfl,by decide,dR (de (by decide)) (by decide) (ih2 h.2 (.inr ⟨_,_,rfl,by decide,rb hb⟩))⟩))
 | some n g ih=>
  intro b h hb
  have e:ak (.some n g)++b=[115,111,109,101]++32::(az n++32::(ak g++b)):=by simp[ak]
  rw[e]
  exact dR (de (by decide)) (by decide) (dR (de (by rw[←bE];have:=(bR h.1).2.1;omega)) (by decide) (ih h.2 hb))
 | each n g ih=>
  intro b h hb
  have e:ak (.each n g)++b=[101,97,99,104]++32::(az n++32::(ak g++b)):=by simp[ak]
  rw[e]
  exact dR (de (by decide)) (by decide) (dR (de (by rw[←bE];have:=(bR h.1).2.1;omega)) (by decide) (ih h.2 hb))
theorem lH {t:Term} (ok:bZ t):∀c∈aQ t,c<128:=fun c hc=>by have:=kj.mp (k_ ok c hc);omega
theorem xM {a:Str} {t:Term} (ha:nameB bX a=true) (ok:bZ t):∀c∈atT a t,c<128:=fun c hc=>by
 simp only[atT,List.mem_append,List.mem_cons,List.not_mem_nil,or_false] at hc
 rcases hc with h | h | h | h
 ·have:=(cj ha).2.2 c h;omega
 ·omega
 ·exact lH ok c h
 ·omega
theorem gP:∀{f:ao},f.Ok→∀c∈ak f,c<128
 | .same t u,h,c,hc=>by
  simp only[ak,List.mem_append,List.mem_cons,List.not_mem_nil,or_false] at hc
  rcases hc with q | q | q
  ·exact lH h.1 c q
  ·omega
  ·exact lH h.2 c q
 | .less t u,h,c,hc=>by
  simp only[ak,List.mem_append,List.mem_cons,List.not_mem_nil,or_false] at hc
  rcases hc with q | q | q
  ·exact lH h.1 c q
  ·omega
  ·exact lH h.2 c q
 | .sign a t s,h,c,hc=>by
  obtain⟨h1,h2,h3,h4⟩:=h
  simp only[ak,List.mem_append,List.mem_cons,List.not_mem_nil,or_false] at hc
  rcases hc with q | q | q
  ·exact xM h1 h2 c q
  ·omega
  ·omega
 | .alike a t a2 u,h,c,hc=>by
  simp only[ak,List.mem_append,List.mem_cons,List.not_mem_nil,or_false] at hc
  rcases hc with q | q | q
  ·exact xM h.1 h.2.1 c q
  ·omega
  ·exact xM h.2.2.1 h.2.2.2 c q
 | .no g,h,c,hc=>by
  simp only[ak,List.mem_append,List.mem_cons,List.not_mem_nil,or_false] at hc
  rcases hc with q | q
  ·omega
  ·exact gP (f:=g) h c q
 | .and g k,h,c,hc=>by
  simp only[ak,List.mem_append,List.mem_cons,List.not_mem_nil,or_false] at hc
  rcases hc with q | q | q | q | q
  ·omega
  ·exact gP h.1 c q
  ·omega
  ·exact gP h.2 c q
  ·omega
 | .or g k,h,c,hc=>by
  simp only[ak,List.mem_append,List.mem_cons,List.not_mem_nil,or_false] at hc
  rcases hc with q | q | q | q | q
  ·omega
  ·exact gP h.1 c q
  ·omega
  ·exact gP h.2 c q
  ·omega
 | .some n g,h,c,hc=>by
  simp only[ak,List.mem_append,List.mem_cons,List.not_mem_nil,or_false] at hc
  rcases hc with q | q | q | q
  ·omega
  ·have:=dS.mp ((bR h.1).2.2.1 c q);omega
  ·omega
  ·exact gP h.2 c q
 | .each n g,h,c,hc=>by
  simp only[ak,List.mem_append,List.mem_cons,List.not_mem_nil,or_false] at hc
  rcases hc with q | q | q | q
  ·omega
  ·have:=dS.mp ((bR h.1).2.2.1 c q);omega
  ·omega
  ·exact gP h.2 c q
theorem rl {f:ao} {z:Str} (fit:f.dw) (e:az z=ak f) (l:(ak f).length≤100000):pZ z:=by
 refine⟨⟨fun c hc=>gP fit.ok c (by rw[←e];exact hc),by rw[bE,e];exact l⟩,?_⟩
 rw[e]
 have:=G' (b:=[]) fit (.inl rfl)
 rw[List.append_nil] at this
 exact this
def nest:Nat→ao→ao
 | 0,f=>f
 | n+1,f=>.no (nest n f)
theorem xN {f:ao} (h:f.dw):∀n,(nest n f).dw
 | 0=>h
 | n+1=>xN h n
theorem uM (f:ao):∀n,(nest n f).deep=n+f.deep
 | 0=>by simp[nest]
 | n+1=>by simp only[nest,ao.deep];rw[uM f n];omega
theorem uN (f:ao):∀n,ak (nest n f)=(List.replicate n [110,111,116,32]).flatten++ak f
 | 0=>by simp[nest]
 | n+1=>by simp only[nest,ak];rw[uN f n];simp[List.replicate_succ]
theorem xO (l:Array Nat):∀(k:Nat) (acc:Array Nat),((List.replicate k l).foldl (· ++ ·) acc).toList=acc.toList++(List.replicate k l.toList).flatten
 | 0,acc=>by simp
 | k+1,acc=>by
  rw[List.replicate_succ,List.foldl_cons,xO l k]
  simp[List.replicate_succ]
theorem Dr (z:Str) (n:Nat) (hz:z.length≠0):az (Txt.mul z (n:Int))=(List.replicate n (az z)).flatten:=by
 unfold az Txt.mul
 by_cases h1:(n:Int)<1
 ·rw[if_pos h1]
  have e:n=0:=by omega
  rw[e];rfl
 ·rw[if_neg h1]
  by_cases h2:n=1
  ·subst h2;simp
  ·have e:((n:Int) == 1||z.length == 0)=false:=by
    have a1:((n:Int) == 1)=false:=by simp;omega
    have a2:(z.length == 0)=false:=by simpa using hz
    rw[a1,a2];rfl
   rw[e,if_neg Bool.false_ne_true]
   show((List.replicate (n:Int).toNat z.cps).foldl (· ++ ·) #[]).toList=_
   rw[xO];simp
theorem Bn:dH ⟨0,[]⟩:=⟨⟨⟨by decide,by decide⟩,by decide+kernel,fun p h=>(nomatch h)⟩,Nat.zero_le _⟩
theorem yU:aQ ⟨0,[]⟩=[48]:=by decide+kernel
def vh (K:PySem.W.Frag):Sp:=fun vs H Q _=>∃(a:Addr) (ns:List Int),vs=[.ref a]∧bW K H a (ns.map V.int)∧ns.length≤63∧∀H',Q (.bl true) H'
theorem JI {K:PySem.W.Frag}:PySem.W.kitOne K (.type "str") (.type "str")=some true:=by rfl
theorem Hb (f:ao):∃ds,f.dt=.tup ds:=by cases f<;>exact⟨_,rfl⟩
theorem eqT {K:PySem.W.Frag} {H:Hp} {x y:V} {f:ao} {Q:VK} (neg:Bool) (h1:aq K H x f.dt) (h2:aq K H y f.dt) (hd:f.deep≤130) (q:Q (.bl (!neg)) H):AI K neg x y H Q:=by
 obtain⟨ds,e⟩:=Hb f
 have:=f.dep
 rw[e] at h1 h2 this
 refine⟨ds,ds,h1,h2,by omega,?_⟩
 rw[Dt.beq_refl]
 cases neg<;>exact q
theorem fH:aY ["_law_script","_law_deck_here","_law_names_here","_law_rows","_law_saying_here","_law_term_here","_law_text_here","_law_found","_law_alone","_law_many","_law_nested","_law_k"] ["_law_script"] (au j5):=⟨rfl,rfl,rfl,by decide+kernel,rfl,by decide+kernel,by decide+kernel⟩
theorem JJ {a:dn} {x:gB} {b:pO} (T:Txt K mg a) (TE:TX K mg x) (U:mh K w.params mg b):aR P w K mg base cX 17 a.AJ a.Cv ["_law_script"] (vh K):=by
 have EO:=CM (P:=P) (w:=w) (base:=base) T
 have bA:=jS (P:=P) (w:=w) (base:=base) T
 have uO:=A0 (P:=P) (w:=w) (base:=base) T
 have gZ:aR P w K mg base cX 16 a.iV a.jB ["_law_deck_here","_law_names_here","_law_rows","_law_box","_law_deep"] (qW K 12):=qB T 12
 have nY:=uE (P:=P) (w:=w) (base:=base) T
 have jq:aR P w K mg base cX 14 a.iq a.iC ["_law_saying_here"] (qq K 13):=uL T 13
 have cP:=m3 (P:=P) (w:=w) (base:=base) T
 have oP:aR P w K mg base cX 6 a.gb a.gV ["saying"] (pT K):=tL T U
 have dX:=lB (P:=P) (w:=w) (base:=base) T
 have ij:aR P w K mg base (bS P w) 10 a.gf a.gX ["text"] (p4 K x.c4):=tP T TE
 refine T.K6.ok fH (fun vs H Q E h=>?_) (fun cdv A outer s H vs Q E hr h=>?_)
 ·obtain⟨d,ms,rfl,_⟩:=h
  rfl
 ·obtain⟨sa,is,rfl,hS,his,k⟩:=h
  have Ds:aP 1 _:=hr.mono (by decide)
  have bh:aP 1 _:=hr.mono (by decide)
  have sI:aP 2 _:=hr.mono (by decide)
  have gx:aP 16 _:=hr
  have mf:aP 2 _:=hr.mono (by decide)
  have iH:aP 14 _:=hr.mono (by decide)
  have cv:aP 1 _:=hr.mono (by decide)
  have m6:aP 6 _:=hr.mono (by decide)
  have dD:aP 2 _:=hr.mono (by decide)
  have g8:aP 10 _:=hr.mono (by decide)
  have vi:=(fun {k:Nat} {A:Around} (r:aP k A)=>(by have:=r.un;omega:A.units+180<cLine)) hr
  refine⟨_,(ai (aI (i:=1) fH.nd rfl (Or.inl rfl) (av EO Ds rfl T.Eh T.Ei T.Ej .nil aM (ae (pv 0) (ae ah af))))
  (ai (aI (i:=2) fH.nd rfl (Or.inl rfl) (av uO sI rfl T.uo T.uq T.ur .nil aM (ae (pv 1) (ae ah (ae m9 af)))))
  (ai (aI (i:=3) fH.nd rfl (Or.inl rfl) (av uO sI rfl T.uo T.uq T.ur .nil aM (ae (pv 1) (ae (av bA bh rfl T.bK T.bL T.bM .nil aM (ae (pv 1) (ae ah af))) (ae m9 af)))))
  (ai (aI (i:=4) fH.nd rfl (Or.inl rfl) (av gZ gx rfl T.iW T.iX T.iY .nil aM (ae (pv 1) (ae (pv 2) (ae (pv 3) (ae (cx (ae ah af)) (ae (av bA bh rfl T.bK T.bL T.bM .nil aM (ae (pv 1) (ae ah af))) af)))))))
  (ai (aI (i:=5) fH.nd rfl (Or.inl rfl) (av nY mf rfl T.qP T.qQ T.qR .nil aM (ae (pv 1) (ae (pv 2) af))))
  (ai (aI (i:=6) fH.nd rfl (Or.inl rfl) (av jq iH rfl T.kR T.kS T.kU .nil aM (ae (pv 4) af)))
  (ai (aI (i:=7) fH.nd rfl (Or.inl rfl) (av oP m6 rfl T.oF T.oG T.oH .nil aM (ae (pv 4) af)))
  (ai (bw (PW.pt (gC (ku (cI (bz (B4 K) (by rfl) T.wy uS (ae (pv 7) (ae (Gz (v:=.ty "str") rfl T.rZ oZ rfl) af))) (fun _=>rfl))) (gC (aJ nj (pv 7) (pv 6) (aN _)) (gE (aJ nq (bz (bJ K) (by rfl) T.dm cz (ae (pv 6) af)) ah (aN _))))))
   (aw (aL m9))
   aS)
  (ai (bw (aJ nj (av dX dD rfl T.gs T.gu T.gw .nil aM (ae (pv 5) af)) (av cP cv rfl T.dh T.di T.dj .nil aM (ae (pv 5) af)) (aN _))
   (aw (aL m9))
   aS)
  (ai (aI (i:=8) fH.nd rfl (Or.inl rfl) (aX (ae ay (ae (pv 5) (ae (aX (ae ah (ae (aX af) af))) af)))))
  (ai (bw (aJ (zv K vi) (av ij g8 rfl T.ib T.ic T.ie .nil rR (ae (aD aO (av cP cv rfl T.dh T.di T.dj .nil aM (ae (pv 5) af)) ay) af)) (pv 8) (aN _))
   (aw (aL m9))
   aS)
  (ai (aI (i:=9) fH.nd rfl (Or.inl rfl) (av bA bh rfl T.bK T.bL T.bM .nil aM (ae (pv 1) (ae ah af))))
  (ai (aI (i:=10) fH.nd rfl (Or.inl rfl) (pv 8))
  (ai (iK PassesOwn.never rfl (gF rfl T.iE (ae (pv 9) af)) (cf (i:=11) fH.nd rfl (Or.inl rfl))
   (aw (aI (i:=10) fH.nd rfl (Or.inl rfl) (aX (ae ay (ae (pv 10) af))))))
  (ai (bw (aJ (zv K vi) (av ij g8 rfl T.ib T.ic T.ie .nil rR (ae (aD aO (aD aO (aD GY ay (pv 9)) (av cP cv rfl T.dh T.di T.dj .nil aM (ae (pv 5) af))) ay) af)) (pv 10) (aN _))
   (aw (aL m9))
   aS)
  (aw (aL (vt (gg (zu K vi) (av ij g8 rfl T.ib T.ic T.ie .nil rR (ae (pv 6) af)) (pv 4) (aN _)) (vt (gg cb (av oP m6 rfl T.oF T.oG T.oH .nil aM (ae (pv 4) af)) (pv 6) (aN _)) (vq (gg (zu K vi) (av ij g8 rfl T.ib T.ic T.ie .nil rR (ae (pv 7) af)) (pv 4) (aN _)))))))))))))))))))))),?_⟩
  refine⟨_,rfl,sa,is,rfl,hS,his,fun d H1 hd s1 d1=>?_⟩
  refine⟨_,rfl,d,3,false,rfl,d1,by decide,fun N ss H2 hN k2 d2 eN ls FC SQ=>?_⟩
  have oI:N≠d:=(d1.ne hN).symm
  have JK:FD ss:=⟨FC,fun x hx=>A6 (SQ x hx)⟩
  refine⟨_,rfl,_,rfl,d,5,rfl,d2,by decide,fun r H3 r0 r1 k3 d3=>?_⟩
  obtain⟨m,rfl⟩:∃m:Nat,r=(m:Int):=⟨r.toNat,by omega⟩
  refine⟨d,m,true,rfl,d3,by omega,fun R rs H4 hR k4 d4 eR lr VH SR=>?_⟩
  have Nx:IV rs:=fun x hx=>A2 (SR x hx)
  have SU:=k3 _ _ eN oI
  have Ms:=k4 _ _ SU oI
  have Mt:R≠d:=(d3.ne hR).symm
  refine⟨_,rfl,_,rfl,_,rfl,by show 1≤sizeLine;decide,fun bx hbx=>?_⟩
  have sb:=Same.new (o:=.lst [.int 26]) hbx
  have Mu:bx≠d:=(d4.ne hbx).symm
  refine⟨_,rfl,d,12,rfl,d4.same sb,by decide,fun dp H5 p0 p1 k5 d5=>?_⟩
  obtain⟨SV,rfl⟩:∃m:Nat,dp=(m:Int):=⟨dp.toNat,by omega⟩
  have Mv:=k5 _ _ (sb _ _ Ms) oI
  have Mw:=aU Ms hbx
  refine⟨d,N,R,bx,ss,rs,26,SV,rfl,d5,⟨.of Mv,oI,Mw,by omega,by omega,JK⟩,⟨.of (k5 _ _ (sb _ _ eR) Mt),Mt,aU eR hbx,by omega,Nx⟩,k5 _ _ ag Mu,Mu,by omega,fun p f H6 uF hf hf2 k6 d6 VI=>?_⟩
  obtain⟨FG,fit,comps⟩:=hf2
  have hcm:f.comps≤24:=by unfold pz at comps;omega
  have uP:(ak f).length≤3000:=by have:=gL fit;omega
  have FR:=k6 _ _ Mv oI Mw
  refine⟨_,rfl,_,rfl,d,N,ss,rfl,d6,.of FR,oI,by omega,JK,fun tp t H7 ht rm _ k7 d7=>?_⟩
  have JL:=aA (d6.kts k7) _ _ f.bb hf
  have lt:=(cq rm).1
  refine⟨_,rfl,.ref p,f,rfl,JL,fit,by omega,by omega,fun H8 s8=>?_⟩
  have JM:=aA s8.kts _ _ f.bb JL
  refine⟨_,rfl,.ref p,f,rfl,JM,by omega,fit.ok,fit.few,by omega,fun H9 s9=>?_⟩
  have hf9:=aA s9.kts _ _ f.bb JM
  have ht9:=aA (s8.trans s9).kts _ _ t.bb ht
  have d9:=d7.same (s8.trans s9)
  have zl:(txt (ak f)).length≤sizeLine:=by rw[aH,PySem.sizeLine_eq];omega
  refine⟨_,rfl,_,_,"str",true,rfl,il.str _,JI,true,rfl,aG ⟨_,rfl,_,rfl,rfl,_,rfl,?_⟩⟩
  rw[decide_eq_true rfl]
  refine aG ⟨_,rfl,_,(txt (ak f)).length,rfl,⟨zl,rfl⟩,_,_,rfl,rfl,_,rfl,?_⟩
  rw[decide_eq_false (show ¬(3000:Int)<(((txt (ak f)).length:Nat):Int) by rw[aH];omega)]
  refine aG ?_
  refine⟨_,rfl,.ref tp,t,rfl,ht9,rm.1,by have:=rm.2;omega,fun zj zi=>⟨_,rfl,.ref tp,t,rfl,aA zi.kts _ _ t.bb ht9,rm,fun Fn HS=>⟨rfl,_,rfl,?_⟩⟩⟩
  rw[decide_eq_true rfl]
  refine aG ?_
  have ER:=zi.trans HS
  have JN:=aA ER.kts _ _ f.bb hf9
  have ES:=aA ER.kts _ _ t.bb ht9
  have Mx:=d9.same ER
  clear hf JL JM hf9 ht ht9
  refine⟨_,rfl,by decide,fun o1 ho1=>⟨by show 2≤sizeLine;decide,fun o2 ho2=>⟨by show 3≤sizeLine;decide,fun al hal=>?_⟩⟩⟩
  have so:=((Same.new (o:=.tup []) ho1).trans (Same.new (o:=.tup [.int 0,.ref o1]) ho2)).trans (Same.new (o:=.tup [.str (Str.ofString "less"),.ref tp,.ref o2]) hal)
  have Bo:aq K (upd (upd (upd Fn o1 (.tup [])) o2 (.tup [.int 0,.ref o1])) al (.tup [.str (Str.ofString "less"),.ref tp,.ref o2])) (.ref al) (ao.less t ⟨0,[]⟩).dt:=
   bP (.of ag) (ax bu (ax (aA so.kts _ _ t.bb ES) (ax (bP (.of ((Same.new hal) _ _ ag)) (ax jd (ax (bP (.of ((Same.new hal) _ _ ((Same.new ho2) _ _ ag))) a_) a_))) a_)))
  have ET:=aA so.kts _ _ f.bb JN
  have Bp:=aA so.kts _ _ t.bb ES
  have JO:=Mx.same so
  generalize upd (upd (upd Fn o1 (.tup [])) o2 (.tup [.int 0,.ref o1])) al (.tup [.str (Str.ofString "less"),.ref tp,.ref o2])=VJ at Bo ET Bp JO ⊢
  clear so JN ES Mx
  have Bq:(ao.less t ⟨0,[]⟩).dw:=⟨rm,Bn⟩
  have JP:ak (ao.less t ⟨0,[]⟩)=aQ t++[32,60,32,48]:=by simp only[ak,yU];rfl
  have c4:az (Str.ofString " < 0")=[32,60,32,48]:=by decide+kernel
  have l4:(Str.ofString " < 0").length=4:=by decide+kernel
  have JQ:az (txt (aQ t)++Str.ofString " < 0")=ak (ao.less t ⟨0,[]⟩):=by rw[aZ,aK,c4,JP]
  have VL:(ak (ao.less t ⟨0,[]⟩)).length≤30:=by rw[JP,List.length_append];simp;omega
  refine⟨_,rfl,.ref tp,t,rfl,Bp,rm,fun VM qD=>⟨_,_,rfl,rfl,by rw[aH,l4,PySem.sizeLine_eq];omega,_,rfl,rl Bq JQ (by omega),fun g hg y VN SW dy=>?_,fun hn=>by rw[jm Bq.ok JQ] at hn;cases hn⟩⟩
  rw[jm Bq.ok JQ] at hg
  cases hg
  have Br:=qD.trans SW
  have Bs:=aA Br.kts _ _ (ao.bb _) Bo
  have JR:=aA Br.kts _ _ f.bb ET
  have JS:=aA Br.kts _ _ t.bb Bp
  have JT:=JO.same Br
  clear Bo ET Bp JO
  refine⟨_,rfl,eqT true dy Bs (by simp[ao.deep]) ⟨_,rfl,aG ?_⟩⟩
  refine⟨_,rfl,d,60,rfl,JT,by decide,fun mn SX m0 m1 k15 VO=>?_⟩
  obtain⟨many,rfl⟩:∃m:Nat,mn=(m:Int):=⟨mn.toNat,by omega⟩
  have EU:=JT.kts (K:=K) k15
  have Ld:=aA EU _ _ (ao.bb _) Bs
  have Ny:=aA EU _ _ f.bb JR
  have Nz:=aA EU _ _ t.bb JS
  clear Bs JR JS JT
  refine⟨_,rfl,_,rfl,_,rfl,Int.le_trans (by decide:(-2 ^ 62:Int)≤0) (by omega),by omega,jM (lo:=0) (n:=many) (fun i σ H'=>∃(y:V) (v11:Option V),σ=[some (.ref sa),some (.ref d),some (.ref N),some (.ref R),some (.ref p),some (.ref tp),some (.str (txt (ak f))),some (.str (txt (ak f))),some (.ref al),some (.int many),some y,v11]∧Same SX H'∧aq K H' y (nest i (ao.less t ⟨0,[]⟩)).dt)
   ⟨.ref al,none,rfl,Same.refl _,Ld⟩ ?_ ?_⟩
  ·rintro i σ SY hi ⟨y,v11,rfl,FX,dy⟩
   refine⟨_,rfl,by show 2≤sizeLine;decide,fun q hq=>⟨_,_,rfl,FX.trans (Same.new hq),?_⟩⟩
   exact bP (.of ag) (ax bu (ax (aA (Same.new hq).kts _ _ (ao.bb _) dy) a_))
  rintro σ SY ⟨yn,v11,rfl,FX,dyn⟩
  have NA:=aA FX.kts _ _ f.bb Ny
  have NB:=aA FX.kts _ _ t.bb Nz
  have EV:=xN Bq many
  have l0:(Str.ofString "not ").length=4:=by decide+kernel
  have c0:az (Str.ofString "not ")=[110,111,116,32]:=by decide+kernel
  have em:=Dr (Str.ofString "not ") many (by rw[l0];decide)
  rw[c0] at em
  have lm:(Txt.mul (Str.ofString "not ") (many:Int)).length≤240:=by
   rw[bE,em,List.length_flatten,List.map_replicate,List.sum_replicate_nat]
   show many*4≤240
   omega
  have FY:az (Txt.mul (Str.ofString "not ") (many:Int)++txt (aQ t)++Str.ofString " < 0")=ak (nest many (ao.less t ⟨0,[]⟩)):=by
   rw[aZ,aZ,em,aK,c4,uN,JP,List.append_assoc]
  have nl:(ak (nest many (ao.less t ⟨0,[]⟩))).length≤400:=by
   rw[←FY,←bE,strLen_append,strLen_append,aH,l4];omega
  have sl:400≤sizeLine:=by decide
  refine⟨_,rfl,_,_,rfl,rfl,by omega,by omega,by decide+kernel,_,rfl,.ref tp,t,rfl,NB,rm,fun VP S_=>⟨_,_,rfl,rfl,by rw[aH];omega,_,_,rfl,rfl,by rw[strLen_append,aH,l4];omega,_,rfl,rl EV FY (by omega),fun g hg y VQ S0 dy=>?_,fun hn=>by rw[jm EV.ok FY] at hn;cases hn⟩⟩
  rw[jm EV.ok FY] at hg
  cases hg
  have Mz:=S_.trans S0
  have JU:=aA Mz.kts _ _ f.bb NA
  refine⟨_,rfl,eqT true dy (aA Mz.kts _ _ (ao.bb _) dyn) (by rw[uM];simp[ao.deep];omega) ⟨_,rfl,aG ?_⟩⟩
  have JV:az (txt (ak f))=ak f:=aK _
  have MA:∀{Hx:Hp} {Qx:VK},aq K Hx (.ref p) f.dt→(∀y H',Same Hx H'→aq K H' y f.dt→Qx y H')→p4 K x.c4 [.str (txt (ak f))] Hx Qx fun _ _ _=>False:=fun _ h=>
   ⟨_,rfl,rl fit JV (by omega),fun g hg y H' s' dy=>by
    rw[jm fit.ok JV] at hg
    cases hg
    exact h y H' s' dy,fun hn=>by rw[jm fit.ok JV] at hn;cases hn⟩
  refine⟨_,rfl,MA JU fun y1 VR S3 xB=>?_⟩
  have EW:=aA S3.kts _ _ f.bb JU
  refine⟨_,rfl,eqT false xB EW (by omega) ⟨_,rfl,bf ?_⟩⟩
  refine⟨_,rfl,.ref p,f,rfl,EW,by omega,fit.ok,fit.few,by omega,fun VS S4=>⟨_,rfl,rfl,_,rfl,?_⟩⟩
  rw[decide_eq_true rfl]
  have JW:=aA S4.kts _ _ f.bb EW
  refine bf ⟨_,rfl,MA JW fun y2 VT S5 xC=>⟨_,rfl,eqT false xC (aA S5.kts _ _ f.bb JW) (by omega) (k _)⟩⟩
@[elab_as_elim] theorem jO {P:List Value→Prop} (us:List Value) (e:us.length=1) (h:∀a,P [a]):P us:=by
 cases us with
 | nil=>cases e
 | cons a us=>cases us with
  | nil=>exact h a
  | cons _ _=>cases e
@[elab_as_elim] theorem ln2 {P:List Value→Prop} (us:List Value) (e:us.length=2) (h:∀a0 a1,P [a0,a1]):P us:=by
 cases us with
 | nil=>cases e
 | cons a us=>exact jO (P:=fun z=>P (a::z)) us (Nat.succ.inj e) (h a)
@[elab_as_elim] theorem uP {P:List Value→Prop} (us:List Value) (e:us.length=3) (h:∀a0 a1 a2,P [a0,a1,a2]):P us:=by
 cases us with
 | nil=>cases e
 | cons a us=>exact ln2 (P:=fun z=>P (a::z)) us (Nat.succ.inj e) (h a)
@[elab_as_elim] theorem MB {P:List Value→Prop} (us:List Value) (e:us.length=4) (h:∀a0 a1 a2 a3,P [a0,a1,a2,a3]):P us:=by
 cases us with
 | nil=>cases e
 | cons a us=>exact uP (P:=fun z=>P (a::z)) us (Nat.succ.inj e) (h a)
@[elab_as_elim] theorem MC {P:List Value→Prop} (us:List Value) (e:us.length=5) (h:∀a0 a1 a2 a3 a4,P [a0,a1,a2,a3,a4]):P us:=by
 cases us with
 | nil=>cases e
 | cons a us=>exact MB (P:=fun z=>P (a::z)) us (Nat.succ.inj e) (h a)
@[elab_as_elim] theorem VU {P:List Value→Prop} (us:List Value) (e:us.length=6) (h:∀a0 a1 a2 a3 a4 a5,P [a0,a1,a2,a3,a4,a5]):P us:=by
 cases us with
 | nil=>cases e
 | cons a us=>exact MC (P:=fun z=>P (a::z)) us (Nat.succ.inj e) (h a)
theorem all_mk {l:PySem.W.OpenLaw} {w:World} {K:PySem.W.Frag} {h:Heap} {mg:Str→Option Value} {fa:Addr} (X:K.In h) (G:h.Ns mainGlobals mg) (hfa:mg "law"=some (.ref fa))
  {f0:Addr} {S6 S7:Option Addr} {S8:Array (Option Value)} {S9 S' Ta Tb MD Tc:Value}
  {f1:Addr} {Td Te:Option Addr} {Tf:Array (Option Value)} {Tg Ti Tj Tn ME To:Value}
  {f2:Addr} {Tp Tq:Option Addr} {sl2:Array (Option Value)} {Tr Ts Tt Tv MF Tw:Value}
  {f3:Addr} {Tx Tz:Option Addr} {TB:Array (Option Value)} {TC TF TH TK MG TL:Value}
  {f4:Addr} {TN TQ:Option Addr} {TR:Array (Option Value)} {TU TV TY T_ MH T2:Value}
  {f5:Addr} {T3 T4:Option Addr} {T5:Array (Option Value)} {T6 T7 T8 T9 MI Ua:Value}
  {f6:Addr} {Ub Uc:Option Addr} {Ud:Array (Option Value)} {Ue Ug Uh Ui MJ Uj:Value}
  {f7:Addr} {Uk Ul:Option Addr} {Um:Array (Option Value)} {Uo Up Uq Ur MK Us:Value}
  {f8:Addr} {Ut Uu:Option Addr} {Uv:Array (Option Value)} {Uw Ux Uy Uz ML UA:Value}
  {f9:Addr} {UB UC:Option Addr} {UD:Array (Option Value)} {UE UG UH UI MM UJ:Value}
  {zS:Addr} {NC ND:Option Addr} {NF:Array (Option Value)} {NG NH NI NJ JX NK:Value}
  {f11:Addr} {NL NM:Option Addr} {NN:Array (Option Value)} {NP NQ NR NS JY NT:Value}
  {FZ:Addr} {NU NV:Option Addr} {NW:Array (Option Value)} {NX NY NZ N_ JZ N0:Value}
  {F_:Addr} {N1 N2:Option Addr} {N3:Array (Option Value)} {N4 N5 N6 N7 J_ N8:Value}
  {F':Addr} {N9 N':Option Addr} {Oa:Array (Option Value)} {Ob Oc Od Oe J0 Og:Value}
  {Ga:Addr} {Oh Oi:Option Addr} {Oj:Array (Option Value)} {Ol Om Oo Oq J4 Ot:Value}
  {Gb:Addr} {Ou Ov:Option Addr} {Ow:Array (Option Value)} {Ox Oy Oz OA J5 OB:Value}
  {Gd:Addr} {OC OD:Option Addr} {OE:Array (Option Value)} {OG OH OI OJ J6 OL:Value}
  {Ge:Addr} {OM OO:Option Addr} {OP:Array (Option Value)} {OQ OS OT OU J7 OV:Value}
  {Gf:Addr} {OW OX:Option Addr} {OY:Array (Option Value)} {OZ O_ O0 O1 J8 O3:Value}
  {Gg:Addr} {O4 O5:Option Addr} {O6:Array (Option Value)} {O7 O8 O9 O' J9 Pa:Value}
  {Gh:Addr} {Pb Pc:Option Addr} {Pd:Array (Option Value)} {Pe Pg Ph Pj J' Pk:Value}
  {Gi:Addr} {Pm Pn:Option Addr} {Po:Array (Option Value)} {Pp Pq Pr Pt Ka Pu:Value}
  {Gj:Addr} {Pw Px:Option Addr} {Py:Array (Option Value)} {PB PC PD PF Kb PH:Value}
  {Gk:Addr} {PK PL:Option Addr} {PN:Array (Option Value)} {PQ PR PU PV Kc PX:Value}
  {Gm:Addr} {PY PZ:Option Addr} {P_:Array (Option Value)} {P0 P1 P2 P4 Kd P5:Value}
  {Gn:Addr} {P6 P7:Option Addr} {P8:Array (Option Value)} {P9 P' Qa Qb Ke Qd:Value}
  {Gp:Addr} {Qe Qg:Option Addr} {Qh:Array (Option Value)} {Qi Qj Qk Ql Kf Qm:Value}
  {Gq:Addr} {Qn Qo:Option Addr} {Qp:Array (Option Value)} {Qq Qr Qs Qt Kg Qu:Value}
  {Gr:Addr} {Qv Qw:Option Addr} {Qy:Array (Option Value)} {Qz QA QB QC Kh QD:Value}
  {Gs:Addr} {QE QF:Option Addr} {QG:Array (Option Value)} {QH QI QJ QK Ki QL:Value}
  {Gu:Addr} {QM QN:Option Addr} {QO:Array (Option Value)} {QP QQ QR QS Kj QT:Value}
  {f32:Addr} {QU QV:Option Addr} {QW:Array (Option Value)} {QX QY QZ Q_ Kk Q0:Value}
  {Gv:Addr} {Q3 Q4:Option Addr} {Q5:Array (Option Value)} {Q6 Q7 Q8 Q9 Kl Ra:Value}
  {Km:Addr} {Rb Kn:Option Addr} {Rc:Array (Option Value)} {Rf Ko Kp Kq EY Kr:Value}
  (a0:PySem.W.nsIn K mainGlobals "inner_parts"=some (some (.ref f0))) (l0:K.lookup f0=some ⟨S9,S6,.func (PySem.W.fnOf "inner_parts" "inner_parts" (aW dQ) (aT dQ) (au dQ) .none S' Ta Tb S7 MD Tc),S8⟩) (c0:PySem.W.codeIn K MD "inner_parts"=true) (k0:PySem.W.keepIn K (.ref f0)=true)
  (a1:PySem.W.nsIn K mainGlobals "parts_in_order"=some (some (.ref f1))) (l1:K.lookup f1=some ⟨Tg,Td,.func (PySem.W.fnOf "parts_in_order" "parts_in_order" (aW du) (aT du) (au du) .none Ti Tj Tn Te ME To),Tf⟩) (c1:PySem.W.codeIn K ME "parts_in_order"=true) (k1:PySem.W.keepIn K (.ref f1)=true)
  (a2:PySem.W.nsIn K mainGlobals "told_of_parts"=some (some (.ref f2))) (l2:K.lookup f2=some ⟨Tr,Tp,.func (PySem.W.fnOf "told_of_parts" "told_of_parts" (aW cY) (aT cY) (au cY) .none Ts Tt Tv Tq MF Tw),sl2⟩) (c2:PySem.W.codeIn K MF "told_of_parts"=true) (k2:PySem.W.keepIn K (.ref f2)=true)
  (a3:PySem.W.nsIn K mainGlobals "show_part"=some (some (.ref f3))) (l3:K.lookup f3=some ⟨TC,Tx,.func (PySem.W.fnOf "show_part" "show_part" (aW gi) (aT gi) (au gi) .none TF TH TK Tz MG TL),TB⟩) (c3:PySem.W.codeIn K MG "show_part"=true) (k3:PySem.W.keepIn K (.ref f3)=true)
  (a4:PySem.W.nsIn K mainGlobals "show_term"=some (some (.ref f4))) (l4:K.lookup f4=some ⟨TU,TN,.func (PySem.W.fnOf "show_term" "show_term" (aW fj) (aT fj) (au fj) .none TV TY T_ TQ MH T2),TR⟩) (c4:PySem.W.codeIn K MH "show_term"=true) (k4:PySem.W.keepIn K (.ref f4)=true)
  (a5:PySem.W.nsIn K mainGlobals "show_at"=some (some (.ref f5))) (l5:K.lookup f5=some ⟨T6,T3,.func (PySem.W.fnOf "show_at" "show_at" (aW iw) (aT iw) (au iw) .none T7 T8 T9 T4 MI Ua),T5⟩) (c5:PySem.W.codeIn K MI "show_at"=true) (k5:PySem.W.keepIn K (.ref f5)=true)
  (a6:PySem.W.nsIn K mainGlobals "show_atom"=some (some (.ref f6))) (l6:K.lookup f6=some ⟨Ue,Ub,.func (PySem.W.fnOf "show_atom" "show_atom" (aW gj) (aT gj) (au gj) .none Ug Uh Ui Uc MJ Uj),Ud⟩) (c6:PySem.W.codeIn K MJ "show_atom"=true) (k6:PySem.W.keepIn K (.ref f6)=true)
  (a7:PySem.W.nsIn K mainGlobals "show_over"=some (some (.ref f7))) (l7:K.lookup f7=some ⟨Uo,Uk,.func (PySem.W.fnOf "show_over" "show_over" (aW gk) (aT gk) (au gk) .none Up Uq Ur Ul MK Us),Um⟩) (c7:PySem.W.codeIn K MK "show_over"=true) (k7:PySem.W.keepIn K (.ref f7)=true)
  (a8:PySem.W.nsIn K mainGlobals "show_saying"=some (some (.ref f8))) (l8:K.lookup f8=some ⟨Uw,Ut,.func (PySem.W.fnOf "show_saying" "show_saying" (aW eM) (aT eM) (au eM) .none Ux Uy Uz Uu ML UA),Uv⟩) (c8:PySem.W.codeIn K ML "show_saying"=true) (k8:PySem.W.keepIn K (.ref f8)=true)
  (a9:PySem.W.nsIn K mainGlobals "due"=some (some (.ref f9))) (l9:K.lookup f9=some ⟨UE,UB,.func (PySem.W.fnOf "due" "due" (aW qe) (aT qe) (au qe) .none UG UH UI UC MM UJ),UD⟩) (c9:PySem.W.codeIn K MM "due"=true) (k9:PySem.W.keepIn K (.ref f9)=true)
  (a10:PySem.W.nsIn K mainGlobals "run_end"=some (some (.ref zS))) (l10:K.lookup zS=some ⟨NG,NC,.func (PySem.W.fnOf "run_end" "run_end" (aW ix) (aT ix) (au ix) .none NH NI NJ ND JX NK),NF⟩) (c10:PySem.W.codeIn K JX "run_end"=true) (k10:PySem.W.keepIn K (.ref zS)=true)
  (a11:PySem.W.nsIn K mainGlobals "is_made_of"=some (some (.ref f11))) (l11:K.lookup f11=some ⟨NP,NL,.func (PySem.W.fnOf "is_made_of" "is_made_of" (aW eE) (aT eE) (au eE) .none NQ NR NS NM JY NT),NN⟩) (c11:PySem.W.codeIn K JY "is_made_of"=true) (k11:PySem.W.keepIn K (.ref f11)=true)
  (a12:PySem.W.nsIn K mainGlobals "read_name"=some (some (.ref FZ))) (l12:K.lookup FZ=some ⟨NX,NU,.func (PySem.W.fnOf "read_name" "read_name" (aW gm) (aT gm) (au gm) .none NY NZ N_ NV JZ N0),NW⟩) (c12:PySem.W.codeIn K JZ "read_name"=true) (k12:PySem.W.keepIn K (.ref FZ)=true)
  (a13:PySem.W.nsIn K mainGlobals "read_figure"=some (some (.ref F_))) (l13:K.lookup F_=some ⟨N4,N1,.func (PySem.W.fnOf "read_figure" "read_figure" (aW eO) (aT eO) (au eO) .none N5 N6 N7 N2 J_ N8),N3⟩) (c13:PySem.W.codeIn K J_ "read_figure"=true) (k13:PySem.W.keepIn K (.ref F_)=true)
  (a14:PySem.W.nsIn K mainGlobals "is_number"=some (some (.ref F'))) (l14:K.lookup F'=some ⟨Ob,N9,.func (PySem.W.fnOf "is_number" "is_number" (aW gp) (aT gp) (au gp) .none Oc Od Oe N' J0 Og),Oa⟩) (c14:PySem.W.codeIn K J0 "is_number"=true) (k14:PySem.W.keepIn K (.ref F')=true)
  (a15:PySem.W.nsIn K mainGlobals "read_part"=some (some (.ref Ga))) (l15:K.lookup Ga=some ⟨Ol,Oh,.func (PySem.W.fnOf "read_part" "read_part" (aW gq) (aT gq) (au gq) .none Om Oo Oq Oi J4 Ot),Oj⟩) (c15:PySem.W.codeIn K J4 "read_part"=true) (k15:PySem.W.keepIn K (.ref Ga)=true)
  (a16:PySem.W.nsIn K mainGlobals "read_term"=some (some (.ref Gb))) (l16:K.lookup Gb=some ⟨Ox,Ou,.func (PySem.W.fnOf "read_term" "read_term" (aW dW) (aT dW) (au dW) .none Oy Oz OA Ov J5 OB),Ow⟩) (c16:PySem.W.codeIn K J5 "read_term"=true) (k16:PySem.W.keepIn K (.ref Gb)=true)
  (a17:PySem.W.nsIn K mainGlobals "term_at"=some (some (.ref Gd))) (l17:K.lookup Gd=some ⟨OG,OC,.func (PySem.W.fnOf "term_at" "term_at" (aW iy) (aT iy) (au iy) .none OH OI OJ OD J6 OL),OE⟩) (c17:PySem.W.codeIn K J6 "term_at"=true) (k17:PySem.W.keepIn K (.ref Gd)=true)
  (a18:PySem.W.nsIn K mainGlobals "row_at"=some (some (.ref Ge))) (l18:K.lookup Ge=some ⟨OQ,OM,.func (PySem.W.fnOf "row_at" "row_at" (aW je) (aT je) (au je) .none OS OT OU OO J7 OV),OP⟩) (c18:PySem.W.codeIn K J7 "row_at"=true) (k18:PySem.W.keepIn K (.ref Ge)=true)
  (a19:PySem.W.nsIn K mainGlobals "sides_at"=some (some (.ref Gf))) (l19:K.lookup Gf=some ⟨OZ,OW,.func (PySem.W.fnOf "sides_at" "sides_at" (aW gR) (aT gR) (au gR) .none O_ O0 O1 OX J8 O3),OY⟩) (c19:PySem.W.codeIn K J8 "sides_at"=true) (k19:PySem.W.keepIn K (.ref Gf)=true)
  (a20:PySem.W.nsIn K mainGlobals "signs_at"=some (some (.ref Gg))) (l20:K.lookup Gg=some ⟨O7,O4,.func (PySem.W.fnOf "signs_at" "signs_at" (aW gT) (aT gT) (au gT) .none O8 O9 O' O5 J9 Pa),O6⟩) (c20:PySem.W.codeIn K J9 "signs_at"=true) (k20:PySem.W.keepIn K (.ref Gg)=true)
  (a21:PySem.W.nsIn K mainGlobals "atom_at"=some (some (.ref Gh))) (l21:K.lookup Gh=some ⟨Pe,Pb,.func (PySem.W.fnOf "atom_at" "atom_at" (aW iz) (aT iz) (au iz) .none Pg Ph Pj Pc J' Pk),Pd⟩) (c21:PySem.W.codeIn K J' "atom_at"=true) (k21:PySem.W.keepIn K (.ref Gh)=true)
  (a22:PySem.W.nsIn K mainGlobals "opening_at"=some (some (.ref Gi))) (l22:K.lookup Gi=some ⟨Pp,Pm,.func (PySem.W.fnOf "opening_at" "opening_at" (aW fA) (aT fA) (au fA) .none Pq Pr Pt Pn Ka Pu),Po⟩) (c22:PySem.W.codeIn K Ka "opening_at"=true) (k22:PySem.W.keepIn K (.ref Gi)=true)
  (a23:PySem.W.nsIn K mainGlobals "opened"=some (some (.ref Gj))) (l23:K.lookup Gj=some ⟨PB,Pw,.func (PySem.W.fnOf "opened" "opened" (aW jf) (aT jf) (au jf) .none PC PD PF Px Kb PH),Py⟩) (c23:PySem.W.codeIn K Kb "opened"=true) (k23:PySem.W.keepIn K (.ref Gj)=true)
  (a24:PySem.W.nsIn K mainGlobals "closed"=some (some (.ref Gk))) (l24:K.lookup Gk=some ⟨PQ,PK,.func (PySem.W.fnOf "closed" "closed" (aW jg) (aT jg) (au jg) .none PR PU PV PL Kc PX),PN⟩) (c24:PySem.W.codeIn K Kc "closed"=true) (k24:PySem.W.keepIn K (.ref Gk)=true)
  (a25:PySem.W.nsIn K mainGlobals "read_saying"=some (some (.ref Gm))) (l25:K.lookup Gm=some ⟨P0,PY,.func (PySem.W.fnOf "read_saying" "read_saying" (aW eQ) (aT eQ) (au eQ) .none P1 P2 P4 PZ Kd P5),P_⟩) (c25:PySem.W.codeIn K Kd "read_saying"=true) (k25:PySem.W.keepIn K (.ref Gm)=true)
  (a26:PySem.W.nsIn K mainGlobals "_law_deck"=some (some (.ref Gn))) (l26:K.lookup Gn=some ⟨P9,P6,.func (PySem.W.fnOf "_law_deck" "_law_deck" (aW jh) (aT jh) (au jh) .none P' Qa Qb P7 Ke Qd),P8⟩) (c26:PySem.W.codeIn K Ke "_law_deck"=true) (k26:PySem.W.keepIn K (.ref Gn)=true)
  (a27:PySem.W.nsIn K mainGlobals "_law_next"=some (some (.ref Gp))) (l27:K.lookup Gp=some ⟨Qi,Qe,.func (PySem.W.fnOf "_law_next" "_law_next" (aW ji) (aT ji) (au ji) .none Qj Qk Ql Qg Kf Qm),Qh⟩) (c27:PySem.W.codeIn K Kf "_law_next"=true) (k27:PySem.W.keepIn K (.ref Gp)=true)
  (a28:PySem.W.nsIn K mainGlobals "_law_names"=some (some (.ref Gq))) (l28:K.lookup Gq=some ⟨Qq,Qn,.func (PySem.W.fnOf "_law_names" "_law_names" (aW eX) (aT eX) (au eX) .none Qr Qs Qt Qo Kg Qu),Qp⟩) (c28:PySem.W.codeIn K Kg "_law_names"=true) (k28:PySem.W.keepIn K (.ref Gq)=true)
  (a29:PySem.W.nsIn K mainGlobals "_law_term"=some (some (.ref Gr))) (l29:K.lookup Gr=some ⟨Qz,Qv,.func (PySem.W.fnOf "_law_term" "_law_term" (aW jj) (aT jj) (au jj) .none QA QB QC Qw Kh QD),Qy⟩) (c29:PySem.W.codeIn K Kh "_law_term"=true) (k29:PySem.W.keepIn K (.ref Gr)=true)
  (a30:PySem.W.nsIn K mainGlobals "_law_plain"=some (some (.ref Gs))) (l30:K.lookup Gs=some ⟨QH,QE,.func (PySem.W.fnOf "_law_plain" "_law_plain" (aW iA) (aT iA) (au iA) .none QI QJ QK QF Ki QL),QG⟩) (c30:PySem.W.codeIn K Ki "_law_plain"=true) (k30:PySem.W.keepIn K (.ref Gs)=true)
  (a31:PySem.W.nsIn K mainGlobals "_law_saying"=some (some (.ref Gu))) (l31:K.lookup Gu=some ⟨QP,QM,.func (PySem.W.fnOf "_law_saying" "_law_saying" (aW gU) (aT gU) (au gU) .none QQ QR QS QN Kj QT),QO⟩) (c31:PySem.W.codeIn K Kj "_law_saying"=true) (k31:PySem.W.keepIn K (.ref Gu)=true)
  (a32:PySem.W.nsIn K mainGlobals "_law_term_text"=some (some (.ref f32))) (l32:K.lookup f32=some ⟨QX,QU,.func (PySem.W.fnOf "_law_term_text" "_law_term_text" (aW eS) (aT eS) (au eS) .none QY QZ Q_ QV Kk Q0),QW⟩) (c32:PySem.W.codeIn K Kk "_law_term_text"=true) (k32:PySem.W.keepIn K (.ref f32)=true)
  (a33:PySem.W.nsIn K mainGlobals "_law_text"=some (some (.ref Gv))) (l33:K.lookup Gv=some ⟨Q6,Q3,.func (PySem.W.fnOf "_law_text" "_law_text" (aW jk) (aT jk) (au jk) .none Q7 Q8 Q9 Q4 Kl Ra),Q5⟩) (c33:PySem.W.codeIn K Kl "_law_text"=true) (k33:PySem.W.keepIn K (.ref Gv)=true)
  (a34:PySem.W.nsIn K mainGlobals "law"=some (some (.ref Km))) (l34:K.lookup Km=some ⟨Rf,Rb,.func (PySem.W.fnOf "law" "law" (aW j5) (aT j5) (au j5) .none Ko Kp Kq Kn EY Kr),Rc⟩) (c34:PySem.W.codeIn K EY "law"=true) (k34:PySem.W.keepIn K (.ref Km)=true)
  (z0:PySem.W.nsIn K mainGlobals "ValueError"=some none)
  (z1:PySem.W.nsIn K mainGlobals "list"=some none)
  (z2:PySem.W.nsIn K mainGlobals "all"=some none)
  (z3:PySem.W.nsIn K mainGlobals "int"=some none)
  (z4:PySem.W.nsIn K mainGlobals "range"=some none)
  (z5:PySem.W.nsIn K mainGlobals "sorted"=some none)
  (z6:PySem.W.nsIn K mainGlobals "enumerate"=some none)
  (z7:PySem.W.nsIn K mainGlobals "reversed"=some none)
  (z8:PySem.W.nsIn K mainGlobals "len"=some none)
  (z9:PySem.W.nsIn K mainGlobals "tuple"=some none)
  (z10:PySem.W.nsIn K mainGlobals "min"=some none)
  (z11:PySem.W.nsIn K mainGlobals "str"=some none)
  (z12:PySem.W.nsIn K mainGlobals "set"=some none)
  (z13:PySem.W.nsIn K mainGlobals "isinstance"=some none)
  {gt0:Tok} (gg0:PySem.W.nsIn K mainGlobals "SMALL"=some (some (.str "abcdefghijklmnopqrstuvwxyz" gt0)))
  {UK:Tok} (gg1:PySem.W.nsIn K mainGlobals "GREAT"=some (some (.str "ABCDEFGHIJKLMNOPQRSTUVWXYZ" UK)))
  {UL:Tok} (gg2:PySem.W.nsIn K mainGlobals "FIGURES"=some (some (.str "0123456789" UL)))
  {UM:Tok} (gg3:PySem.W.nsIn K mainGlobals "TERM_SIGNS"=some (some (.str "abcdefghijklmnopqrstuvwxyz0123456789+" UM)))
  {UN:Tok} (gg4:PySem.W.nsIn K mainGlobals "LONGEST_NAME"=some (some (.int 3 UN)))
  {xDC Gw:Addr} {Rg UO:_} {Rh Ri Le Rj Lf Rk Rm Ro Rp Rq Rr:_}
  (xDa:PySem.W.nsIn K mainGlobals "JudgeError"=some (some (.ref xDC)))
  (xDl:K.lookup xDC=some (PySem.excClassObj Rg UO xDC Gw Rh j3 true Ri Le Rj Lf Rk Rm Ro Rp Rq Rr "ValueError.__new__"))
  {MN:Obj}
  (xDnl:K.lookup Gw=some MN)
  (xDno:nsO MN=true)
  (xDni:PySem.W.nsIn K Gw "__init__"=some none)
  (xDg:PySem.W.specialIn K (.ref xDC) "__getattribute__"=some (some (.builtin "type.__getattribute__")))
  (xDr:PySem.W.readsIn K xDC (.type "type")=true)
  (xDf:PySem.W.findCls K (.ref xDC) (.type "type") "__init__"=some (.val (.builtin "ValueError.__init__")))
  (xDga:PySem.W.findIn K (.ref xDC) "__getattribute__"=some (some (.builtin "BaseException.__getattribute__")))
  (xDgh:PySem.W.findIn K (.ref xDC) "__getattr__"=some none)
  (xDsa:PySem.W.findIn K (.ref xDC) "__setattr__"=some (some (.builtin "object.__setattr__")))
  (xDcl:PySem.W.findIn K (.ref xDC) "__class__"=some (some (.builtin "object.__class__")))
  (xgt:PySem.W.specialIn K (.builtin "object.__class__") "__get__"=some (some (.builtin "getset_descriptor.__get__")))
  (xtk:PySem.W.takesIn K (.builtin "object.__class__")=some true)
  (xzV:PySem.W.nsIn K mainGlobals "ValueError"=some none)
  {x4C UP:Addr} {Rt UQ:_} {Ru Rv Lg Rw Lh Rx Ry RA RB RC RD:_}
  (x4a:PySem.W.nsIn K mainGlobals "NoText"=some (some (.ref x4C)))
  (x4l:K.lookup x4C=some (PySem.excClassObj Rt UQ x4C UP Ru (.ref xDC::j3) true Rv Lg Rw Lh Rx Ry RA RB RC RD "ValueError.__new__"))
  (x4ga:PySem.W.findIn K (.ref x4C) "__getattribute__"=some (some (.builtin "BaseException.__getattribute__")))
  (x4gh:PySem.W.findIn K (.ref x4C) "__getattr__"=some none)
  (x4sa:PySem.W.findIn K (.ref x4C) "__setattr__"=some (some (.builtin "object.__setattr__")))
  (x4cl:PySem.W.findIn K (.ref x4C) "__class__"=some (some (.builtin "object.__class__")))
  {x4F:Addr} {Li Lj:Option Addr} {Lk:Array (Option Value)} {Ll Lm Ln Lo Gx Lp:Value}
  (x4i:PySem.W.findIn K (.ref x4C) "__init__"=some (some (.ref x4F)))
  (x4fl:K.lookup x4F=some ⟨Ll,Li,.func (PySem.W.fnOf "__init__" "NoText.__init__" (aW tB) (aT tB) (au tB) .none Lm Ln Lo Lj Gx Lp),Lk⟩)
  (x4fc:PySem.W.codeIn K Gx "NoText.__init__"=true)
  (x4fk:PySem.W.keepIn K (.ref x4F)=true)
  (x4fn:PySem.W.isFn K (.ref x4F)=true)
  (x4k:PySem.W.keepIn K (.ref x4C)=true)
  (xne:¬x4C=xDC)
  {pd:Addr} {Ks:Array DictEntry} {pn:Nat}
  {Bt:Addr} {Lq:Nat} {Kt:_}
  {Bu:Addr} {Lr:Nat} {Ku:_} {Kv:_}
  {Bv:Addr} {Ls:Nat} {Kw:_} {Kx:_}
  {Bw:Addr} {Lu:Nat} {Ky:_}
  {Bx:Addr} {Lv:Nat} {Kz:_}
  (p_a:PySem.W.nsIn K mainGlobals "PART_SPOTS"=some (some (.ref pd))) (p_l:K.lookup pd=some ⟨.type "dict",none,.dict Ks pn, #[]⟩) (p_k:PySem.W.KeysLit w.params Ks.toList) (p_s:(pd == sysModules)=false)
  (pq_no:PySem.W.nsIn K pd "not"=some (some (.ref Bt))) (pr_no:K.lookup Bt=some ⟨.type "tuple",none,.seq #[.int 1 Kt] Lq, #[]⟩)
  (pq_an:PySem.W.nsIn K pd "and"=some (some (.ref Bu))) (pr_an:K.lookup Bu=some ⟨.type "tuple",none,.seq #[.int 1 Ku,.int 2 Kv] Lr, #[]⟩)
  (pq_or:PySem.W.nsIn K pd "or"=some (some (.ref Bv))) (pr_or:K.lookup Bv=some ⟨.type "tuple",none,.seq #[.int 1 Kw,.int 2 Kx] Ls, #[]⟩)
  (pq_so:PySem.W.nsIn K pd "some"=some (some (.ref Bw))) (pr_so:K.lookup Bw=some ⟨.type "tuple",none,.seq #[.int 2 Ky] Lu, #[]⟩)
  (pq_ea:PySem.W.nsIn K pd "each"=some (some (.ref Bx))) (pr_ea:K.lookup Bx=some ⟨.type "tuple",none,.seq #[.int 2 Kz] Lv, #[]⟩)
  (pq_same:PySem.W.nsIn K pd "same"=some none)
  (pq_less:PySem.W.nsIn K pd "less"=some none)
  (pq_sign:PySem.W.nsIn K pd "sign"=some none)
  (pq_alike:PySem.W.nsIn K pd "alike"=some none)
  :∃fd:FuncData,(∀(s:Shared) (v:Value),BindsTo s fd ⟨[v],[]⟩ [("_law_script",v)])∧∀base:Heap,K.In base→base.Ns mainGlobals mg→aR l.prog w K mg base cX 17 fa fd ["_law_script"] (vh K):=by
 have e:=hfa.symm.trans (PySem.W.mg_of X G a34)
 cases e
 have F0:=bC (st:=dQ) l0 c0 k0
 have b0:=F0.binds (ps:=["saying"]) fun _ _ _ _ _ _ us hl=>jO us hl fun _=>rfl
 have F1:=bC (st:=du) l1 c1 k1
 have b1:=F1.binds (ps:=["saying"]) fun _ _ _ _ _ _ us hl=>jO us hl fun _=>rfl
 have F2:=bC (st:=cY) l2 c2 k2
 have b2:=F2.binds (ps:=["told","place","saying"]) fun _ _ _ _ _ _ us hl=>uP us hl fun _ _ _=>rfl
 have F3:=bC (st:=gi) l3 c3 k3
 have b3:=F3.binds (ps:=["part"]) fun _ _ _ _ _ _ us hl=>jO us hl fun _=>rfl
 have F4:=bC (st:=fj) l4 c4 k4
 have b4:=F4.binds (ps:=["term"]) fun _ _ _ _ _ _ us hl=>jO us hl fun _=>rfl
 have F5:=bC (st:=iw) l5 c5 k5
 have b5:=F5.binds (ps:=["name","term"]) fun _ _ _ _ _ _ us hl=>ln2 us hl fun _ _=>rfl
 have F6:=bC (st:=gj) l6 c6 k6
 have b6:=F6.binds (ps:=["saying"]) fun _ _ _ _ _ _ us hl=>jO us hl fun _=>rfl
 have F7:=bC (st:=gk) l7 c7 k7
 have b7:=F7.binds (ps:=["saying","inner"]) fun _ _ _ _ _ _ us hl=>ln2 us hl fun _ _=>rfl
 have F8:=bC (st:=eM) l8 c8 k8
 have b8:=F8.binds (ps:=["saying"]) fun _ _ _ _ _ _ us hl=>jO us hl fun _=>rfl
 have F9:=bC (st:=qe) l9 c9 k9
 have b9:=F9.binds (ps:=["text","at","piece"]) fun _ _ _ _ _ _ us hl=>uP us hl fun _ _ _=>rfl
 have F10:=bC (st:=ix) l10 c10 k10
 have b10:=F10.binds (ps:=["text","at","signs"]) fun _ _ _ _ _ _ us hl=>uP us hl fun _ _ _=>rfl
 have F11:=bC (st:=eE) l11 c11 k11
 have UR:=F11.binds (ps:=["some","signs"]) fun _ _ _ _ _ _ us hl=>ln2 us hl fun _ _=>rfl
 have F12:=bC (st:=gm) l12 c12 k12
 have US:=F12.binds (ps:=["some","signs"]) fun _ _ _ _ _ _ us hl=>ln2 us hl fun _ _=>rfl
 have F13:=bC (st:=eO) l13 c13 k13
 have UT:=F13.binds (ps:=["some"]) fun _ _ _ _ _ _ us hl=>jO us hl fun _=>rfl
 have F14:=bC (st:=gp) l14 c14 k14
 have UU:=F14.binds (ps:=["some"]) fun _ _ _ _ _ _ us hl=>jO us hl fun _=>rfl
 have F15:=bC (st:=gq) l15 c15 k15
 have UW:=F15.binds (ps:=["some"]) fun _ _ _ _ _ _ us hl=>jO us hl fun _=>rfl
 have F16:=bC (st:=dW) l16 c16 k16
 have UX:=F16.binds (ps:=["some"]) fun _ _ _ _ _ _ us hl=>jO us hl fun _=>rfl
 have F17:=bC (st:=iy) l17 c17 k17
 have UY:=F17.binds (ps:=["text","at"]) fun _ _ _ _ _ _ us hl=>ln2 us hl fun _ _=>rfl
 have F18:=bC (st:=je) l18 c18 k18
 have UZ:=F18.binds (ps:=["text","at"]) fun _ _ _ _ _ _ us hl=>ln2 us hl fun _ _=>rfl
 have F19:=bC (st:=gR) l19 c19 k19
 have U_:=F19.binds (ps:=["text","at"]) fun _ _ _ _ _ _ us hl=>ln2 us hl fun _ _=>rfl
 have F20:=bC (st:=gT) l20 c20 k20
 have U0:=F20.binds (ps:=["text","at"]) fun _ _ _ _ _ _ us hl=>ln2 us hl fun _ _=>rfl
 have F21:=bC (st:=iz) l21 c21 k21
 have U1:=F21.binds (ps:=["text","at"]) fun _ _ _ _ _ _ us hl=>ln2 us hl fun _ _=>rfl
 have F22:=bC (st:=fA) l22 c22 k22
 have U2:=F22.binds (ps:=["text","at"]) fun _ _ _ _ _ _ us hl=>ln2 us hl fun _ _=>rfl
 have F23:=bC (st:=jf) l23 c23 k23
 have U3:=F23.binds (ps:=["text","at","waiting"]) fun _ _ _ _ _ _ us hl=>uP us hl fun _ _ _=>rfl
 have F24:=bC (st:=jg) l24 c24 k24
 have U4:=F24.binds (ps:=["text","at","waiting","saying"]) fun _ _ _ _ _ _ us hl=>MB us hl fun _ _ _ _=>rfl
 have F25:=bC (st:=eQ) l25 c25 k25
 have U5:=F25.binds (ps:=["text"]) fun _ _ _ _ _ _ us hl=>jO us hl fun _=>rfl
 have F26:=bC (st:=jh) l26 c26 k26
 have U6:=F26.binds (ps:=["_law_script","_law_many"]) fun _ _ _ _ _ _ us hl=>ln2 us hl fun _ _=>rfl
 have F27:=bC (st:=ji) l27 c27 k27
 have U7:=F27.binds (ps:=["_law_deck_here","_law_many"]) fun _ _ _ _ _ _ us hl=>ln2 us hl fun _ _=>rfl
 have F28:=bC (st:=eX) l28 c28 k28
 have U8:=F28.binds (ps:=["_law_deck_here","_law_many","_law_great"]) fun _ _ _ _ _ _ us hl=>uP us hl fun _ _ _=>rfl
 have F29:=bC (st:=jj) l29 c29 k29
 have U9:=F29.binds (ps:=["_law_deck_here","_law_names_here"]) fun _ _ _ _ _ _ us hl=>ln2 us hl fun _ _=>rfl
 have F30:=bC (st:=iA) l30 c30 k30
 have U':=F30.binds (ps:=["_law_deck_here","_law_names_here","_law_rows"]) fun _ _ _ _ _ _ us hl=>uP us hl fun _ _ _=>rfl
 have F31:=bC (st:=gU) l31 c31 k31
 have Va:=F31.binds (ps:=["_law_deck_here","_law_names_here","_law_rows","_law_box","_law_deep"]) fun _ _ _ _ _ _ us hl=>MC us hl fun _ _ _ _ _=>rfl
 have F32:=bC (st:=eS) l32 c32 k32
 have Vb:=F32.binds (ps:=["_law_term_here"]) fun _ _ _ _ _ _ us hl=>jO us hl fun _=>rfl
 have F33:=bC (st:=jk) l33 c33 k33
 have Vc:=F33.binds (ps:=["_law_saying_here"]) fun _ _ _ _ _ _ us hl=>jO us hl fun _=>rfl
 have F34:=bC (st:=j5) l34 c34 k34
 have T:Txt K mg ⟨f0,_,f1,_,f2,_,f3,_,f4,_,f5,_,f6,_,f7,_,f8,_,f9,_,zS,_,f11,_,FZ,_,F_,_,F',_,Ga,_,Gb,_,Gd,_,Ge,_,Gf,_,Gg,_,Gh,_,Gi,_,Gj,_,Gk,_,Gm,_,Gn,_,Gp,_,Gq,_,Gr,_,Gs,_,Gu,_,f32,_,Gv,_,fa,_⟩:=⟨F0,PySem.W.mg_of X G a0,k0,b0,F1,PySem.W.mg_of X G a1,k1,b1,F2,PySem.W.mg_of X G a2,k2,b2,F3,PySem.W.mg_of X G a3,k3,b3,F4,PySem.W.mg_of X G a4,k4,b4,F5,PySem.W.mg_of X G a5,k5,b5,F6,PySem.W.mg_of X G a6,k6,b6,F7,PySem.W.mg_of X G a7,k7,b7,F8,PySem.W.mg_of X G a8,k8,b8,F9,PySem.W.mg_of X G a9,k9,b9,F10,PySem.W.mg_of X G a10,k10,b10,F11,PySem.W.mg_of X G a11,k11,UR,F12,PySem.W.mg_of X G a12,k12,US,F13,PySem.W.mg_of X G a13,k13,UT,F14,PySem.W.mg_of X G a14,k14,UU,F15,PySem.W.mg_of X G a15,k15,UW,F16,PySem.W.mg_of X G a16,k16,UX,F17,PySem.W.mg_of X G a17,k17,UY,F18,PySem.W.mg_of X G a18,k18,UZ,F19,PySem.W.mg_of X G a19,k19,U_,F20,PySem.W.mg_of X G a20,k20,U0,F21,PySem.W.mg_of X G a21,k21,U1,F22,PySem.W.mg_of X G a22,k22,U2,F23,PySem.W.mg_of X G a23,k23,U3,F24,PySem.W.mg_of X G a24,k24,U4,F25,PySem.W.mg_of X G a25,k25,U5,F26,PySem.W.mg_of X G a26,k26,U6,F27,PySem.W.mg_of X G a27,k27,U7,F28,PySem.W.mg_of X G a28,k28,U8,F29,PySem.W.mg_of X G a29,k29,U9,F30,PySem.W.mg_of X G a30,k30,U',F31,PySem.W.mg_of X G a31,k31,Va,F32,PySem.W.mg_of X G a32,k32,Vb,F33,PySem.W.mg_of X G a33,k33,Vc,F34,PySem.W.mg_of X G a34,PySem.W.mg_none_of X G z0,PySem.W.mg_none_of X G z1,PySem.W.mg_none_of X G z2,PySem.W.mg_none_of X G z3,PySem.W.mg_none_of X G z4,PySem.W.mg_none_of X G z5,PySem.W.mg_none_of X G z6,PySem.W.mg_none_of X G z7,PySem.W.mg_none_of X G z8,PySem.W.mg_none_of X G z9,PySem.W.mg_none_of X G z10,PySem.W.mg_none_of X G z11,PySem.W.mg_none_of X G z12,PySem.W.mg_none_of X G z13,⟨_,PySem.W.mg_of X G gg0⟩,⟨_,PySem.W.mg_of X G gg1⟩,⟨_,PySem.W.mg_of X G gg2⟩,⟨_,PySem.W.mg_of X G gg3⟩,⟨_,PySem.W.mg_of X G gg4⟩⟩
 have Vd:XC K xDC j3:=⟨⟨_,_,_,_,_,_,_,_,_,_,_,_,_,_,xDl⟩,Fu,zt,xDga,xDgh,xDsa,xDcl,xgt,xtk⟩
 have Ve:PySem.W.tailIn K j3 (.ref xDC::j3)=true:=K2 (N:=Gw) xDl rfl (GW xDnl xDno) xDni
 have Vf:XC K x4C (.ref xDC::j3):=⟨⟨_,_,_,_,_,_,_,_,_,_,_,_,_,_,x4l⟩,Ve,GX,x4ga,x4gh,x4sa,x4cl,xgt,xtk⟩
 have x4FF:=bC (st:=tB) x4fl x4fc x4fk
 have x4B:=x4FF.binds (ps:=["self"]) fun _ _ _ _ _ _ us hl=>match us,hl with | [_],_=>rfl
 have TE:TX K mg ⟨xDC,x4C,x4F,_⟩:=⟨Vd,⟨xDg,xDr,xDf⟩,PySem.W.mg_of X G xDa,PySem.W.mg_none_of X G xzV,Vf,⟨x4i,x4fn,x4k⟩,PySem.W.mg_of X G x4a,x4FF,x4B,xne,⟨h,X⟩⟩
 have Dp:sU K w.params pd (dY ⟨pd,Bt,Bu,Bv,Bw,Bx⟩):=⟨⟨Ks,pn,p_l,p_k,by
  intro x r hm
  simp only[dY,List.mem_cons,List.mem_nil_iff,or_false,Prod.mk.injEq] at hm
  rcases hm with⟨rfl,rfl⟩ | ⟨rfl,rfl⟩ | ⟨rfl,rfl⟩ | ⟨rfl,rfl⟩ | ⟨rfl,rfl⟩ | ⟨rfl,rfl⟩ | ⟨rfl,rfl⟩ | ⟨rfl,rfl⟩ | ⟨rfl,rfl⟩
  ·rw[PySem.W.find_K p_l pq_no];exact rfl
  ·rw[PySem.W.find_K p_l pq_an];exact rfl
  ·rw[PySem.W.find_K p_l pq_or];exact rfl
  ·rw[PySem.W.find_K p_l pq_so];exact rfl
  ·rw[PySem.W.find_K p_l pq_ea];exact rfl
  ·rw[PySem.W.find_K p_l pq_same];exact True.intro
  ·rw[PySem.W.find_K p_l pq_less];exact True.intro
  ·rw[PySem.W.find_K p_l pq_sign];exact True.intro
  ·rw[PySem.W.find_K p_l pq_alike];exact True.intro⟩,p_s⟩
 have U:mh K w.params mg ⟨pd,Bt,Bu,Bv,Bw,Bx⟩:=⟨PySem.W.mg_of X G p_a,Dp,fun H=>mS (us:=[.int 1 _]) pr_no (.cons ⟨_,rfl⟩ (.nil)) (by decide),fun H=>mS (us:=[.int 1 _,.int 2 _]) pr_an (.cons ⟨_,rfl⟩ (.cons ⟨_,rfl⟩ (.nil))) (by decide),fun H=>mS (us:=[.int 1 _,.int 2 _]) pr_or (.cons ⟨_,rfl⟩ (.cons ⟨_,rfl⟩ (.nil))) (by decide),fun H=>mS (us:=[.int 2 _]) pr_so (.cons ⟨_,rfl⟩ (.nil)) (by decide),fun H=>mS (us:=[.int 2 _]) pr_ea (.cons ⟨_,rfl⟩ (.nil)) (by decide)⟩
 exact⟨PySem.W.fnOf "law" "law" (aW j5) (aT j5) (au j5) .none Ko Kp Kq Kn EY Kr,fun s v=>.of_eq rfl,fun base _ _=>JJ T TE U⟩
theorem walk {l:PySem.W.OpenLaw} {q:Program} {loose:List Str} {XP:(Str→Option Value)→Heap→Prop} {YP:World→Heap→Prop} {d:DefRec} {K:Params→PySem.W.Frag} (hn:l.most=some 63) (hdf:d.params.defaults=[])
  (hY:∀(w:World) (h:Heap),YP w h→(K w.params).In h)
  (F:∀(w:World) (mg:Str→Option Value) (fa:Addr) (h:Heap),(K w.params).In h→h.Ns mainGlobals mg→mg d.name=some (.ref fa)→
   ∃fd:FuncData,(∀(s:Shared) (u:Value),BindsTo s fd ⟨[u],[]⟩ [("_law_script",u)])∧∀base:Heap,(K w.params).In base→base.Ns mainGlobals mg→aR l.prog w (K w.params) mg base cX 17 fa fd ["_law_script"] (vh (K w.params))):
  PySem.W.WalkO q loose XP YP l.row.toRowW d [] (fun f vs=>PySem.call f vs):=
 L2.GK (n:=63) (k:=17) (x:="_law_script") (CX:=fun _=>cX) (sp:=fun w=>vh (K w.params)) hn (by decide) hdf ⟨rfl,by decide,by decide,rfl⟩ hY F (fun _ _ a ns hl _ hS=>⟨a,ns,rfl,hS,hl,fun _=>rfl⟩) fun _ _ _ _ _ z=>z
end
end My
namespace PySem.W.Fast
theorem tw12818975505957978855 : True := trivial
theorem tw7206622468381937061 : True := trivial
theorem tw14768880724667874240 : True := trivial
theorem tw6605692096109495074 : True := trivial
theorem tw13761142376889719283 : True := trivial
theorem tw12268597577286472959 : True := trivial
theorem tw3133076994287646029 : True := trivial
theorem tw17951490001629179645 : True := trivial
theorem tw6546302397570915145 : True := trivial
theorem tw13653639170709818731 : True := trivial
theorem tw15216641166023244830 : True := trivial
theorem tw3504757149157299380 : True := trivial
theorem tw11276937528362478588 : True := trivial
theorem tw1258582976338266574 : True := trivial
theorem tw1333126943181820870 : True := trivial
theorem tw14835480075142373656 : True := trivial
theorem tw13650443183242122996 : True := trivial
theorem tw13787322905942194095 : True := trivial
theorem tw6138877604060961783 : True := trivial
theorem tw3329409644928565310 : True := trivial
theorem tw9297347845777520772 : True := trivial
theorem tw9752865177686394613 : True := trivial
theorem tw9318145662471117767 : True := trivial
theorem tw10570085708072567131 : True := trivial
theorem tw16258875895483563818 : True := trivial
theorem tw2226043045665868384 : True := trivial
theorem tw15976590032100938636 : True := trivial
theorem tw12223599735309632315 : True := trivial
theorem tw14270225126357809744 : True := trivial
theorem tw10875208921219836714 : True := trivial
theorem tw6206548091418866999 : True := trivial
theorem tw12171282816460485468 : True := trivial
theorem tw13365130908110001048 : True := trivial
theorem tw1812073277021243170 : True := trivial
theorem tw4564322811004557399 : True := trivial
theorem tw17642640000368067349 : True := trivial
theorem tw12786103232444530332 : True := trivial
theorem tw18215573099386891968 : True := trivial
theorem tw509124089264262319 : True := trivial
theorem tw14710316629361685955 : True := trivial
theorem tw7969949122847184109 : True := trivial
theorem tw12526784660976217393 : True := trivial
theorem tw10424067620898675751 : True := trivial
theorem tw18177669669793952876 : True := trivial
theorem tw1968924958177217890 : True := trivial
theorem tw12547232580775184936 : True := trivial
theorem tw1096907385268418095 : True := trivial
theorem tw564765320418029958 : True := trivial
theorem tw17351134399316764785 : True := trivial
theorem tw1990518958762598572 : True := trivial
theorem tw10735161618341911958 : True := trivial
theorem tw15677528406776669247 : True := trivial
theorem tw17390520381706210410 : True := trivial
theorem tw16072520818709718001 : True := trivial
theorem tw13396587905688992748 : True := trivial
theorem tw12659794454678634963 : True := trivial
theorem tw13647705076352364759 : True := trivial
theorem tw15313219066571780837 : True := trivial
theorem tw4925274773910125796 : True := trivial
theorem tw6052583585149239495 : True := trivial
theorem tw15175321488732707813 : True := trivial
theorem tw17950739128445310668 : True := trivial
theorem tw5175248010527032844 : True := trivial
theorem tw5177286034395866357 : True := trivial
theorem tw14810793648737903491 : True := trivial
theorem tw7408897724109112266 : True := trivial
theorem tw1588350120503866895 : True := trivial
theorem tw7760107423093431091 : True := trivial
theorem tw9625870054989699878 : True := trivial
theorem tw8731232918248038279 : True := trivial
theorem tw4367338618590006347 : True := trivial
theorem tw9252200885604306652 : True := trivial
theorem tw197839501338772800 : True := trivial
theorem tw15028046418240815255 : True := trivial
theorem tw4042471906742327135 : True := trivial
theorem tw15228011841617339610 : True := trivial
theorem tw16680191371268339870 : True := trivial
theorem tw14402991002351230277 : True := trivial
theorem tw14502929873029206412 : True := trivial
theorem tw3359456620181723551 : True := trivial
theorem tw7600113078766767113 : True := trivial
theorem tw7416211746266550003 : True := trivial
theorem tw5155489715576760461 : True := trivial
theorem tw16178176343418134374 : True := trivial
theorem tw8168023436420109315 : True := trivial
theorem tw12726557614232724501 : True := trivial
theorem tw9971230510618619536 : True := trivial
theorem tw8460309186972264589 : True := trivial
theorem tw17848569210711909607 : True := trivial
theorem tw4536437350821691934 : True := trivial
theorem tw2785551904746943989 : True := trivial
theorem tw16448689060552521539 : True := trivial
theorem tw16738147668593630741 : True := trivial
theorem tw11901793577048001692 : True := trivial
theorem tw3871663281211893041 : True := trivial
theorem tw13316924647480243844 : True := trivial
theorem tw1543224677015087331 : True := trivial
theorem tw4663353640078817760 : True := trivial
theorem tw9892576172092312822 : True := trivial
theorem tw15629437347005301044 : True := trivial
theorem tw15067911730998719344 : True := trivial
theorem tw6469411843502429677 : True := trivial
theorem tw125216249643505036 : True := trivial
theorem tw14353700061229734096 : True := trivial
theorem tw15501084972771576661 : True := trivial
theorem tw4332571427398853200 : True := trivial
theorem tw6551673105899945338 : True := trivial
theorem tw13160882508770949842 : True := trivial
theorem tw13274713425578388390 : True := trivial
theorem tw11497408955210439645 : True := trivial
theorem tw15722973921056385806 : True := trivial
theorem tw4987448597067352597 : True := trivial
theorem tw15607196761165904414 : True := trivial
theorem tw1954817089993854314 : True := trivial
theorem tw5796166547643574711 : True := trivial
theorem tw1163983635499592336 : True := trivial
theorem tw3152676527897327389 : True := trivial
theorem tw11154240565439007628 : True := trivial
end PySem.W.Fast
open PySem PySem.W PyProof.Rows
set_option maxRecDepth 100000 in
set_option maxHeartbeats 0 in
theorem PySem.Challenge.cw_figurejudge_k83_sayings_written_and_read_holds : PySem.Challenge.rw_figurejudge_k83_sayings_written_and_read.Holds := by
 w_on;o_law;k_head;(case hw=>w_witness2)
 k_fill
 refine My.walk (l:=PySem.Challenge.rw_figurejudge_k83_sayings_written_and_read) rfl rfl (fun w h Y=>PySem.W.kIn_of Y) ?F
 case F=>
  intro w mg fa h KX G hmg
  refine' My.all_mk KX G hmg ?a0 ?l0 ?c0 ?k0 ?a1 ?l1 ?c1 ?k1 ?a2 ?l2 ?c2 ?k2 ?a3 ?l3 ?c3 ?k3 ?a4 ?l4 ?c4 ?k4 ?a5 ?l5 ?c5 ?k5 ?a6 ?l6 ?c6 ?k6 ?a7 ?l7 ?c7 ?k7 ?a8 ?l8 ?c8 ?k8 ?a9 ?l9 ?c9 ?k9 ?a10 ?l10 ?c10 ?k10 ?a11 ?l11 ?c11 ?k11 ?a12 ?l12 ?c12 ?k12 ?a13 ?l13 ?c13 ?k13 ?a14 ?l14 ?c14 ?k14 ?a15 ?l15 ?c15 ?k15 ?a16 ?l16 ?c16 ?k16 ?a17 ?l17 ?c17 ?k17 ?a18 ?l18 ?c18 ?k18 ?a19 ?l19 ?c19 ?k19 ?a20 ?l20 ?c20 ?k20 ?a21 ?l21 ?c21 ?k21 ?a22 ?l22 ?c22 ?k22 ?a23 ?l23 ?c23 ?k23 ?a24 ?l24 ?c24 ?k24 ?a25 ?l25 ?c25 ?k25 ?a26 ?l26 ?c26 ?k26 ?a27 ?l27 ?c27 ?k27 ?a28 ?l28 ?c28 ?k28 ?a29 ?l29 ?c29 ?k29 ?a30 ?l30 ?c30 ?k30 ?a31 ?l31 ?c31 ?k31 ?a32 ?l32 ?c32 ?k32 ?a33 ?l33 ?c33 ?k33 ?a34 ?l34 ?c34 ?k34 ?z0 ?z1 ?z2 ?z3 ?z4 ?z5 ?z6 ?z7 ?z8 ?z9 ?z10 ?z11 ?z12 ?z13 ?gg0 ?gg1 ?gg2 ?gg3 ?gg4 ?xDa ?xDl ?xDnl ?xDno ?xDni ?xDg ?xDr ?xDf ?xDga ?xDgh ?xDsa ?xDcl ?xgt ?xtk ?xzV ?x4a ?x4l ?x4ga ?x4gh ?x4sa ?x4cl ?x4i ?x4fl ?x4fc ?x4fk ?x4fn ?x4k ?xne ?p_a ?p_l ?p_k ?p_s ?pq_no ?pr_no ?pq_an ?pr_an ?pq_or ?pr_or ?pq_so ?pr_so ?pq_ea ?pr_ea ?pq_same ?pq_less ?pq_sign ?pq_alike
  (case a0=>k_is)
  (case l0=>k_is)
  (case c0=>k_is)
  (case k0=>k_is)
  (case a1=>k_is)
  (case l1=>k_is)
  (case c1=>k_is)
  (case k1=>k_is)
  (case a2=>k_is)
  (case l2=>k_is)
  (case c2=>k_is)
  (case k2=>k_is)
  (case a3=>k_is)
  (case l3=>k_is)
  (case c3=>k_is)
  (case k3=>k_is)
  (case a4=>k_is)
  (case l4=>k_is)
  (case c4=>k_is)
  (case k4=>k_is)
  (case a5=>k_is)
  (case l5=>k_is)
  (case c5=>k_is)
  (case k5=>k_is)
  (case a6=>k_is)
  (case l6=>k_is)
  (case c6=>k_is)
  (case k6=>k_is)
  (case a7=>k_is)
  (case l7=>k_is)
  (case c7=>k_is)
  (case k7=>k_is)
  (case a8=>k_is)
  (case l8=>k_is)
  (case c8=>k_is)
  (case k8=>k_is)
  (case a9=>k_is)
  (case l9=>k_is)
  (case c9=>k_is)
  (case k9=>k_is)
  (case a10=>k_is)
  (case l10=>k_is)
  (case c10=>k_is)
  (case k10=>k_is)
  (case a11=>k_is)
  (case l11=>k_is)
  (case c11=>k_is)
  (case k11=>k_is)
  (case a12=>k_is)
  (case l12=>k_is)
  (case c12=>k_is)
  (case k12=>k_is)
  (case a13=>k_is)
  (case l13=>k_is)
  (case c13=>k_is)
  (case k13=>k_is)
  (case a14=>k_is)
  (case l14=>k_is)
  (case c14=>k_is)
  (case k14=>k_is)
  (case a15=>k_is)
  (case l15=>k_is)
  (case c15=>k_is)
  (case k15=>k_is)
  (case a16=>k_is)
  (case l16=>k_is)
  (case c16=>k_is)
  (case k16=>k_is)
  (case a17=>k_is)
  (case l17=>k_is)
  (case c17=>k_is)
  (case k17=>k_is)
  (case a18=>k_is)
  (case l18=>k_is)
  (case c18=>k_is)
  (case k18=>k_is)
  (case a19=>k_is)
  (case l19=>k_is)
  (case c19=>k_is)
  (case k19=>k_is)
  (case a20=>k_is)
  (case l20=>k_is)
  (case c20=>k_is)
  (case k20=>k_is)
  (case a21=>k_is)
  (case l21=>k_is)
  (case c21=>k_is)
  (case k21=>k_is)
  (case a22=>k_is)
  (case l22=>k_is)
  (case c22=>k_is)
  (case k22=>k_is)
  (case a23=>k_is)
  (case l23=>k_is)
  (case c23=>k_is)
  (case k23=>k_is)
  (case a24=>k_is)
  (case l24=>k_is)
  (case c24=>k_is)
  (case k24=>k_is)
  (case a25=>k_is)
  (case l25=>k_is)
  (case c25=>k_is)
  (case k25=>k_is)
  (case a26=>k_is)
  (case l26=>k_is)
  (case c26=>k_is)
  (case k26=>k_is)
  (case a27=>k_is)
  (case l27=>k_is)
  (case c27=>k_is)
  (case k27=>k_is)
  (case a28=>k_is)
  (case l28=>k_is)
  (case c28=>k_is)
  (case k28=>k_is)
  (case a29=>k_is)
  (case l29=>k_is)
  (case c29=>k_is)
  (case k29=>k_is)
  (case a30=>k_is)
  (case l30=>k_is)
  (case c30=>k_is)
  (case k30=>k_is)
  (case a31=>k_is)
  (case l31=>k_is)
  (case c31=>k_is)
  (case k31=>k_is)
  (case a32=>k_is)
  (case l32=>k_is)
  (case c32=>k_is)
  (case k32=>k_is)
  (case a33=>k_is)
  (case l33=>k_is)
  (case c33=>k_is)
  (case k33=>k_is)
  (case a34=>k_is)
  (case l34=>k_is)
  (case c34=>k_is)
  (case k34=>k_is)
  (case z0=>k_is)
  (case z1=>k_is)
  (case z2=>k_is)
  (case z3=>k_is)
  (case z4=>k_is)
  (case z5=>k_is)
  (case z6=>k_is)
  (case z7=>k_is)
  (case z8=>k_is)
  (case z9=>k_is)
  (case z10=>k_is)
  (case z11=>k_is)
  (case z12=>k_is)
  (case z13=>k_is)
  (case gg0=>k_is)
  (case gg1=>k_is)
  (case gg2=>k_is)
  (case gg3=>k_is)
  (case gg4=>k_is)
  (case xDa=>k_is)
  (case xDl=>k_is)
  (case xDnl=>k_is)
  (case xDno=>simp[L2.nsO])
  (case xDni=>k_is)
  (case xDg=>k_is)
  (case xDr=>k_is)
  (case xDf=>k_is)
  (case xDga=>k_is)
  (case xDgh=>k_is)
  (case xDsa=>k_is)
  (case xDcl=>k_is)
  (case xgt=>k_is)
  (case xtk=>k_is)
  (case xzV=>k_is)
  (case x4a=>k_is)
  (case x4l=>k_is)
  (case x4ga=>k_is)
  (case x4gh=>k_is)
  (case x4sa=>k_is)
  (case x4cl=>k_is)
  (case x4i=>k_is)
  (case x4fl=>k_is)
  (case x4fc=>k_is)
  (case x4fk=>k_is)
  (case x4fn=>k_is)
  (case x4k=>k_is)
  (case xne=>decide)
  (case p_a=>k_is)
  (case p_l=>k_is)
  (case p_k=>repeat (first | exact⟨⟩ | refine⟨⟨_,_,rfl,rfl⟩,?_⟩))
  (case p_s=>rfl)
  (case pq_no=>k_is)
  (case pr_no=>k_is)
  (case pq_an=>k_is)
  (case pr_an=>k_is)
  (case pq_or=>k_is)
  (case pr_or=>k_is)
  (case pq_so=>k_is)
  (case pr_so=>k_is)
  (case pq_ea=>k_is)
  (case pr_ea=>k_is)
  (case pq_same=>k_is)
  (case pq_less=>k_is)
  (case pq_sign=>k_is)
  (case pq_alike=>k_is)
#print axioms PySem.Challenge.cw_figurejudge_k83_sayings_written_and_read_holds
