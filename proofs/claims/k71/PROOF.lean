import PyProof.Rows.All
import Wide.All
import OpenK.AllK
import Wide.FinOn
import Lean
import PyProof.EqAt
import PyProof.EqKinds
import PyProof.TupleCall
import PyProof.NeKinds
import PyProof.ListRange
import PyProof.Draws
import PyProof.Rows.SortStr
import KE.KDictSum
import KE.KEqDict
import KE.KDictOf
import KE.KRevSl
import PyProof.StrWalks
import PyProof.StrBlock2
import PyProof.SetKind
import PyProof.SetRoads
import PyProof.Rows.SetFrom
import PyProof.ReprRoads
import PyProof.ReprLen
import PyProof.NsDelKeeps
import PyProof.ListMulRoad
import PyProof.FactsAll.tuple_2
import KE.KLam
import KE.KNestM
import PyProof.AttrMissHeap
import PyProof.Rows.SortShell
import PySem.Challenge.RW_figurejudge_k71_first_tuples
set_option Elab.async false
set_option linter.all false
set_option maxRecDepth 100000
set_option maxHeartbeats 4000000
namespace L2
open PySem PySem.Spec PyProof.Rows
abbrev Key:=Sum Int Str
def jK:Key→Value→Bool
 | .inl k,v=>Value.isInt k v
 | .inr x,v=>Value.isStrOf x v
def LB (w:World):Key→Int
 | .inl k=>hashInt k
 | .inr x=>hashStr w x
theorem cj:∀{k:Key} {v:Value},jK k v=true→(∃i t,k=Sum.inl i∧v=Value.int i t)∨(∃x t,k=Sum.inr x∧v=Value.str x t)
 | .inl i,v,h=>by
  obtain⟨t,e⟩:=Value.isInt_shape (k:=i) (v:=v) h
  exact .inl ⟨i,t,rfl,e⟩
 | .inr x,v,h=>by
  obtain⟨t,e⟩:=Value.isStrOf_shape (x:=x) (v:=v) h
  exact .inr ⟨x,t,rfl,e⟩
theorem yE (i:Int) (t:Tok):jK (.inl i) (.int i t)=true:=by simp[jK,Value.isInt]
theorem yF (x:Str) (t:Tok):jK (.inr x) (.str x t)=true:=by simp[jK,Value.isStrOf]
theorem EW (a b:Int):decide ((Sum.inl a:Key)=Sum.inl b)=(a == b):=by
 by_cases e:a=b
 ·subst e;simp
 ·have h:¬(Sum.inl a:Key)=Sum.inl b:=fun q=>e (Sum.inl.inj q)
  rw[decide_eq_false h]
  exact(beq_eq_false_iff_ne.mpr e).symm
theorem EX (a b:Str):decide ((Sum.inr a:Key)=Sum.inr b)=decide (a=b):=by
 by_cases e:a=b
 ·subst e;simp
 ·have h:¬(Sum.inr a:Key)=Sum.inr b:=fun q=>e (Sum.inr.inj q)
  rw[decide_eq_false h,decide_eq_false e]
theorem EY (a:Int) (b:Str):decide ((Sum.inl a:Key)=Sum.inr b)=false:=decide_eq_false (fun q=>nomatch q)
theorem EZ (a:Str) (b:Int):decide ((Sum.inr a:Key)=Sum.inl b)=false:=decide_eq_false (fun q=>nomatch q)
def a_ (prog:Program) (w:World):PySem.KeyKind prog w Key where
 is:=jK
 hash:=LB w
 inj:=fun v a b ha hb=>by
  rcases cj ha with⟨i,t,rfl,rfl⟩ | ⟨x,t,rfl,rfl⟩
  ·rcases cj hb with⟨j,u,rfl,e⟩ | ⟨y,u,rfl,e⟩
   ·injection e with e1 _;rw[e1]
   ·exact nomatch e
  ·rcases cj hb with⟨j,u,rfl,e⟩ | ⟨y,u,rfl,e⟩
   ·exact nomatch e
   ·injection e with e1 _;rw[e1]
 byValue:=fun k v h=>by
  rcases cj h with⟨i,t,rfl,rfl⟩ | ⟨x,t,rfl,rfl⟩<;>rfl
 pyHash:=fun hv h=>by
  rcases cj hv with⟨i,t,rfl,rfl⟩ | ⟨x,t,rfl,rfl⟩
  ·exact wpAny_pyHash_int h
  ·exact wpAny_pyHash_str h
 eqBool:=fun hu hv h=>by
  rcases cj hu with⟨i,t,rfl,rfl⟩ | ⟨x,t,rfl,rfl⟩
  ·rcases cj hv with⟨j,u,rfl,rfl⟩ | ⟨y,u,rfl,rfl⟩
   ·rw[EW] at h;exact wpAny_eqBool_int h
   ·rw[EY] at h;exact SeqAt.EqAt.int_str i t y u _ _ _ _ h
  ·rcases cj hv with⟨j,u,rfl,rfl⟩ | ⟨y,u,rfl,rfl⟩
   ·rw[EZ] at h;exact SeqAt.EqAt.str_int x t j u _ _ _ _ h
   ·rw[EX] at h;exact wpAny_eqBool_str h
 «strs» :=fun k x t v h=>by
  rcases cj h with⟨i,u,rfl,e⟩ | ⟨y,u,rfl,e⟩
  ·exact nomatch e
  ·injection e with e1 _
   subst e1
   cases v<;>rfl
theorem xo (prog:Program) (w:World) (k:Key) (v:Value):(a_ prog w).is k v=jK k v:=rfl
theorem vA (prog:Program) (w:World) (i:Int) (t:Tok):(a_ prog w).is (.inl i) (.int i t)=true:=yE i t
theorem vB (prog:Program) (w:World) (x:Str) (t:Tok):(a_ prog w).is (.inr x) (.str x t)=true:=yF x t
inductive V where
 | non | bl (b:Bool) | int (i:Int) | str (x:Str) | jf (b:Array UInt8) | flt (b:UInt64) | ref (a:Addr) | ty (n:String)
 deriving DecidableEq
def RelV:V→Value→Prop
 | .non,u=>u=Value.none
 | .bl b,u=>u=Value.bool b
 | .int i,u=>∃t,u=Value.int i t
 | .str x,u=>∃t,u=Value.str x t
 | .jf b,u=>∃t,u=Value.bytes b t
 | .flt b,u=>∃t,u=Value.float b t
 | .ref a,u=>u=Value.ref a
 | .ty n,u=>u=Value.type n
abbrev Vals:List V→List Value→Prop:=Paired RelV
theorem Vals.length {xs:List V} {us:List Value} (r:Vals xs us):xs.length=us.length:=Paired.length r
theorem Vals.get:∀{xs:List V} {us:List Value} {i:Nat} {x:V},Vals xs us→xs[i]? =some x→∃u,us[i]? =some u∧RelV x u
 | _,_,_,_,.nil,e=>by simp at e
 | _,_,0,_,.cons r _,e=>by simp at e;subst e;exact⟨_,rfl,r⟩
 | _,_,i+1,x,.cons _ t,e=>by
  obtain⟨u,h1,h2⟩:=Vals.get (i:=i) (x:=x) t (by simpa using e)
  exact⟨u,by simpa using h1,h2⟩
theorem Vals.set {x:V} {u:Value} (r:RelV x u):∀{xs:List V} {us:List Value} (i:Nat),Vals xs us→Vals (xs.set i x) (us.set i u)
 | _,_,_,.nil=>.nil
 | _,_,0,.cons _ t=>.cons r t
 | _,_,i+1,.cons q t=>.cons q (Vals.set r i t)
theorem Vals.append:∀{xs ys:List V} {us ws:List Value},Vals xs us→Vals ys ws→Vals (xs++ys) (us++ws)
 | _,_,_,_,.nil,s=>s
 | _,_,_,_,.cons r t,s=>.cons r (Vals.append t s)
theorem Vals.take:∀{xs:List V} {us:List Value} (n:Nat),Vals xs us→Vals (xs.take n) (us.take n)
 | _,_,0,_=>.nil
 | _,_,_+1,.nil=>.nil
 | _,_,n+1,.cons r t=>.cons r (Vals.take n t)
theorem Vals.drop:∀{xs:List V} {us:List Value} (n:Nat),Vals xs us→Vals (xs.drop n) (us.drop n)
 | _,_,0,r=>r
 | _,_,_+1,.nil=>.nil
 | _,_,n+1,.cons _ t=>Vals.drop n t
def jg:Option V→Option Value→Prop
 | some v,some u=>RelV v u
 | none,none=>True
 | _,_=>False
def KV {κ:Type}:List (κ×V)→List (κ×Value)→Prop:=Paired fun(p:κ×V) (q:κ×Value)=>p.1=q.1∧RelV p.2 q.2
def kV:Key→V
 | .inl i=>.int i
 | .inr x=>.str x
inductive HO where
 | lst (xs:List V)
 | tup (xs:List V)
 | dK (kvs:List (Key×V)) | dT (kvs:List (List Key×V))
 | set (S:Int→Bool) (n:Nat)
 | ins (C dx:Addr) (fs:List (Str×V))
 | own (x:Addr)
 | xd (fs:List (Str×V))
 | met (f x:Addr)
 | rng (lo hi:Int)
 | bN (o:Obj) (u:HO)
 | sU (ps:Array Value)
 | ext (φ:Heap→Prop)
abbrev Hp:=Addr→Option HO
def upd (H:Hp) (a:Addr) (o:HO):Hp:=fun b=>if b=a then some o else H b
theorem af {H:Hp} {a:Addr} {o:HO}:upd H a o a=some o:=by unfold upd;rw[if_pos rfl]
theorem ao {H:Hp} {a b:Addr} {o:HO} (h:b≠a):upd H a o b=H b:=by unfold upd;rw[if_neg h]
theorem bF {H:Hp} {a b:Addr} {o u:HO} (h:H a=some o) (h':H b=some u) (d:o≠u):a≠b:=by
 intro e;subst e;rw[h] at h';exact d (Option.some.inj h')
theorem ay {H:Hp} {a b:Addr} {o:HO} (h:H a=some o) (h':H b=none):a≠b:=by
 intro e;subst e;rw[h] at h';cases h'
section
variable (P:Program) (w:World)
def bK (H:Hp) (h:Heap) (a:Addr):HO→Prop
 | .lst xs=>xs.length≤sizeLine∧∃(its:List Value) (n:Nat),Vals xs its∧h.get? a=some {cls:=.type "list",data:=.seq its.toArray n}
 | .tup xs=>(xs.length≤sizeLine∧∃o,h.get? a=some o∧o.dict=none)∧∃its:List Value,Vals xs its∧IsTup h a its.toArray
 | .dK kvs=>kvs.length≤sizeLine∧(a == sysModules)=false∧∃vs,KV kvs vs∧h.DictOf (a_ P w) a vs
 | .dT kvs=>kvs.length≤sizeLine∧(a == sysModules)=false∧∃xs:List (List Key×Addr×Value),
   Paired (fun(p:List Key×V) (q:List Key×Addr×Value)=>p.1=q.1∧H q.2.1=some (.tup (p.1.map kV))∧RelV p.2 q.2.2) kvs xs∧
   ∃o es ep,h.get? a=some o∧o.ExactDict∧o.data=.dict es ep∧es.toList=xs.map (entryOfKey (tupleKind (a_ P w)))∧(xs.map (·.1)).Nodup
 | .set S n=>h.SetOf (intKind P w) a S n
 | .ins C dx fs=>H dx=some (.own a)∧fs.length≤1000∧dx≠a∧h.get? a=some (PySem.W.instObj C dx)∧
   ∃mA,h.Ns1 dx mA∧(∀f,jg (fs.lookup f) (mA f))∧PySem.Within mA (fs.map (·.1))
 | .own _=>∃o,h.get? a=some o
 | .xd fs=>∃mA,h.Ns1 a mA∧∀f,jg (fs.lookup f) (mA f)
 | .rng lo hi=>∃t u v,h.get? a=some {cls:=.type "range",data:=.fields #[.int lo t,.int hi u,.int 1 v]}
 | .bN o u=>h.get? a=some o∧bK H h a u
 | .sU ps=>h.get? a=some {cls:=.none,data:=.fields ps}
 | .met f x=>h.get? a=some (PySem.W.methodObj (.ref f) (.ref x))
 | .ext φ=>φ h∧(∃o,h.get? a=some o)∧∀h1 h2:Heap,φ h1→(∀o,h1.get? a=some o→h2.get? a=some o)→φ h2
def dH (H:Hp) (h:Heap):Prop:=∀a o,H a=some o→bK P w H h a o
end
section
variable {P:Program} {w:World} {H H':Hp} {h h':Heap} {a:Addr} {o:HO}
theorem bK.lt (x:bK P w H h a o):a<h.objs.size:=by
 cases o with
 | lst xs=>obtain⟨_,_,_,_,e⟩:=x;exact Heap.lt_size e
 | tup xs=>obtain⟨_,_,_,p⟩:=x;exact p.lt
 | dK kvs=>obtain⟨_,_,_,_,o,_,_,e,_⟩:=x;exact Heap.lt_size e
 | dT kvs=>obtain⟨_,_,_,_,o,_,_,e,_⟩:=x;exact Heap.lt_size e
 | set S n=>obtain⟨o,_,_,_,e,_⟩:=x;exact Heap.lt_size e
 | ins C dx fs=>obtain⟨_,_,_,e,_⟩:=x;exact Heap.lt_size e
 | own y=>obtain⟨_,e⟩:=x;exact Heap.lt_size e
 | xd fs=>obtain⟨_,⟨_,_,_,e,_⟩,_⟩:=x;exact Heap.lt_size e
 | rng lo hi=>obtain⟨_,_,_,e⟩:=x;exact Heap.lt_size e
 | bN ob u=>obtain⟨e,_⟩:=x;exact Heap.lt_size e
 | sU ps=>exact Heap.lt_size (show h.get? a=some _ from x)
 | met f y=>exact Heap.lt_size (show h.get? a=some _ from x)
 | ext φ=>obtain⟨_,⟨_,e⟩,_⟩:=x;exact Heap.lt_size e
theorem Paired.xp {α β:Type} {F G:α→β→Prop}:∀{l₁:List α} {l₂:List β},Paired F l₁ l₂→(∀a b,F a b→G a b)→Paired G l₁ l₂
 | _,_,.nil,_=>.nil
 | _,_,.cons r t,f=>.cons (f _ _ r) (Paired.xp t f)
theorem bK.stay (x:bK P w H h a o) (k:∀b u,(b=a∨H b=some (.own a))→h.get? b=some u→h'.get? b=some u)
  (ho:∀b,H b=some (.own a)→H' b=some (.own a)) (ht:∀b xs,H b=some (.tup xs)→H' b=some (.tup xs)):bK P w H' h' a o:=by
 induction o with
 | lst xs=>obtain⟨z,its,n,r,e⟩:=x;exact⟨z,its,n,r,k _ _ (.inl rfl) e⟩
 | tup xs=>obtain⟨⟨z,o2,e2,d2⟩,its,r,ob,e,c⟩:=x;exact⟨⟨z,o2,k _ _ (.inl rfl) e2,d2⟩,its,r,ob,k _ _ (.inl rfl) e,c⟩
 | dK kvs=>obtain⟨z,y,vs,r,ob,es,ep,e,c⟩:=x;exact⟨z,y,vs,r,ob,es,ep,k _ _ (.inl rfl) e,c⟩
 | dT kvs=>
  obtain⟨z,y,xs,r,ob,es,ep,e,c⟩:=x
  exact⟨z,y,xs,Paired.xp r fun p q z=>⟨z.1,ht _ _ z.2.1,z.2.2⟩,ob,es,ep,k _ _ (.inl rfl) e,c⟩
 | set S n=>obtain⟨ob,es,ep,t,e,c⟩:=x;exact⟨ob,es,ep,t,k _ _ (.inl rfl) e,c⟩
 | ins C dx fs=>
  obtain⟨d,z,ne,e,mA,⟨od,es,ep,e2,c⟩,r⟩:=x
  exact⟨ho _ d,z,ne,k _ _ (.inl rfl) e,mA,⟨od,es,ep,k _ _ (.inr d) e2,c⟩,r⟩
 | own y=>obtain⟨ob,e⟩:=x;exact⟨ob,k _ _ (.inl rfl) e⟩
 | xd fs=>obtain⟨mA,⟨od,es,ep,e,c⟩,r⟩:=x;exact⟨mA,⟨od,es,ep,k _ _ (.inl rfl) e,c⟩,r⟩
 | rng lo hi=>obtain⟨t,u,v,e⟩:=x;exact⟨t,u,v,k _ _ (.inl rfl) e⟩
 | bN ob u ih=>obtain⟨e,q⟩:=x;exact⟨k _ _ (.inl rfl) e,ih q⟩
 | sU ps=>
  have e:h.get? a=some {cls:=.none,data:=.fields ps}:=x
  show h'.get? a=some {cls:=.none,data:=.fields ps}
  exact k a _ (.inl rfl) e
 | met f y=>
  have e:h.get? a=some (PySem.W.methodObj (.ref f) (.ref y)):=x
  show h'.get? a=some (PySem.W.methodObj (.ref f) (.ref y))
  exact k a _ (.inl rfl) e
 | ext φ=>obtain⟨p,⟨o,e⟩,st⟩:=x;exact⟨st _ _ p fun o q=>k _ _ (.inl rfl) q,⟨o,k _ _ (.inl rfl) e⟩,st⟩
theorem dH.lt (x:dH P w H h) (e:H a=some o):a<h.objs.size:=(x a o e).lt
theorem dH.fresh (x:dH P w H h) (e:h.objs.size≤a):H a=none:=by
 cases q:H a with
 | none=>rfl
 | some u=>exact absurd (Nat.lt_of_lt_of_le (x.lt q) e) (Nat.lt_irrefl _)
theorem dH.kept (x:dH P w H h) (k:∀b u,h.get? b=some u→h'.get? b=some u):dH P w H h':=fun a o e=>
 (x a o e).stay (fun b u _ q=>k b u q) (fun _ q=>q) fun _ _ q=>q
theorem dH.laid (x:dH P w H h) (k:∀b u,h.get? b=some u→h'.get? b=some u) (hp:h.objs.size≤a) (new:bK P w (upd H a o) h' a o):dH P w (upd H a o) h':=fun b u e=>by
 have hn:=x.fresh hp
 by_cases hb:b=a
 ·subst hb;rw[af] at e;cases e;exact new
 ·rw[ao hb] at e
  exact(x b u e).stay (fun c v _ q=>k c v q) (fun c q=>by rw[ao (ay q hn)];exact q) fun c xs q=>by rw[ao (ay q hn)];exact q
end
def Rd (H:Hp) (a:Addr) (u:HO):Prop:=H a=some u∨∃o,H a=some (.bN o u)
theorem Rd.ok {P:Program} {w:World} {H:Hp} {h:Heap} {a:Addr} {u:HO} (r:Rd H a u) (x:dH P w H h):bK P w H h a u:=by
 rcases r with r | ⟨o,r⟩
 ·exact x a u r
 ·obtain⟨_,q⟩:=x a _ r
  exact q
def yG:Option HO→Prop
 | some (.lst _)=>True
 | some (.dK _)=>True
 | some (.dT _)=>True
 | some (.set _ _)=>True
 | some (.ins _ _ _)=>True
 | some (.ext _)=>True
 | _=>False
section
variable {P:Program} {w:World} {H:Hp} {h h':Heap} {x e:Addr} {o':HO}
theorem dH.write (ok:dH P w H h) (mu:yG (H x)) (he:e=x∨H e=some (.own x)) (k:∀b u,b≠e→h.get? b=some u→h'.get? b=some u) (heo:∃u,h'.get? e=some u)
  (new:bK P w (upd H x o') h' x o'):dH P w (upd H x o') h':=fun b u q=>by
 have E_:∀c y,H c=some (.own y)→c≠x:=fun c y r z=>by subst z;rw[r] at mu;exact mu
 have LC:∀c xs,H c=some (.tup xs)→c≠x:=fun c xs r z=>by subst z;rw[r] at mu;exact mu
 by_cases hb:b=x
 ·subst hb;rw[af] at q;cases q;exact new
 ·rw[ao hb] at q
  by_cases hbe:b=e
  ·have q':H b=some (.own x):=by
    rcases he with z | z
    ·exact absurd (hbe.trans z) hb
    ·rw[hbe];exact z
   rw[q] at q';cases q'
   obtain⟨v,hv⟩:=heo
   exact⟨v,by rw[hbe];exact hv⟩
  ·refine(ok b u q).stay (fun c v hc r=>k c v ?_ r) (fun c r=>by rw[ao (E_ c b r)];exact r) fun c xs r=>by rw[ao (LC c xs r)];exact r
   rcases hc with rfl | hc
   ·exact hbe
   ·rintro rfl
    rcases he with z | z
    ·exact E_ c b hc z
    ·rw[hc] at z;cases z;exact hb rfl
end
structure Un (fs ex:List Addr) (H H':Hp) (h h':Heap):Prop where
 keep:∀b o,h.get? b=some o→H b=none→b ∉ fs→b ∉ ex→h'.get? b=some o
 slot:∀b o,h.get? b=some o→H b=none→b∈fs→b ∉ ex→∃sl,h'.get? b=some {o with slots:=sl}
 free:∀b o,h.get? b=some o→H b=none→b ∉ ex→H' b=none
 there:∀b o,h.get? b=some o→b ∉ ex→∃o',h'.get? b=some o'
 tups:∀b xs,H b=some (.tup xs)→H' b=some (.tup xs)
 kM:∀b o u,H b=some (.bN o u)→H' b=some (.bN o u)
 mn:∀b ps,H b=some (.sU ps)→∃more,H' b=some (.sU (ps++more))
section
variable {fs fs' ex ex':List Addr} {H H1 H2:Hp} {h h1 h2 h':Heap} {a x e:Addr} {o:HO}
theorem Un.any (u:Un fs ex H H1 h h1) {b:Addr} {ob:Obj} (q:h.get? b=some ob) (n:H b=none) (hx:b ∉ ex):∃sl,h1.get? b=some {ob with slots:=sl}:=by
 by_cases hb:b∈fs
 ·exact u.slot b ob q n hb hx
 ·exact⟨ob.slots,u.keep b ob q n hb hx⟩
theorem Un.kept (k:∀b u,h.get? b=some u→h'.get? b=some u):Un fs ex H H h h':=
 ⟨fun b ob q _ _ _=>k b ob q,fun b ob q _ _ _=>⟨ob.slots,k b ob q⟩,fun _ _ _ n _=>n,fun b ob q _=>⟨ob,k b ob q⟩,fun _ _ q=>q,fun _ _ _ q=>q,fun _ ps q=>⟨#[],by rw[q];simp⟩⟩
theorem Un.refl:Un fs ex H H h h:=Un.kept fun _ _ q=>q
theorem Un.laid (k:∀b u,h.get? b=some u→h'.get? b=some u) (hp:h.objs.size≤a) (hn:H a=none):Un fs ex H (upd H a o) h h' where
 keep:=fun b u q _ _ _=>k b u q
 slot:=fun b u q _ _ _=>⟨u.slots,k b u q⟩
 free:=fun b u q n _=>by rw[ao (Nat.ne_of_lt (Nat.lt_of_lt_of_le (Heap.lt_size q) hp))];exact n
 there:=fun b u q _=>⟨u,k b u q⟩
 tups:=fun b xs q=>by rw[ao (ay q hn)];exact q
 kM:=fun b u xs q=>by rw[ao (ay q hn)];exact q
 mn:=fun b ps q=>⟨#[],by rw[ao (ay q hn),q];simp⟩
theorem Un.write (mu:yG (H x)) (he:e=x∨H e=some (.own x)) (k:∀b u,b≠e→h.get? b=some u→h'.get? b=some u) (heo:∃u,h'.get? e=some u):Un fs ex H (upd H x o) h h':=by
 have hx:∀b,H b=none→b≠x:=fun b n z=>by subst z;rw[n] at mu;exact mu
 have hb:∀b,H b=none→b≠e:=fun b n z=>by
  subst z
  rcases he with r | r
  ·exact hx b n r
  ·rw[n] at r;cases r
 have hm:∀b u,H b=some u→¬yG (some u)→b≠x:=fun b u q nm z=>by subst z;rw[q] at mu;exact nm mu
 refine⟨fun b u q n _ _=>k b u (hb b n) q,fun b u q n _ _=>⟨u.slots,k b u (hb b n) q⟩,fun b u q n _=>by rw[ao (hx b n)];exact n,fun b u q _=>?_,
  fun b xs q=>by rw[ao (hm b _ q fun z=>z)];exact q,fun b u xs q=>by rw[ao (hm b _ q fun z=>z)];exact q,fun b ps q=>⟨#[],by rw[ao (hm b _ q fun z=>z),q];simp⟩⟩
 by_cases hbe:b=e
 ·subst hbe;exact heo
 ·exact⟨u,k b u hbe q⟩
end
def Ct (h:Heap) (H:Hp):List Addr:=(List.range h.objs.size).filter fun a=>(H a).isSome
def kN (h:Heap) (H:Hp):Heap:=PySem.W.hideAll h (Ct h H)
theorem yH (h:Heap) (H:Hp):(kN h H).objs.size=h.objs.size:=PySem.W.hideAll_size _ _
theorem Ba {h:Heap} {H:Hp} {b:Addr} {o:Obj} (e:h.get? b=some o) (n:H b=none):(kN h H).get? b=some o:=
 PySem.W.hideAll_get _ e fun hm=>by
  have q:(H b).isSome=true:=(List.mem_filter.mp hm).2
  rw[n] at q;simp at q
theorem DW {h:Heap} {H:Hp} {b:Addr} {o:Obj} (e:(kN h H).get? b=some o):h.get? b=some o∧H b=none:=by
 have e':h.get? b=some o:=PySem.W.of_hideAll (Ct h H) e
 refine⟨e',?_⟩
 cases q:H b with
 | none=>rfl
 | some x=>
  have hm:b∈Ct h H:=List.mem_filter.mpr ⟨List.mem_range.mpr (Heap.lt_size e'),by simp[q]⟩
  have z:(kN h H).get? b=none:=PySem.W.hideAll_none (Ct h H) hm
  rw[z] at e;cases e
structure Mod (K:PySem.W.Frag) (mg:Str→Option Value) (base:Heap):Prop where
 E1:K.In base
 glob:base.Ns mainGlobals mg
 blt:∃mb,base.Ns builtinsNs mb∧∀x:Str,x≠"__name__"→mb x=bootBuiltins x
 nolimit:base.NoLimit
structure Cx where
 prog:Program
 w:World
 K:PySem.W.Frag
 mg:Str→Option Value
 base:Heap
 A:Around
 N:List Str
 s₀:Shared
 H₀:Hp
 env:Env
 outer:List Env
 stack:List Env
 ex:List Addr
 fn:Str→Bool
 calm:Bool
 pn:List (Addr×Obj)
 xe:Value→Shared→Prop
def frs (l:List Env):List Addr:=l.filterMap (·.frame)
abbrev Cx.fs (X:Cx):List Addr:=frs X.outer
def yI (sc:Scope) (x:Str):Prop:=sc.names.lookup x=some .local∨sc.names.lookup x=some .cell∨sc.names.lookup x=some .free
def Loc (sc:Scope) (x:Str):Prop:=sc.names.lookup x=some .local∨sc.names.lookup x=some .cell
def Look (env:Env) (h:Heap) (m:Str→Option Value) (x:Str) (u:Value):Prop:=
 (env.kindOf x=some .local∧m x=some u)∨((env.kindOf x=some .cell∨env.kindOf x=some .free)∧∃c,env.cells.lookup x=some c∧h.IsCell c (some u))
structure Cx.Ok (X:Cx):Prop where
 mod:Mod X.K X.mg X.base
 kind:X.env.scope.kind=.function
 glob:X.env.globals=mainGlobals
 blt:X.env.builtins=builtinsNs
 above:X.s₀.heap.objs.size≤X.env.locals
 inj:∀x y c,X.env.cells.lookup x=some c→X.env.cells.lookup y=some c→x=y
 has:∀x,(X.env.kindOf x=some .cell∨X.env.kindOf x=some .free)→∃c,X.env.cells.lookup x=some c
 cab:∀x c,X.fn x=true→X.env.cells.lookup x=some c→X.s₀.heap.objs.size≤c
 hd:X.calm=true→X.A.handled=none
 frames:X.A.frames=some X.stack
 stk:X.stack=X.outer∨(X.stack=X.env::X.outer∧X.env.frame=some X.env.locals)
 E2:∀b∈X.ex,b≠X.env.locals∧∀x c,X.env.cells.lookup x=some c→c≠b
 bs:∀b o,X.base.get? b=some o→X.s₀.heap.get? b=some o∧X.H₀ b=none
 qG:X.base.objs.size≤X.s₀.heap.objs.size
 tf:∀b o,X.base.get? b=some o→b ∉ X.ex
 tj:∀b∈X.ex,b ∉ X.fs
 jh:X.s₀.heap.FunFrames X.base X.outer
 vY:∀b∈X.fs,X.H₀ b=none
structure Inv (X:Cx) (pins:List (Addr×Obj)) (σ:List (Option V)) (H:Hp) (s:Shared):Prop where
 ok:X.Ok
 os:s.os=X.s₀.os
 bare:AllBare s.gens
 base:Un X.fs X.ex X.H₀ H X.s₀.heap s.heap
 loc:∃m,s.heap.Ns X.env.locals m∧∀(i:Nat) (x:Str) (v:V),X.N[i]? =some x→σ[i]? =some (some v)→yI X.env.scope x→∃u,RelV v u∧Look X.env s.heap m x u
 cell:∀x c,X.env.cells.lookup x=some c→∃v,s.heap.IsCell c v
 free:H X.env.locals=none
 iq:∀x c,X.env.cells.lookup x=some c→H c=none
 pin:∀p∈X.pn++pins,s.heap.get? p.1=some p.2∧H p.1=none∧p.1≠X.env.locals∧p.1 ∉ X.fs∧∀v,p.2.data≠.cell v
 hok:dH X.prog X.w H s.heap
 len:σ.length=X.N.length
section
variable {X:Cx} {pins:List (Addr×Obj)} {σ:List (Option V)} {H H':Hp} {s:Shared} {h':Heap}
theorem Cx.Ok.LD (ok:X.Ok) {b:Addr} {o:Obj} (e:X.base.get? b=some o):b ∉ X.fs:=fun hb=>by
 have:=(ok.jh.mem hb).1
 rw[e] at this;cases this
theorem Inv.bs (I:Inv X pins σ H s):∀b o,X.base.get? b=some o→s.heap.get? b=some o∧H b=none:=fun b o e=>
 ⟨I.base.keep b o (I.ok.bs b o e).1 (I.ok.bs b o e).2 (I.ok.LD e) (I.ok.tf b o e),I.base.free b o (I.ok.bs b o e).1 (I.ok.bs b o e).2 (I.ok.tf b o e)⟩
theorem Inv.bk (I:Inv X pins σ H s):∀b o,X.base.get? b=some o→s.heap.get? b=some o:=fun b o e=>(I.bs b o e).1
theorem Inv.mod (I:Inv X pins σ H s):Mod X.K X.mg X.base:=I.ok.mod
theorem Inv.iC (I:Inv X pins σ H s):X.K.In s.heap:=I.ok.mod.E1.keeps I.bk
theorem Inv.lt (I:Inv X pins σ H s):X.env.locals<s.heap.objs.size:=let ⟨_,hn,_⟩:=I.loc;hn.lt
theorem Inv.sz (I:Inv X pins σ H s):X.s₀.heap.objs.size≤s.heap.objs.size:=Nat.le_trans I.ok.above (Nat.le_of_lt I.lt)
theorem Inv.LF (I:Inv X pins σ H s) {a:Addr} (h:s.heap.objs.size≤a):a ∉ X.fs:=fun hb=>by
 obtain⟨_,o,ho,_⟩:=I.ok.jh.mem hb
 exact absurd (Nat.lt_of_lt_of_le (Heap.lt_size ho) (Nat.le_trans I.sz h)) (Nat.lt_irrefl _)
theorem Inv.tm (I:Inv X pins σ H s):∀x c,X.env.cells.lookup x=some c→c≠X.env.locals:=fun x c e z=>by
 obtain⟨v,o,ho,hd⟩:=I.cell x c e
 obtain⟨m,⟨o',es,ep,ho',hd',_⟩,_⟩:=I.loc
 rw[z,ho'] at ho;cases ho;rw[hd'] at hd;cases hd
theorem Inv.jh (I:Inv X pins σ H s):s.heap.FunFrames X.base X.outer:=by
 have all:∀(l:List Env),(∀b∈frs l,b∈X.fs)→X.s₀.heap.FunFrames X.base l→s.heap.FunFrames X.base l:=by
  intro l
  induction l with
  | nil=>intro _ _;trivial
  | cons env r ih=>
   intro hs hl
   obtain⟨hk,⟨L,o,hf,hn,ho,hd⟩,hr⟩:=hl
   have hL:L∈X.fs:=hs L (by unfold frs;rw[List.filterMap_cons,hf];exact List.mem_cons_self)
   obtain⟨sl,e⟩:=I.base.slot L o ho (I.ok.vY L hL) hL fun z=>I.ok.tj L z hL
   exact⟨hk,⟨L,_,hf,hn,e,hd⟩,ih (fun b hb=>hs b (by unfold frs;rw[List.filterMap_cons,hf];exact List.mem_cons_of_mem _ hb)) hr⟩
 exact all X.outer (fun _ hb=>hb) I.ok.jh
theorem Inv.stack (I:Inv X pins σ H s):s.heap.FunFrames X.base X.stack:=by
 rcases I.ok.stk with e | ⟨e,hf⟩
 ·rw[e];exact I.jh
 ·rw[e]
  obtain⟨m,hn,_⟩:=I.loc
  refine .cons (by rw[I.ok.kind];decide) hf hn ?_ I.jh
  exact Heap.get?_none_of_le (Nat.le_trans I.ok.qG I.ok.above)
theorem Inv.tu (I:Inv X pins σ H s):∀b∈frs X.stack,b∈X.env.locals::X.fs:=fun b hb=>by
 rcases I.ok.stk with e | ⟨e,hf⟩
 ·rw[e] at hb;exact List.mem_cons_of_mem _ hb
 ·rw[e] at hb
  unfold frs at hb
  rw[List.filterMap_cons,hf] at hb
  exact hb
theorem Inv.vZ (I:Inv X pins σ H s):∀b∈frs X.stack,H b=none:=fun b hb=>by
 rcases List.mem_cons.mp (I.tu b hb) with e | hb
 ·rw[e];exact I.free
 ·obtain⟨_,o,ho,_⟩:=I.ok.jh.mem hb
  exact I.base.free b o ho (I.ok.vY b hb) fun z=>I.ok.tj b z hb
theorem Inv.step {g':Array GenState} {t':Nat} {d':Drawn} {ch:List Addr} (I:Inv X pins σ H s)
  (hch:∀b∈ch,(b∈X.ex∨X.s₀.heap.objs.size≤b)∧b≠X.env.locals∧(∀x c,X.env.cells.lookup x=some c→c≠b)∧∀p∈X.pn++pins,p.1≠b)
  (keep:∀b o,b≠X.env.locals→b ∉ X.fs→b ∉ ch→s.heap.get? b=some o→H b=none→h'.get? b=some o)
  (slot:∀b o,b≠X.env.locals→b∈X.fs→b ∉ ch→s.heap.get? b=some o→H b=none→∃sl,h'.get? b=some {o with slots:=sl}) (free:∀b o,b ∉ ch→s.heap.get? b=some o→H b=none→H' b=none)
  (there:∀b o,b ∉ ch→s.heap.get? b=some o→∃o',h'.get? b=some o')
  (tups:∀b xs,H b=some (.tup xs)→H' b=some (.tup xs)) (kM:∀b o u,H b=some (.bN o u)→H' b=some (.bN o u)) (mn:∀b ps,H b=some (.sU ps)→∃more,H' b=some (.sU (ps++more)))
  (ns:∀m,s.heap.Ns X.env.locals m→h'.Ns X.env.locals m) (hok:dH X.prog X.w H' h') (hg:AllBare g'):
  Inv X pins σ H' {s with heap:=h',gens:=g',drawn:=d',toks:=t'}:=by
 have JK:∀b o,X.s₀.heap.get? b=some o→b≠X.env.locals:=fun b o e=>Nat.ne_of_lt (Nat.lt_of_lt_of_le (Heap.lt_size e) I.ok.above)
 have Cu:∀b o,X.s₀.heap.get? b=some o→b ∉ X.ex→b ∉ ch:=fun b o e hx hb=>by
  rcases(hch b hb).1 with z | z
  ·exact hx z
  ·exact absurd (Nat.lt_of_lt_of_le (Heap.lt_size e) z) (Nat.lt_irrefl _)
 have cellK:∀x c,X.env.cells.lookup x=some c→∀v,s.heap.IsCell c v→h'.IsCell c v:=fun x c e v ⟨o,ho,hd⟩=>by
  have mq:c ∉ ch:=fun z=>(hch c z).2.2.1 x c e rfl
  by_cases hc:c∈X.fs
  ·obtain⟨sl,q⟩:=slot c o (I.tm x c e) hc mq ho (I.iq x c e)
   exact⟨_,q,hd⟩
  ·exact⟨o,keep c o (I.tm x c e) hc mq ho (I.iq x c e),hd⟩
 refine⟨I.ok,I.os,hg,⟨fun b o e n hb hx=>?_,fun b o e n hb hx=>?_,fun b o e n hx=>?_,fun b o e hx=>?_,fun b xs e=>tups b xs (I.base.tups b xs e),fun b o xs e=>kM b o xs (I.base.kM b o xs e),fun b ps e=>?_⟩,?_,fun x c e=>?_,?_,fun x c e=>?_,fun p hp=>?_,hok,I.len⟩
 ·exact keep b o (JK b o e) hb (Cu b o e hx) (I.base.keep b o e n hb hx) (I.base.free b o e n hx)
 ·obtain⟨sl,e1⟩:=I.base.slot b o e n hb hx
  obtain⟨sl',e2⟩:=slot b _ (JK b o e) hb (Cu b o e hx) e1 (I.base.free b o e n hx)
  exact⟨sl',e2⟩
 ·obtain⟨o',e1⟩:=I.base.there b o e hx
  exact free b o' (Cu b o e hx) e1 (I.base.free b o e n hx)
 ·obtain⟨o',e1⟩:=I.base.there b o e hx
  exact there b o' (Cu b o e hx) e1
 ·obtain⟨m1,e1⟩:=I.base.mn b ps e
  obtain⟨m2,e2⟩:=mn b _ e1
  exact⟨m1++m2,by rw[e2,Array.append_assoc]⟩
 ·obtain⟨m,hn,hl⟩:=I.loc
  refine⟨m,ns m hn,fun i x v e1 e2 e3=>?_⟩
  obtain⟨u,r,l⟩:=hl i x v e1 e2 e3
  refine⟨u,r,?_⟩
  rcases l with l | ⟨k,c,e,z⟩
  ·exact .inl l
  ·exact .inr ⟨k,c,e,cellK x c e _ z⟩
 ·obtain⟨v,z⟩:=I.cell x c e
  exact⟨v,cellK x c e v z⟩
 ·obtain⟨m,⟨o,_,_,ho,_⟩,_⟩:=I.loc
  exact free _ o (fun z=>(hch _ z).2.1 rfl) ho I.free
 ·obtain⟨v,o,ho,hd⟩:=I.cell x c e
  exact free c o (fun z=>(hch c z).2.2.1 x c e rfl) ho (I.iq x c e)
 ·obtain⟨e,n,ne,nf,d⟩:=I.pin p hp
  have mq:p.1 ∉ ch:=fun z=>(hch p.1 z).2.2.2 p hp rfl
  exact⟨keep p.1 p.2 ne nf mq e n,free p.1 p.2 mq e n,ne,nf,d⟩
theorem Inv.un {t':Nat} (I:Inv X pins σ H s) (u:Un X.fs [] H H' s.heap h') (hok:dH X.prog X.w H' h'):Inv X pins σ H' {s with heap:=h',toks:=t'}:=by
 obtain⟨m,⟨o,es,ep,ho,r⟩,_⟩:=id I.loc
 obtain⟨sl,hL⟩:=u.any ho I.free (by simp)
 exact I.step (g':=s.gens) (d':=s.drawn) (ch:=[]) (fun _ z=>nomatch z) (fun b o _ hb _ e n=>u.keep b o e n hb (by simp)) (fun b o _ hb _ e n=>u.slot b o e n hb (by simp)) (fun b o _ e n=>u.free b o e n (by simp)) (fun b o _ e=>u.there b o e (by simp)) u.tups u.kM u.mn (fun m' hm=>by
  obtain⟨o',es',ep',ho',r'⟩:=hm
  rw[ho] at ho';cases ho'
  exact⟨_,es',ep',hL,r'⟩) hok I.bare
theorem Inv.call {g':Array GenState} {t':Nat} {d':Drawn} {ch:List Addr} (I:Inv X pins σ H s) (u:Un (frs X.stack) ch H H' s.heap h') (hok:dH X.prog X.w H' h') (hg:AllBare g')
  (hch:∀b∈ch,(b∈X.ex∨X.s₀.heap.objs.size≤b)∧b≠X.env.locals∧(∀x c,X.env.cells.lookup x=some c→c≠b)∧∀p∈X.pn++pins,p.1≠b):
  Inv X pins σ H' {s with heap:=h',gens:=g',drawn:=d',toks:=t'}:=by
 obtain⟨m,⟨o,es,ep,ho,r⟩,_⟩:=id I.loc
 obtain⟨sl,hL⟩:=u.any ho I.free fun z=>(hch _ z).2.1 rfl
 exact I.step (ch:=ch) hch (fun b o hL hb hc e n=>u.keep b o e n (fun z=>(List.mem_cons.mp (I.tu b z)).elim hL hb) hc) (fun b o _ _ hc e n=>u.any e n hc) (fun b o hc e n=>u.free b o e n hc) (fun b o hc e=>u.there b o e hc) u.tups u.kM u.mn (fun m' hm=>by
  obtain⟨o',es',ep',ho',r'⟩:=hm
  rw[ho] at ho';cases ho'
  exact⟨_,es',ep',hL,r'⟩) hok hg
theorem Inv.turned {t':Nat} {it:Addr} (I:Inv X pins σ H s) (k:∀b o,b≠it→s.heap.get? b=some o→h'.get? b=some o) (hn:H it=none) (hL:it≠X.env.locals)
  (h1:it∈X.ex∨X.s₀.heap.objs.size≤it) (h2:∀x c,X.env.cells.lookup x=some c→c≠it) (h3:∀p∈X.pn++pins,p.1≠it):Inv X pins σ H {s with heap:=h',toks:=t'}:=by
 have JL:∀b u,H b=some u→b≠it:=fun b u e z=>by rw[z,hn] at e;cases e
 refine I.step (g':=s.gens) (d':=s.drawn) (ch:=[it]) (fun b hb=>?_) (fun b o _ _ hc e _=>k b o (fun z=>hc (by simp[z])) e) (fun b o _ _ hc e _=>⟨o.slots,k b o (fun z=>hc (by simp[z])) e⟩) (fun _ _ _ _ n=>n)
  (fun b o hc e=>⟨o,k b o (fun z=>hc (by simp[z])) e⟩) (fun _ _ e=>e) (fun _ _ _ e=>e) (fun b ps e=>⟨#[],by rw[e];simp⟩) (fun m hm=>?_) (fun b u e=>?_) I.bare
 ·have e:b=it:=by simpa using hb
  subst e
  exact⟨h1,hL,h2,h3⟩
 ·obtain⟨o,es,ep,ho,r⟩:=hm
  exact⟨o,es,ep,k _ o (Ne.symm hL) ho,r⟩
 ·refine(I.hok b u e).stay (fun c v hc q=>k c v ?_ q) (fun _ q=>q) fun _ _ q=>q
  rcases hc with z | z
  ·rw[z];exact JL b u e
  ·exact JL c _ z
theorem Inv.tok (I:Inv X pins σ H s) (t:Nat):Inv X pins σ H {s with toks:=t}:=I.un (h':=s.heap) (t':=t) Un.refl I.hok
theorem Inv.kept {t':Nat} (I:Inv X pins σ H s) (k:∀b u,s.heap.get? b=some u→h'.get? b=some u):Inv X pins σ H {s with heap:=h',toks:=t'}:=I.un (Un.kept k) (I.hok.kept k)
theorem Inv.laid {a:Addr} {o:HO} {t':Nat} (I:Inv X pins σ H s) (k:∀b u,s.heap.get? b=some u→h'.get? b=some u) (hp:s.heap.objs.size≤a) (new:bK X.prog X.w (upd H a o) h' a o):
  Inv X pins σ (upd H a o) {s with heap:=h',toks:=t'}:=I.un (Un.laid k hp (I.hok.fresh hp)) (I.hok.laid k hp new)
theorem Inv.write {x e:Addr} {o:HO} {t':Nat} (I:Inv X pins σ H s) (mu:yG (H x)) (he:e=x∨H e=some (.own x)) (k:∀b u,b≠e→s.heap.get? b=some u→h'.get? b=some u) (heo:∃u,h'.get? e=some u)
  (new:bK X.prog X.w (upd H x o) h' x o):Inv X pins σ (upd H x o) {s with heap:=h',toks:=t'}:=I.un (Un.write mu he k heo) (I.hok.write mu he k heo new)
theorem Inv.wb {Cv:List (Addr×Obj)} (I:Inv X pins σ H s) (h:∀p∈Cv,s.heap.get? p.1=some p.2∧H p.1=none∧p.1≠X.env.locals∧p.1 ∉ X.fs∧∀v,p.2.data≠.cell v):Inv X Cv σ H s:=
 ⟨I.ok,I.os,I.bare,I.base,I.loc,I.cell,I.free,I.iq,fun p hp=>(List.mem_append.mp hp).elim (fun z=>I.pin p (List.mem_append_left _ z)) (h p),I.hok,I.len⟩
theorem tE {N:List Str} (hN:N.Nodup) {i j:Nat} {x:Str} (a:N[i]? =some x) (b:N[j]? =some x):i=j:=by
 obtain⟨h1,e1⟩:=List.getElem?_eq_some_iff.mp a
 obtain⟨h2,e2⟩:=List.getElem?_eq_some_iff.mp b
 exact(List.getElem_inj hN).mp (e1.trans e2.symm)
theorem qH {M:Model} {A:Around} {E:Value→Shared→Prop} {i:Nat} {x:Str} {v:V} {u:Value} {Q:Unit→Shared→Prop} (I:Inv X pins σ H s) (hN:X.N.Nodup) (hi:X.N[i]? =some x) (hx:Loc X.env.scope x) (r:RelV v u)
  (h:∀s',Inv X pins (σ.set i (some v)) H s'→(∃a,Heap.SameBut a s.heap s'.heap∧(a=X.env.locals∨X.env.cells.lookup x=some a))→Q () s') (hf:X.fn x=true∨X.env.scope.names.lookup x=some .local:=by first | exact .inl rfl | exact .inr rfl | assumption):wpAny M A (storeName X.env x u) Q E s:=by
 obtain⟨m,hn,hl⟩:=id I.loc
 have hcls:(X.env.scope.kind == .class||(X.env.scope.kind == .module&&X.env.locals != X.env.globals))=false:=by rw[I.ok.kind];rfl
 have JM:i<σ.length:=by rw[I.len];exact(List.getElem?_eq_some_iff.mp hi).1
 have tm:=I.tm
 have tracked:∀{a:Addr} {h':Heap},(∃o,s.heap.get? a=some o∧H a=none)→Heap.SameBut a s.heap h'→dH X.prog X.w H h':=fun {a h'} ha hs b ob e=>by
  obtain⟨_,_,hfree⟩:=ha
  refine(I.hok b ob e).stay (fun c w' hc q=>(hs.2 c ?_).trans q) (fun _ q=>q) fun _ _ q=>q
  rintro rfl
  rcases hc with rfl | hc
  ·rw[hfree] at e;cases e
  ·rw[hfree] at hc;cases hc
 rcases hx with hk | hk
 ·refine wpAny_storeName_local hk hn (fun h' hn' hs=>?_) hcls
  obtain⟨oL,_,_,hoL,_⟩:=id hn
  refine h _ ⟨I.ok,I.os,I.bare,⟨fun b o e n hb hx=>?_,fun b o e n hb hx=>?_,I.base.free,fun b o e hx=>?_,I.base.tups,I.base.kM,I.base.mn⟩,⟨_,hn',fun j y v' e1 e2 e3=>?_⟩,fun y c e=>?_,I.free,I.iq,fun p hp=>?_,tracked ⟨oL,hoL,I.free⟩ hs,by simpa using I.len⟩ ⟨_,hs,.inl rfl⟩
  ·exact(hs.2 b (Nat.ne_of_lt (Nat.lt_of_lt_of_le (Heap.lt_size e) I.ok.above))).trans (I.base.keep b o e n hb hx)
  ·obtain⟨sl,e1⟩:=I.base.slot b o e n hb hx
   exact⟨sl,(hs.2 b (Nat.ne_of_lt (Nat.lt_of_lt_of_le (Heap.lt_size e) I.ok.above))).trans e1⟩
  ·obtain⟨o',e1⟩:=I.base.there b o e hx
   exact⟨o',(hs.2 b (Nat.ne_of_lt (Nat.lt_of_lt_of_le (Heap.lt_size e) I.ok.above))).trans e1⟩
  ·by_cases hj:j=i
   ·subst hj
    rw[hi] at e1;cases e1
    rw[List.getElem?_set_self JM] at e2
    cases e2
    exact⟨u,r,.inl ⟨hk,by simp⟩⟩
   ·rw[List.getElem?_set_ne (Ne.symm hj)] at e2
    obtain⟨u',r',q⟩:=hl j y v' e1 e2 e3
    refine⟨u',r',?_⟩
    rcases q with⟨k,e⟩ | ⟨k,c,e,z⟩
    ·refine .inl ⟨k,?_⟩
     have:y≠x:=fun e=>hj (tE hN e1 (e▸hi))
     simp[this,e]
    ·exact .inr ⟨k,c,e,z.sameBut hs (tm y c e)⟩
  ·obtain⟨w',z⟩:=I.cell y c e
   exact⟨w',z.sameBut hs (tm y c e)⟩
  ·obtain⟨e,n,ne,nf,d⟩:=I.pin p hp
   exact⟨(hs.2 p.1 ne).trans e,n,ne,nf,d⟩
 ·have hfn:X.fn x=true:=by
   rcases hf with z | z
   ·exact z
   ·rw[z] at hk;cases hk
  obtain⟨c,hc⟩:=I.ok.has x (.inl hk)
  obtain⟨w',z⟩:=I.cell x c hc
  refine wpAny_storeName_cell I.ok.kind hk hc z (fun h' hc' hs=>?_)
  obtain⟨oc,hoc,LG⟩:=id z
  refine h {s with heap:=h'} ⟨I.ok,I.os,I.bare,⟨fun b o e n hb hx=>?_,fun b o e n hb hx=>?_,I.base.free,fun b o e hx=>?_,I.base.tups,I.base.kM,I.base.mn⟩,⟨m,hn.sameBut hs (Ne.symm (tm x c hc)),fun j y v' e1 e2 e3=>?_⟩,fun y c' e=>?_,I.free,I.iq,fun p hp=>?_,tracked ⟨oc,hoc,I.iq x c hc⟩ hs,by simpa using I.len⟩ ⟨c,hs,.inr hc⟩
  ·exact(hs.2 b (Nat.ne_of_lt (Nat.lt_of_lt_of_le (Heap.lt_size e) (I.ok.cab x c hfn hc)))).trans (I.base.keep b o e n hb hx)
  ·obtain⟨sl,e1⟩:=I.base.slot b o e n hb hx
   exact⟨sl,(hs.2 b (Nat.ne_of_lt (Nat.lt_of_lt_of_le (Heap.lt_size e) (I.ok.cab x c hfn hc)))).trans e1⟩
  ·obtain⟨o',e1⟩:=I.base.there b o e hx
   exact⟨o',(hs.2 b (Nat.ne_of_lt (Nat.lt_of_lt_of_le (Heap.lt_size e) (I.ok.cab x c hfn hc)))).trans e1⟩
  ·by_cases hj:j=i
   ·subst hj
    rw[hi] at e1;cases e1
    rw[List.getElem?_set_self JM] at e2
    cases e2
    exact⟨u,r,.inr ⟨.inl hk,c,hc,hc'⟩⟩
   ·rw[List.getElem?_set_ne (Ne.symm hj)] at e2
    obtain⟨u',r',q⟩:=hl j y v' e1 e2 e3
    refine⟨u',r',?_⟩
    rcases q with q | ⟨k,c',e,z'⟩
    ·exact .inl q
    ·refine .inr ⟨k,c',e,z'.sameBut hs ?_⟩
     rintro rfl
     exact hj (tE hN e1 (I.ok.inj _ _ _ e hc▸hi))
  ·by_cases hcc:c'=c
   ·subst hcc;exact⟨_,hc'⟩
   ·obtain⟨w2,z2⟩:=I.cell y c' e
    exact⟨w2,z2.sameBut hs hcc⟩
  ·obtain⟨e,n,ne,nf,d⟩:=I.pin p hp
   refine⟨(hs.2 p.1 ?_).trans e,n,ne,nf,d⟩
   intro q
   rw[q,hoc] at e
   have q':oc=p.2:=Option.some.inj e
   exact d w' (by rw[←q'];exact LG)
theorem tG {M:Model} {A:Around} {E:Value→Shared→Prop} {i:Nat} {x:Str} {v:V} {u:Value} {Q:Unit→Shared→Prop} (I:Inv X pins σ H s) (hN:X.N.Nodup) (hi:X.N[i]? =some x) (hx:Loc X.env.scope x) (r:RelV v u)
  (h:∀s',Inv X pins (σ.set i (some v)) H s'→Q () s') (hf:X.fn x=true∨X.env.scope.names.lookup x=some .local:=by first | exact .inl rfl | exact .inr rfl | assumption):wpAny M A (storeName X.env x u) Q E s:=
 qH I hN hi hx r (fun s' I' _=>h s' I') hf
theorem Inv.call' {s':Shared} {ch:List Addr} (I:Inv X pins σ H s) (ho:s'.os=s.os) (u:Un (frs X.stack) ch H H' s.heap s'.heap) (hok:dH X.prog X.w H' s'.heap) (hg:AllBare s'.gens)
  (hch:∀b∈ch,(b∈X.ex∨X.s₀.heap.objs.size≤b)∧b≠X.env.locals∧(∀x c,X.env.cells.lookup x=some c→c≠b)∧∀p∈X.pn++pins,p.1≠b):Inv X pins σ H' s':=by
 obtain⟨h',g',d',t',o'⟩:=s'
 have e:o'=s.os:=ho
 subst e
 exact I.call (g':=g') (t':=t') (d':=d') u hok hg hch
end
abbrev XK:=Value→Option Addr→Hp→Prop
abbrev St:=List (Option V)
abbrev VK:=V→Hp→Prop
abbrev TE:=St→Hp→VK→Prop
abbrev TT:=St→Hp→(Bool→Hp→Prop)→Prop
abbrev TA:=St→Hp→(List V→Hp→Prop)→Prop
structure Ends where
 nx:St→Hp→Prop
 rt:VK
 bk:St→Hp→Prop:=fun _ _=>False
 ct:St→Hp→Prop:=fun _ _=>False
abbrev TS:=Ends→St→Hp→Prop
def EP (X:Cx) (pins:List (Addr×Obj)) (σ:St) (Q:VK) (u:Value) (s':Shared):Prop:=∃v H',Inv X pins σ H' s'∧RelV v u∧Q v H'
def TP (X:Cx) (pins:List (Addr×Obj)) (σ:St) (Q:Bool→Hp→Prop) (b:Bool) (s':Shared):Prop:=∃H',Inv X pins σ H' s'∧Q b H'
def AP (X:Cx) (pins:List (Addr×Obj)) (σ:St) (Q:List V→Hp→Prop) (us:List Value) (s':Shared):Prop:=∃vs H',Inv X pins σ H' s'∧Vals vs us∧Q vs H'
def SP (X:Cx) (pins:List (Addr×Obj)) (D:Ends) (f:Flow) (s':Shared):Prop:=
 match f with
 | .next=>∃σ' H',Inv X pins σ' H' s'∧D.nx σ' H'
 | .brk=>∃σ' H',Inv X pins σ' H' s'∧D.bk σ' H'
 | .cont=>∃σ' H',Inv X pins σ' H' s'∧D.ct σ' H'
 | .ret u=>∃v σ' H',Inv X pins σ' H' s'∧RelV v u∧D.rt v H'
def PE (X:Cx) (e:Expr) (t:TE):Prop:=
 ∀(pins:List (Addr×Obj)) (s:Shared) (σ:St) (H:Hp) (Q:VK),Inv X pins σ H s→t σ H Q→wpAny (model X.prog X.w) X.A (eval e X.env) (EP X pins σ Q) X.xe s
def PT (X:Cx) (e:Expr) (t:TT):Prop:=
 ∀(pins:List (Addr×Obj)) (s:Shared) (σ:St) (H:Hp) (Q:Bool→Hp→Prop),Inv X pins σ H s→t σ H Q→wpAny (model X.prog X.w) X.A (isTrue e X.env (eval e X.env)) (TP X pins σ Q) X.xe s
def PW (X:Cx) (e:Expr) (t:TT):Prop:=
 ∀(whole:Sem Value) (pins:List (Addr×Obj)) (s:Shared) (σ:St) (H:Hp) (Q:Bool→Hp→Prop),Inv X pins σ H s→t σ H Q→wpAny (model X.prog X.w) X.A (isTrue e X.env whole) (TP X pins σ Q) X.xe s
theorem PW.pt {X:Cx} {e:Expr} {t:TT} (h:PW X e t):PT X e t:=h _
def PA (X:Cx) (es:List Expr) (t:TA):Prop:=
 ∀(pos:Pos) (pins:List (Addr×Obj)) (s:Shared) (σ:St) (H:Hp) (Q:List V→Hp→Prop),Inv X pins σ H s→t σ H Q→wpAny (model X.prog X.w) X.A (spliced (backTo pos (starEach es X.env))) (AP X pins σ Q) X.xe s
def PS (X:Cx) (st:Stmt) (t:TS):Prop:=
 ∀(pins:List (Addr×Obj)) (s:Shared) (σ:St) (H:Hp) (D:Ends),Inv X pins σ H s→t D σ H→wpAny (model X.prog X.w) X.A (exec st X.env) (SP X pins D) X.xe s
def km (X:Cx) (st:List Stmt) (t:TS):Prop:=
 ∀(pins:List (Addr×Obj)) (s:Shared) (σ:St) (H:Hp) (D:Ends),Inv X pins σ H s→t D σ H→wpAny (model X.prog X.w) X.A (execs st X.env) (SP X pins D) X.xe s
theorem aN {α:Type} {t:Sem α} {Q Q':α→Shared→Prop} {M:Model} {A:Around} {E:Value→Shared→Prop} {s:Shared} (h:wpAny M A t Q E s) (hQ:∀a s,Q a s→Q' a s):wpAny M A t Q' E s:=wpAny_mono h hQ fun _ _ x=>x
section
variable {X:Cx}
def E3 (i:Nat):TE:=fun σ H Q=>∃v,σ[i]? =some (some v)∧Q v H
def tC (v:V):TE:=fun _ H Q=>Q v H
theorem E4 {i:Nat} {x:Str} {pos:Pos} (hN:X.N[i]? =some x) (hv:yI X.env.scope x) (hd:(x == ("__debug__":Str))=false:=by decide) (hcd:(x == ("__classdict__":Str))=false:=by decide):PE X (.Name x pos) (E3 i):=by
 intro pins s σ H Q I h
 obtain⟨v,e,h⟩:=h
 obtain⟨m,hn,hl⟩:=I.loc
 obtain⟨u,r,l⟩:=hl i x v hN e hv
 have fin:EP X pins σ Q u s:=⟨v,H,I,r,h⟩
 rcases l with⟨hk,hm⟩ | ⟨hk,c,hc,hcell⟩
 ·exact wpAny_Name (wpAny_loadName_local I.ok.kind hk hn hm fin) hd
 ·rcases hk with hk | hk
  ·exact wpAny_Name (wpAny_loadName_cell I.ok.kind hk hc hcell fin) hd
  ·exact wpAny_Name (wpAny_loadName_free I.ok.kind hk hc hcell fin hcd) hd
theorem ak {i j pos}:PE X (.Constant (.int i) j pos) (tC (.int i)):=fun _ _ _ H _ I h=>wpAny_Constant_int ⟨.int i,H,I.tok _,⟨_,rfl⟩,h⟩
theorem cZ {b j pos}:PE X (.Constant (.bool b) j pos) (tC (.bl b)):=fun _ _ _ H _ I h=>Constant_bool ⟨.bl b,H,I,rfl,h⟩
theorem oW {j pos}:PE X (.Constant .none j pos) (tC .non):=fun _ _ _ H _ I h=>Constant_none ⟨.non,H,I,rfl,h⟩
theorem iD {x j pos}:PE X (.Constant (.str x) j pos) (tC (.str x)):=fun _ _ _ H _ I h=>Calls.Constant_str ⟨.str x,H,I.tok _,⟨_,rfl⟩,h⟩
def Gl (X:Cx) (x:Str):Prop:=X.env.kindOf x=some .globalImplicit
theorem DX {E:Value→Shared→Prop} {pins:List (Addr×Obj)} {s:Shared} {σ:St} {H:Hp} {x:Str} {u:Value} {pos:Pos} {Q:Value→Shared→Prop} (I:Inv X pins σ H s) (hg:Gl X x) (hm:X.mg x=some u) (h:Q u s)
  (hd:(x == ("__debug__":Str))=false:=by decide):wpAny (model X.prog X.w) X.A (eval (.Name x pos) X.env) Q E s:=
 Calls.Name_function_global I.ok.kind hg (Calls.loadGlobal_global (by rw[I.ok.glob];exact I.mod.glob.keeps I.bk) hm h) hd
theorem dP {E:Value→Shared→Prop} {pins:List (Addr×Obj)} {s:Shared} {σ:St} {H:Hp} {x:Str} {u:Value} {pos:Pos} {Q:Value→Shared→Prop} (I:Inv X pins σ H s) (hg:Gl X x) (hm:X.mg x=none) (hv:bootBuiltins x=some u) (h:Q u s)
  (hn:x≠"__name__":=by decide) (hd:(x == ("__debug__":Str))=false:=by decide):wpAny (model X.prog X.w) X.A (eval (.Name x pos) X.env) Q E s:=by
 obtain⟨mb,h1,h2⟩:=I.mod.blt
 exact Calls.Name_function_global I.ok.kind hg (Calls.loadGlobal_builtin (by rw[I.ok.glob];exact I.mod.glob.keeps I.bk) hm (by rw[I.ok.blt];exact h1.keeps I.bk) ((h2 x hn).trans hv) h) hd
theorem ng {x:Str} {v:V} {u:Value} {pos:Pos} (hg:Gl X x) (hm:X.mg x=none) (hv:bootBuiltins x=some u) (r:RelV v u) (hn:x≠"__name__":=by decide) (hd:(x == ("__debug__":Str))=false:=by decide):PE X (.Name x pos) (tC v):=
 fun _ _ _ H _ I h=>dP I hg hm hv ⟨v,H,I,r,h⟩ hn hd
variable {a b:Expr} {ta tb:TE} {pos:Pos}
def PC (X:Cx) (op:CmpOp) (a b:Expr) (t:TE):Prop:=
 ∀(pins:List (Addr×Obj)) (s:Shared) (σ:St) (H:Hp) (Q:VK),Inv X pins σ H s→t σ H Q→
  wpAny (model X.prog X.w) X.A (eval a X.env) (fun v s₁=>wpAny (model X.prog X.w) X.A (eval b X.env) (fun u s₂=>wpAny (model X.prog X.w) X.A (compareOp op v u) (EP X pins σ Q) X.xe s₂) X.xe s₁) X.xe s
def tB (t:TE):TT:=fun σ H Q=>t σ H fun x H1=>∃c,x=.bl c∧Q c H1
theorem tH {op:CmpOp} {t:TE} (h:PC X op a b t) (h1:behindInMarks op b=false:=by first | exact LH _ (by decide) (by decide) | rfl):PT X (.Compare a [op] [b] pos) (tB t):=by
 intro pins s σ H Q I hw
 refine wpAny_isTrue_Compare1 (aN (h pins s σ H _ I hw) fun v s1 h1=>aN h1 fun u s2 h2=>aN h2 fun c s3 ⟨x,H1,I1,r1,q1⟩=>?_) h1
 obtain⟨d,rfl,q⟩:=q1
 cases r1
 exact wpAny_truthy_bool ⟨H1,I1,q⟩
variable {tA Cw:TT} {rest:List Expr}
def LI (t u:TT):TT:=fun σ H Q=>t σ H fun c H1=>if c=true then u σ H1 Q else Q false H1
def O7 (t u:TT):TT:=fun σ H Q=>t σ H fun c H1=>if c=true then Q true H1 else u σ H1 Q
def LJ (t:TT):TT:=fun σ H Q=>t σ H fun c H1=>Q (!c) H1
theorem kn (ha:PT X a tA):PW X (.BoolOp .And [a] pos) tA:=by
 intro wh pins s σ H Q I h
 refine isTrue_and (aN (ha pins s σ H Q I h) fun c s1 e=>?_)
 cases c with
 | true=>exact isTrue_and_nil e
 | false=>exact e
theorem mr (ha:PT X a tA):PW X (.BoolOp .Or [a] pos) tA:=by
 intro wh pins s σ H Q I h
 refine isTrue_or (aN (ha pins s σ H Q I h) fun c s1 e=>?_)
 cases c with
 | false=>exact isTrue_or_nil e
 | true=>exact e
theorem mw (ha:PT X a tA) (hb:PW X (.BoolOp .And (b::rest) pos) Cw):PW X (.BoolOp .And (a::b::rest) pos) (LI tA Cw):=by
 intro wh pins s σ H Q I h
 refine isTrue_and (aN (ha pins s σ H _ I h) fun c s1 ⟨H1,I1,q1⟩=>?_)
 cases c with
 | true=>exact hb wh pins s1 σ H1 Q I1 q1
 | false=>exact⟨H1,I1,q1⟩
theorem nh (ha:PT X a tA) (hb:PW X (.BoolOp .Or (b::rest) pos) Cw):PW X (.BoolOp .Or (a::b::rest) pos) (O7 tA Cw):=by
 intro wh pins s σ H Q I h
 refine isTrue_or (aN (ha pins s σ H _ I h) fun c s1 ⟨H1,I1,q1⟩=>?_)
 cases c with
 | true=>exact⟨H1,I1,q1⟩
 | false=>exact hb wh pins s1 σ H1 Q I1 q1
theorem ji (ha:PT X a tA):PT X (.UnaryOp .Not a pos) (LJ tA):=by
 intro pins s σ H Q I h
 exact isTrue_not (ha pins s σ H (fun c H1=>Q (!c) H1) I h)
def IP (ta tb:TE):TE:=fun σ H Q=>ta σ H fun x H1=>∃c,x=.bl c∧if c=true then tb σ H1 Q else Q (.bl false) H1
theorem E5 {op} {t:TE} (h:PE X a t):PE X (.BoolOp op [a] pos) t:=fun pins s σ H Q I hw=>BoolOp_one (h pins s σ H Q I hw)
theorem E6 (ha:PE X a ta) (hb:PE X (.BoolOp .And (b::rest) pos) tb):PE X (.BoolOp .And (a::b::rest) pos) (IP ta tb):=by
 intro pins s σ H Q I h
 refine BoolOp_and (aN (ha pins s σ H _ I h) fun v s1 ⟨x,H1,I1,r1,q1⟩=>?_)
 obtain⟨c,rfl,q1⟩:=q1
 cases r1
 refine wpAny_truthy_bool ?_
 cases c with
 | true=>exact hb pins s1 σ H1 Q I1 q1
 | false=>exact⟨.bl false,H1,I1,rfl,q1⟩
def O8 (t:TT) (ta tb:TE):TE:=fun σ H Q=>t σ H fun c H1=>if c=true then ta σ H1 Q else tb σ H1 Q
theorem tI {c:Expr} (hc:PT X c tA) (ha:PE X a ta) (hb:PE X b tb):PE X (.IfExp c a b pos) (O8 tA ta tb):=by
 intro pins s σ H Q I h
 refine wpAny_IfExp (aN (hc pins s σ H _ I h) fun d s1 ⟨H1,I1,q1⟩=>?_)
 cases d with
 | true=>exact ha pins s1 σ H1 Q I1 q1
 | false=>exact hb pins s1 σ H1 Q I1 q1
end
def bp (K:PySem.W.Frag) (H:Hp) (a:Addr) (xs:List V):Prop:=
 Rd H a (.lst xs)∨
  ∃(o:Obj) (its:Array Value) (n:Nat),K.lookup a=some o∧o.cls=.type "list"∧o.dict=none∧o.data=.seq its n∧its.size≤sizeLine∧Vals xs its.toList
def bo (K:PySem.W.Frag) (H:Hp) (a:Addr) (xs:List V):Prop:=
 Rd H a (.tup xs)∨
  ∃(o:Obj) (its:Array Value) (n:Nat),K.lookup a=some o∧o.cls=.type "tuple"∧o.data=.seq its n∧its.size≤sizeLine∧Vals xs its.toList
def LK:Value→Option V
 | .none=>some .non
 | .bool b=>some (.bl b)
 | .int i _=>some (.int i)
 | .str x _=>some (.str x)
 | .bytes b _=>some (.jf b)
 | .float b _=>some (.flt b)
 | .ref a=>some (.ref a)
 | .type n=>some (.ty n)
 | _=>none
theorem RelV.abs {x:V} {u:Value} (r:RelV x u):LK u=some x:=by
 cases x with
 | non=>cases r;rfl
 | bl _=>cases r;rfl
 | int _=>obtain⟨t,rfl⟩:=r;rfl
 | str _=>obtain⟨t,rfl⟩:=r;rfl
 | jf _=>obtain⟨t,rfl⟩:=r;rfl
 | flt _=>obtain⟨t,rfl⟩:=r;rfl
 | ref _=>cases r;rfl
 | ty _=>cases r;rfl
theorem RelV.inj {x y:V} {u:Value} (r:RelV x u) (q:RelV y u):x=y:=Option.some.inj (r.abs.symm.trans q.abs)
theorem Vals.inj:∀{xs ys:List V} {us:List Value},Vals xs us→Vals ys us→xs=ys
 | _,_,_,.nil,.nil=>rfl
 | _,_,_,.cons r t,.cons r' t'=>by rw[r.inj r',Vals.inj t t']
section
variable {X:Cx} {pins:List (Addr×Obj)} {σ:St} {H:Hp} {s:Shared} {a:Addr} {xs ys:List V}
theorem bp.of {K:PySem.W.Frag} (h:H a=some (.lst xs)):bp K H a xs:=.inl (.inl h)
theorem bo.of {K:PySem.W.Frag} (h:H a=some (.tup xs)):bo K H a xs:=.inl (.inl h)
theorem Inv.list (I:Inv X pins σ H s) (h:bp X.K H a xs):∃its:List Value,Vals xs its∧PlainL s.heap a its.toArray∧xs.length≤sizeLine:=by
 rcases h with h | ⟨o,its,n,hk,hc,hd,hs,hz,r⟩
 ·obtain⟨z,its,n,r,e⟩:=h.ok I.hok
  exact⟨its,r,⟨_,n,e,rfl,rfl,rfl⟩,z⟩
 ·refine⟨its.toList,r,⟨o,n,I.iC a o hk,hc,hd,by simpa using hs⟩,?_⟩
  have e:=r.length
  simp only[Array.length_toList] at e
  omega
theorem Inv.tuple (I:Inv X pins σ H s) (h:bo X.K H a xs):∃its:List Value,Vals xs its∧IsTup s.heap a its.toArray∧xs.length≤sizeLine:=by
 rcases h with h | ⟨o,its,n,hk,hc,hs,hz,r⟩
 ·obtain⟨z,its,r,p⟩:=h.ok I.hok
  exact⟨its,r,p,z.1⟩
 ·refine⟨its.toList,r,⟨o,I.iC a o hk,hc,n,by simpa using hs⟩,?_⟩
  have e:=r.length
  simp only[Array.length_toList] at e
  omega
theorem Inv.jj (I:Inv X pins σ H s) (h:bp X.K H a xs) (h':bp X.K H a ys):xs=ys:=by
 obtain⟨its,r,⟨o,n,e,_,_,d⟩,_⟩:=I.list h
 obtain⟨its',r',⟨o',n',e',_,_,d'⟩,_⟩:=I.list h'
 rw[e] at e';cases e'
 rw[d] at d'
 injection d' with d1 _
 have:its=its':=by simpa using congrArg Array.toList d1
 subst this
 exact r.inj r'
theorem Inv.gD (I:Inv X pins σ H s) (h:bo X.K H a xs) (h':bo X.K H a ys):xs=ys:=by
 obtain⟨its,r,⟨o,e,_,n,d⟩,_⟩:=I.tuple h
 obtain⟨its',r',⟨o',e',_,n',d'⟩,_⟩:=I.tuple h'
 rw[e] at e';cases e'
 rw[d] at d'
 injection d' with d1 _
 have:its=its':=by simpa using congrArg Array.toList d1
 subst this
 exact r.inj r'
end
abbrev Cx.wish (X:Cx) (E:Value→Shared→Prop):Cx:={X with xe:=E}
abbrev Cx.Cy (X:Cx):Cx:=X.wish fun _ _=>False
theorem Cx.Ok.wish {X:Cx} (ok:X.Ok) (E:Value→Shared→Prop):(X.wish E).Ok:=
 ⟨ok.mod,ok.kind,ok.glob,ok.blt,ok.above,ok.inj,ok.has,ok.cab,ok.hd,ok.frames,ok.stk,ok.E2,ok.bs,ok.qG,ok.tf,ok.tj,ok.jh,ok.vY⟩
theorem Cx.Ok.iE {X:Cx} {E:Value→Shared→Prop} (ok:(X.wish E).Ok):X.Ok:=
 ⟨ok.mod,ok.kind,ok.glob,ok.blt,ok.above,ok.inj,ok.has,ok.cab,ok.hd,ok.frames,ok.stk,ok.E2,ok.bs,ok.qG,ok.tf,ok.tj,ok.jh,ok.vY⟩
section
variable {X:Cx} {pins:List (Addr×Obj)} {σ:St} {H:Hp} {s:Shared} {E:Value→Shared→Prop}
theorem Inv.wish (I:Inv X pins σ H s) (E:Value→Shared→Prop):Inv (X.wish E) pins σ H s:=⟨I.ok.wish E,I.os,I.bare,I.base,I.loc,I.cell,I.free,I.iq,I.pin,I.hok,I.len⟩
theorem Inv.iE (I:Inv (X.wish E) pins σ H s):Inv X pins σ H s:=⟨I.ok.iE,I.os,I.bare,I.base,I.loc,I.cell,I.free,I.iq,I.pin,I.hok,I.len⟩
theorem SP.iE {D:Ends} {f:Flow} {s':Shared} (h:SP (X.wish E) pins D f s'):SP X pins D f s':=by
 cases f with
 | next=>obtain⟨σ',H',I,q⟩:=h;exact⟨σ',H',I.iE,q⟩
 | brk=>obtain⟨σ',H',I,q⟩:=h;exact⟨σ',H',I.iE,q⟩
 | cont=>obtain⟨σ',H',I,q⟩:=h;exact⟨σ',H',I.iE,q⟩
 | ret u=>obtain⟨v,σ',H',I,r,q⟩:=h;exact⟨v,σ',H',I.iE,r,q⟩
theorem km.Cy {st:List Stmt} {t:TS} (h:km X.Cy st t):km X st t:=fun pins s σ H D I hw=>
 wpAny_mono (h pins s σ H D (I.wish _) hw) (fun _ _ q=>q.iE) fun _ _ z=>False.elim z
end
section
variable {X:Cx} {st:Stmt} {rest:List Stmt} {t u:TS} {e:Expr} {te:TE} {pos:Pos}
def Cz:TS:=fun D σ H=>D.nx σ H
def tJ (t u:TS):TS:=fun D σ H=>t {D with nx:=u D} σ H
theorem br:km X [] Cz:=fun _ _ σ H _ I h=>wpAny_execs_nil ⟨σ,H,I,h⟩
theorem ah (h1:PS X st t) (h2:km X rest u):km X (st::rest) (tJ t u):=by
 intro pins s σ H D I h
 refine wpAny_execs_cons (aN (h1 pins s σ H {D with nx:=u D} I h) fun f s1 q=>?_)
 cases f with
 | next=>
  obtain⟨σ',H',I',q⟩:=q
  exact h2 pins s1 σ' H' D I' q
 | ret v=>exact q
 | brk=>exact q
 | cont=>exact q
theorem ax (h1:PS X st t):km X [st] t:=by
 intro pins s σ H D I h
 refine wpAny_execs_cons (aN (h1 pins s σ H D I h) fun f s1 q=>?_)
 cases f with
 | next=>exact wpAny_execs_nil q
 | ret v=>exact q
 | brk=>exact q
 | cont=>exact q
def E7:TS:=fun D σ H=>D.bk σ H
theorem Bb:PS X (.Break pos) E7:=fun _ _ σ H _ I h=>wpAny_Break ⟨σ,H,I,h⟩
theorem Inv.quiet {pins:List (Addr×Obj)} {σ:St} {H:Hp} {s:Shared} (I:Inv X pins σ H s):interactive X.env=false:=by simp[interactive,I.ok.kind]
def IQ (te:TE):TS:=fun D σ H=>te σ H fun _ H1=>D.nx σ H1
theorem bI (he:PE X e te) (hs:swapsWith e none pos.line X.env=pure false:=by rfl):PS X (.Expr e pos) (IQ te):=by
 intro pins s σ H D I h
 exact wpAny_Expr_any (aN (he pins s σ H _ I h) fun v s1 ⟨x,H1,I1,r1,q1⟩=>⟨σ,H1,I1,q1⟩) I.quiet hs
def LL (te:TE):TS:=fun D σ H=>te σ H D.rt
theorem aS (he:PE X e te):PS X (.Return (some e) pos) (LL te):=by
 intro pins s σ H D I h
 exact wpAny_Return_some (aN (he pins s σ H _ I h) fun v s1 ⟨x,H1,I1,r1,q1⟩=>⟨x,σ,H1,I1,r1,q1⟩)
def Bc (c:TT) (t u:TS):TS:=fun D σ H=>c σ H fun b H1=>if b=true then t D σ H1 else u D σ H1
theorem bZ {c:Expr} {a b:List Stmt} {tc:TT} (hc:PT X c tc) (ha:km X a t) (hb:km X b u):PS X (.If c a b pos) (Bc tc t u):=by
 intro pins s σ H D I h
 refine wpAny_If (aN (hc pins s σ H _ I h) fun d s1 ⟨H1,I1,q1⟩=>?_)
 cases d with
 | true=>exact ha pins s1 σ H1 D I1 q1
 | false=>exact hb pins s1 σ H1 D I1 q1
end
abbrev TG:=V→St→Hp→(St→Hp→Prop)→Prop
abbrev qI:=List V→St→Hp→(St→Hp→Prop)→Prop
def PG (X:Cx) (target:Expr) (t:TG):Prop:=
 ∀(pins:List (Addr×Obj)) (s:Shared) (σ:St) (H:Hp) (v:V) (u:Value) (Q:St→Hp→Prop),Inv X pins σ H s→RelV v u→t v σ H Q→
  wpAny (model X.prog X.w) X.A (assign target X.env u) (fun _ s'=>∃σ' H',Inv X pins σ' H' s'∧Q σ' H') X.xe s
def yJ (X:Cx) (ts:List Expr) (t:qI):Prop:=
 ∀(pins:List (Addr×Obj)) (s:Shared) (σ:St) (H:Hp) (vs:List V) (us:List Value) (Q:St→Hp→Prop),Inv X pins σ H s→Vals vs us→t vs σ H Q→
  wpAny (model X.prog X.w) X.A (assignInOrder ((assignEach ts X.env).map (·.2)) us) (fun _ s'=>∃σ' H',Inv X pins σ' H' s'∧Q σ' H') X.xe s
abbrev Bd:=V→V→V→Hp→(Hp→Prop)→Prop
def E8 (X:Cx) (t:Bd):Prop:=
 ∀(pins:List (Addr×Obj)) (s:Shared) (σ:St) (H:Hp) (o i v:V) (ov iv u:Value) (Q:Hp→Prop),Inv X pins σ H s→RelV o ov→RelV i iv→RelV v u→t o i v H Q→
  wpAny (model X.prog X.w) X.A (setItem ov iv u) (fun _ s'=>∃H',Inv X pins σ H' s'∧Q H') X.xe s
section
variable {X:Cx} {pos:Pos}
def aH (i:Nat):TG:=fun v σ H Q=>Q (σ.set i (some v)) H
theorem az {i:Nat} {x:Str} (hN:X.N.Nodup) (hi:X.N[i]? =some x) (hx:Loc X.env.scope x) (hf:X.fn x=true∨X.env.scope.names.lookup x=some .local:=by first | exact .inl rfl | exact .inr rfl | assumption):PG X (.Name x pos) (aH i):=by
 intro pins s σ H v u Q I r h
 exact wpAny_assign_Name (tG I hN hi hx r (fun s' I'=>⟨_,H,I',h⟩) hf)
def LM:qI:=fun vs σ H Q=>vs=[]∧Q σ H
def IT (t:TG) (u:qI):qI:=fun vs σ H Q=>∃v r,vs=v::r∧t v σ H fun σ' H'=>u r σ' H' Q
theorem bV:yJ X [] LM:=by
 intro pins s σ H vs us Q I r h
 obtain⟨e,h⟩:=h
 subst e
 cases r
 exact assignInOrder_nil ⟨σ,H,I,h⟩
theorem aK {e:Expr} {es:List Expr} {t:TG} {u:qI} (h1:PG X e t) (h2:yJ X es u)
  (hs:(assignEach (e::es) X.env).map (·.2)=assign e X.env::(assignEach es X.env).map (·.2):=by rfl):yJ X (e::es) (IT t u):=by
 intro pins s σ H vs us Q I r h
 obtain⟨v,vr,e1,h⟩:=h
 subst e1
 cases r with
 | cons r rr=>
  rw[hs]
  refine assignInOrder_cons (aN (h1 pins s σ H _ _ _ I r h) fun _ s1 ⟨σ1,H1,I1,q1⟩=>?_)
  exact h2 pins s1 σ1 H1 _ _ Q I1 rr q1
def E9 (K:PySem.W.Frag) (n:Nat) (t:qI):TG:=fun v σ H Q=>∃a xs,v=.ref a∧bo K H a xs∧xs.length=n∧t xs σ H Q
theorem dQ {es:List Expr} {k:Nat} {t:qI} {n:Nat} (hc:X.calm=true) (h:yJ X es t)
  (hn:(assignEach es X.env).length=n:=by rfl) (hst:(assignEach es X.env).findIdx? (·.1)=none:=by rfl):PG X (.Tuple es k pos) (E9 X.K n t):=by
 intro pins s σ H v u Q I r hw
 obtain⟨a,xs,e1,hq,hl,hw⟩:=hw
 subst e1
 cases r
 obtain⟨its,rv,ht,hz⟩:=I.tuple hq
 refine assign_Tuple_tuple (I.ok.hd hc) ht (by simp[hn,←hl,rv.length]) hst fun h' hx=>?_
 have I1:Inv X pins σ H {s with heap:=h'}:=I.kept (t':=s.toks) fun b o e=>hx b o (Nat.ne_of_lt (Heap.lt_size e)) e
 exact h pins _ σ H xs _ Q I1 (by simpa using rv) hw
def LN (to ti:TE) (t:Bd):TG:=fun v σ H Q=>to σ H fun o H1=>ti σ H1 fun i H2=>t o i v H2 fun H3=>Q σ H3
theorem oX {o i:Expr} {to ti:TE} {t:Bd} (ho:PE X o to) (hi:PE X i ti) (hs:E8 X t)
  (ha:∀v,assign (.Subscript o i pos) X.env v=(do
   let ov ←holding [v] (eval o X.env)
   let iv ←holding [v,ov] (eval i X.env)
   standAt pos
   holding [v,ov,iv] (setItem ov iv v)
   release [v,ov,iv] []):=by intro _;rfl):PG X (.Subscript o i pos) (LN to ti t):=by
 intro pins s σ H v u Q I r h
 rw[ha]
 refine wpAny_bind (wpAny_holding (aN (ho pins s σ H _ I h) fun ov s1 ⟨x,H1,I1,r1,q1⟩=>?_))
 refine wpAny_bind (wpAny_holding (aN (hi pins s1 σ H1 _ I1 q1) fun iv s2 ⟨y,H2,I2,r2,q2⟩=>?_))
 refine wpAny_bind (wpAny_standAt (wpAny_bind (wpAny_holding (aN (hs pins s2 σ H2 x y v ov iv u _ I2 r1 r2 r q2) fun _ s3 ⟨H3,I3,q3⟩=>?_))))
 exact wpAny_release ⟨σ,H3,I3,q3⟩
def ou (te:TE) (g:TG):TS:=fun D σ H=>te σ H fun x H1=>g x σ H1 D.nx
theorem iF {tg e:Expr} {te:TE} {g:TG} (he:PE X e te) (hg:PG X tg g) (hs:swapsWithSole [tg] e pos.line X.env=pure false:=by rfl) (hw:swappedStores [tg] e X.env=pure none:=by rfl)
  (h1:(assignEach [tg] X.env).map (·.2)=[assign tg X.env]:=by rfl):PS X (.Assign [tg] e pos) (ou te g):=by
 intro pins s σ H D I h
 refine wpAny_Assign_stores (aN (he pins s σ H _ I h) fun v s1 ⟨x,H1,I1,r1,q1⟩=>?_) hs hw
 rw[h1]
 exact aN (hg pins s1 σ H1 x v _ I1 r1 q1) fun _ s2 q=>q
theorem aC {i:Nat} {x:Str} {e:Expr} {te:TE} {pos':Pos} (hN:X.N.Nodup) (hi:X.N[i]? =some x) (hx:Loc X.env.scope x) (he:PE X e te) (hs:swapsWith e (some (.Name x pos')) pos.line X.env=pure false:=by rfl) (hf:X.fn x=true∨X.env.scope.names.lookup x=some .local:=by first | exact .inl rfl | exact .inr rfl | assumption):
  PS X (.Assign [.Name x pos'] e pos) (ou te (aH i)):=by
 intro pins s σ H D I h
 refine wpAny_Assign_Name (aN (he pins s σ H _ I h) fun v s1 ⟨y,H1,I1,r1,q1⟩=>?_) hs
 exact tG I1 hN hi hx r1 (fun s2 I2=>⟨_,H1,I2,q1⟩) hf
def tK (c:TT) (tb:TS):TS:=fun D σ H=>∃W:Nat→St→Hp→Prop,(∃m,W m σ H)∧∀m σ H,W m σ H→
 c σ H fun b H1=>if b=true then ∃N:St→Hp→Prop,(∀σ' H',N σ' H'→∃m',m'<m∧W m' σ' H')∧tb {D with nx:=N,ct:=N,bk:=D.nx} σ H1 else D.nx σ H1
theorem kO {c:Expr} {body:List Stmt} {tc:TT} {tb:TS} (hp:PassesOwn (model X.prog X.w) X.A X.env X.xe) (hc:PT X c tc) (hb:km X body tb):PS X (.While c body [] pos) (tK tc tb):=by
 intro pins s σ H D I h
 obtain⟨W,⟨m0,w0⟩,turn⟩:=h
 refine wpAny_While (codeAny_whileLoop (fun n s'=>∃σ' H',Inv X pins σ' H' s'∧W n σ' H') ?_ m0 ⟨σ,H,I,w0⟩)
 rintro n s1 ⟨σ1,H1,I1,w1⟩
 refine wpAny_passesOwn hp (aN (hc pins s1 σ1 H1 _ I1 (turn n σ1 H1 w1)) fun b s2 ⟨H2,I2,q2⟩=>?_)
 cases b with
 | true=>
  obtain⟨N,hN,q2⟩:=q2
  rw[if_pos rfl]
  refine wpAny_passesOwn hp (aN (hb pins s2 σ1 H2 _ I2 q2) fun f s3 q3=>?_)
  cases f with
  | next=>
   obtain⟨σ3,H3,I3,n3⟩:=q3
   obtain⟨m',hm,w3⟩:=hN σ3 H3 n3
   exact⟨m',hm,σ3,H3,I3,w3⟩
  | cont=>
   obtain⟨σ3,H3,I3,n3⟩:=q3
   obtain⟨m',hm,w3⟩:=hN σ3 H3 n3
   exact⟨m',hm,σ3,H3,I3,w3⟩
  | brk=>exact q3
  | ret v=>exact q3
 | false=>
  rw[if_neg Bool.false_ne_true]
  exact wpAny_execs_nil ⟨σ1,H2,I2,q2⟩
end
structure It where
 go:Nat→Hp→Prop
 lI:Nat→Hp→V→Hp→Prop
 stop:Nat→Hp→Prop
def fX (X:Cx) (pins:List (Addr×Obj)) (H:Hp) (b:Addr):Prop:=
 H b=none∧b≠X.env.locals∧b ∉ X.fs∧(b∈X.ex∨X.s₀.heap.objs.size≤b)∧(∀x c,X.env.cells.lookup x=some c→c≠b)∧∀p∈X.pn++pins,p.1≠b
theorem Inv.gv {X:Cx} {pins:List (Addr×Obj)} {σ:St} {H H':Hp} {s:Shared} {b:Addr} (I:Inv X pins σ H s) (hb:s.heap.objs.size≤b) (hn:H' b=none):fX X pins H' b:=by
 refine⟨hn,Nat.ne_of_gt (Nat.lt_of_lt_of_le I.lt hb),I.LF hb,.inr (Nat.le_trans I.sz hb),fun x c e z=>?_,fun p hp z=>?_⟩
 ·obtain⟨v,q⟩:=I.cell x c e
  exact absurd (Nat.lt_of_lt_of_le q.lt (by rw[z];exact hb)) (Nat.lt_irrefl _)
 ·exact absurd (Nat.lt_of_lt_of_le (Heap.lt_size (I.pin p hp).1) (by rw[z];exact hb)) (Nat.lt_irrefl _)
structure Turn (P:Program) (w:World) (K:PySem.W.Frag) (tg:Expr) (J:It) (fp:List Addr) (it:Addr) (tn:Nat→Heap→Prop):Prop where
 mem:it∈fp
 obj:∀i h,tn i h→∀b∈fp,∃o,h.get? b=some o∧∀v,o.data≠.cell v
 keep:∀i h h',tn i h→(∀b∈fp,∀o,h.get? b=some o→h'.get? b=some o)→tn i h'
 item:∀(X:Cx),X.prog=P→X.w=w→X.K=K→X.calm=true→∀(i:Nat) (pins:List (Addr×Obj)) (s:Shared) (σ:St) (H:Hp) (E:Value→Shared→Prop),Inv X pins σ H s→(∀b∈fp,fX X pins H b)→tn i s.heap→J.go i H→
  wpAny (model P w) X.A (pyNext (.ref it)) (fun r s1=>∃u,r=some u∧
   wpAny (model P w) X.A (letOwnedTupleGo tg (.ref it) u) (fun _ s2=>∃x H',Inv X pins σ H' s2∧RelV x u∧J.lI i H x H'∧tn (i+1) s2.heap∧∀b∈fp,H' b=none) E s1) E s
 done:∀(X:Cx),X.prog=P→X.w=w→X.K=K→X.calm=true→∀(i:Nat) (pins:List (Addr×Obj)) (s:Shared) (σ:St) (H:Hp) (E:Value→Shared→Prop),Inv X pins σ H s→(∀b∈fp,fX X pins H b)→tn i s.heap→J.stop i H→
  wpAny (model P w) X.A (pyNext (.ref it)) (fun r s1=>r=none∧Inv X pins σ H s1) E s
 self:∀(A:Around) (i:Nat) (s:Shared) (Q:Value→Shared→Prop) (E:Value→Shared→Prop),tn i s.heap→Q (.ref it) s→wpAny (model P w) A (pyIter (.ref it)) Q E s
abbrev TI:=St→Hp→(It→Hp→Prop)→Prop
def PIE (X:Cx) (pins:List (Addr×Obj)) (σ:St) (tg:Expr) (R:It→Hp→Prop) (itv:Value) (s2:Shared):Prop:=
 ∃(it:Addr) (fp:List Addr) (tn:Nat→Heap→Prop) (J:It) (H':Hp),itv=.ref it∧Inv X pins σ H' s2∧Turn X.prog X.w X.K tg J fp it tn∧tn 0 s2.heap∧(∀b∈fp,fX X pins H' b)∧R J H'
def PI (X:Cx) (tg iter:Expr) (wi:TI):Prop:=
 ∀(pins:List (Addr×Obj)) (s:Shared) (σ:St) (H:Hp) (R:It→Hp→Prop),Inv X pins σ H s→wi σ H R→
  wpAny (model X.prog X.w) X.A (eval iter X.env) (fun v s1=>wpAny (model X.prog X.w) X.A (pyIter v) (PIE X pins σ tg R) X.xe s1) X.xe s
theorem ni {M:Model} {A:Around} {E:Value→Shared→Prop} {s:Shared} {tg:Expr} {it:Addr} {u:Value} {o:Obj} {n:String} {vs:Array Value} {Q:Unit→Shared→Prop} (ho:s.heap.get? it=some o) (hc:o.cls=.type n) (hd:o.data=.fields vs)
  (hn:["enumerate","zip","dict_itemiterator","dict_reverseitemiterator","odict_iterator","itertools.zip_longest","itertools.pairwise"].contains n=false) (hQ:Q () s):wpAny M A (letOwnedTupleGo tg (.ref it) u) Q E s:=by
 unfold letOwnedTupleGo
 cases tg<;>first
  | exact wpAny_pure hQ
  | (cases u<;>first
    | exact wpAny_pure hQ
    | (refine wpAny_bind (wpAny_load ho ?_)
       rw[hc,hd]
       show wpAny M A (if(["enumerate","zip","dict_itemiterator","dict_reverseitemiterator","odict_iterator","itertools.zip_longest","itertools.pairwise"].contains n&&vs[0]? == some (rawInt _))=true then _ else _) Q E s
       rw[if_neg (by intro h;rw[hn,Bool.false_and] at h;cases h)]
       exact wpAny_pure hQ))
def tL (K:PySem.W.Frag) (a:Addr):It:=
 ⟨fun i H=>∃xs x,bp K H a xs∧xs[i]? =some x,fun i H x H'=>H'=H∧∀xs,bp K H a xs→xs[i]? =some x,fun i H=>∃xs,bp K H a xs∧xs.length≤i⟩
def wc (K:PySem.W.Frag) (a:Addr):It:=
 ⟨fun i H=>∃xs x,bo K H a xs∧xs[i]? =some x,fun i H x H'=>H'=H∧∀xs,bo K H a xs→xs[i]? =some x,fun i H=>∃xs,bo K H a xs∧xs.length≤i⟩
def qJ (lo:Int) (n:Nat):It:=⟨fun i _=>i<n,fun i H x H'=>H'=H∧x=.int (lo+i),fun i _=>n≤i⟩
theorem yK {P:Program} {w:World} {K:PySem.W.Frag} {tg:Expr} (a it:Addr):Turn P w K tg (tL K a) [it] it (fun i h=>h.IsListIter it a i) where
 mem:=by simp
 obj:=fun i h st b hb=>by
  have e:b=it:=by simpa using hb
  subst e
  obtain⟨o,e,c,d⟩:=st
  exact⟨o,e,fun v z=>by rw[d] at z;cases z⟩
 keep:=fun i h h' st k=>st.at fun o e=>k it (by simp) o e
 item:=by
  intro X hP hw hK hc i pins s σ H E I hf st hg
  subst hP hw hK
  obtain⟨xs,x,hq,hx⟩:=hg
  obtain⟨its,rv,p,hz⟩:=I.list hq
  obtain⟨u,hu,ru⟩:=rv.get hx
  obtain⟨f0,f1,f2,f3,f4,f5⟩:=hf it (by simp)
  refine wpAny_pyNext_list_item st p.isList (x:=u) (by simpa using hu) fun h' st' sb=>?_
  have I1:Inv X pins σ H {s with heap:=h'}:=I.turned (t':=s.toks) (fun b o hb e=>(sb.2 b hb).trans e) f0 f1 f3 f4 f5
  obtain⟨o,e,c,d⟩:=id st'
  exact⟨u,rfl,ni (s:={s with heap:=h'}) e c d (by decide) ⟨x,H,I1,ru,⟨rfl,fun ys hy=>by rw[I.jj hy hq];exact hx⟩,st',fun b hb=>(hf b hb).1⟩⟩
 done:=by
  intro X hP hw hK hc i pins s σ H E I hf st hg
  subst hP hw hK
  obtain⟨xs,hq,hx⟩:=hg
  obtain⟨its,rv,p,hz⟩:=I.list hq
  obtain⟨f0,f1,f2,f3,f4,f5⟩:=hf it (by simp)
  have hl:=rv.length
  exact wpAny_pyNext_list_end (I.ok.hd hc) st p.isList (by simp;omega) fun h' eb=>⟨rfl,I.turned (t':=s.toks) (fun b o hb e=>eb b o hb e) f0 f1 f3 f4 f5⟩
 self:=fun _ _ _ _ _ st h=>wpAny_pyIter_listiter st h
theorem xq {P:Program} {w:World} {K:PySem.W.Frag} {tg:Expr} (a it:Addr):Turn P w K tg (wc K a) [it] it (fun i h=>h.IsTupleIter it a i) where
 mem:=by simp
 obj:=fun i h st b hb=>by
  have e:b=it:=by simpa using hb
  subst e
  obtain⟨o,e,c,d⟩:=st
  exact⟨o,e,fun v z=>by rw[d] at z;cases z⟩
 keep:=fun i h h' st k=>st.at fun o e=>k it (by simp) o e
 item:=by
  intro X hP hw hK hc i pins s σ H E I hf st hg
  subst hP hw hK
  obtain⟨xs,x,hq,hx⟩:=hg
  obtain⟨its,rv,p,hz⟩:=I.tuple hq
  obtain⟨u,hu,ru⟩:=rv.get hx
  obtain⟨f0,f1,f2,f3,f4,f5⟩:=hf it (by simp)
  refine wpAny_pyNext_tuple_item st (show s.heap.IsTuple a its.toArray from p) (x:=u) (by simpa using hu) fun h' st' sb=>?_
  have I1:Inv X pins σ H {s with heap:=h'}:=I.turned (t':=s.toks) (fun b o hb e=>(sb.2 b hb).trans e) f0 f1 f3 f4 f5
  obtain⟨o,e,c,d⟩:=id st'
  exact⟨u,rfl,ni (s:={s with heap:=h'}) e c d (by decide) ⟨x,H,I1,ru,⟨rfl,fun ys hy=>by rw[I.gD hy hq];exact hx⟩,st',fun b hb=>(hf b hb).1⟩⟩
 done:=by
  intro X hP hw hK hc i pins s σ H E I hf st hg
  subst hP hw hK
  obtain⟨xs,hq,hx⟩:=hg
  obtain⟨its,rv,p,hz⟩:=I.tuple hq
  obtain⟨f0,f1,f2,f3,f4,f5⟩:=hf it (by simp)
  have hl:=rv.length
  exact wpAny_pyNext_tuple_end (I.ok.hd hc) st (show s.heap.IsTuple a its.toArray from p) (by simp;omega) fun h' eb=>⟨rfl,I.turned (t':=s.toks) (fun b o hb e=>eb b o hb e) f0 f1 f3 f4 f5⟩
 self:=fun _ _ _ _ _ st h=>wpAny_pyIter_tupleiter st h
theorem xr {P:Program} {w:World} {K:PySem.W.Frag} {tg:Expr} (it:Addr) (lo:Int) (n:Nat):Turn P w K tg (qJ lo n) [it] it (fun i h=>IsRangeIter h it (lo+(i:Nat)*1) ((n:Int)-(i:Nat)) 1) where
 mem:=by simp
 obj:=fun i h st b hb=>by
  have e:b=it:=by simpa using hb
  subst e
  exact⟨_,st,fun v z=>by
   have z':Data.fields _=Data.cell v:=z
   cases z'⟩
 keep:=fun i h h' st k=>k it (by simp) _ st
 item:=by
  intro X hP hw hK hc i pins s σ H E I hf st hg
  subst hP hw hK
  obtain⟨f0,f1,f2,f3,f4,f5⟩:=hf it (by simp)
  have W:=Walks.range (prog:=X.prog) (w:=X.w) (I.ok.hd hc) it lo 1 n
  refine W.item i s _ _ hg st fun v h' tk hv st' kk=>?_
  obtain⟨t,rfl⟩:=hv
  have I1:Inv X pins σ H {s with heap:=h',toks:=tk}:=I.turned (fun b o hb e=>kk b o (by simpa using hb) e) f0 f1 f3 f4 f5
  refine⟨_,rfl,ni (s:={s with heap:=h',toks:=tk}) (n:="range_iterator") st' rfl rfl (by decide) ⟨.int (lo+i),H,I1,⟨t,?_⟩,⟨rfl,rfl⟩,st',fun b hb=>(hf b hb).1⟩⟩
  rw[Int.mul_one]
 done:=by
  intro X hP hw hK hc i pins s σ H E I hf st hg
  subst hP hw hK
  obtain⟨f0,f1,f2,f3,f4,f5⟩:=hf it (by simp)
  exact wpAny_pyNext_range_end (I.ok.hd hc) st (by have:n≤i:=hg;omega) fun h' eb=>⟨rfl,I.turned (t':=s.toks) (fun b o hb e=>eb b o hb e) f0 f1 f3 f4 f5⟩
 self:=fun _ _ _ _ _ st h=>wpAny_pyIter_rangeiter st h
section
variable {X:Cx} {tg:Expr}
def IU (K:PySem.W.Frag) (tl:TE):TI:=fun σ H R=>tl σ H fun x H1=>∃a,x=.ref a∧(∃xs,bp K H1 a xs)∧R (tL K a) H1
def Fb (K:PySem.W.Frag) (tl:TE):TI:=fun σ H R=>tl σ H fun x H1=>∃a,x=.ref a∧(∃xs,bo K H1 a xs)∧R (wc K a) H1
theorem c_ {l:Expr} {tl:TE} (hl:PE X l tl):PI X tg l (IU X.K tl):=by
 intro pins s σ H R I h
 refine aN (hl pins s σ H _ I h) fun v s1 ⟨x,H1,I1,r1,q1⟩=>?_
 obtain⟨a,e,⟨xs,hq⟩,q⟩:=q1
 subst e
 cases r1
 obtain⟨its,rv,p,hz⟩:=I1.list hq
 refine wpAny_pyIter_list p.isList ?_
 refine⟨s1.heap.objs.size,[s1.heap.objs.size],_,_,H1,rfl,I1.kept (t':=s1.toks) fun b o e=>Heap.get?_push_of_some _ e,yK a _,⟨_,Heap.get?_push_size _ rfl,rfl,rfl⟩,fun b hb=>?_,q⟩
 have e:b=s1.heap.objs.size:=by simpa using hb
 subst e
 exact I1.gv (Nat.le_refl _) (I1.hok.fresh (Nat.le_refl _))
theorem f_ {l:Expr} {tl:TE} (hl:PE X l tl):PI X tg l (Fb X.K tl):=by
 intro pins s σ H R I h
 refine aN (hl pins s σ H _ I h) fun v s1 ⟨x,H1,I1,r1,q1⟩=>?_
 obtain⟨a,e,⟨xs,hq⟩,q⟩:=q1
 subst e
 cases r1
 obtain⟨its,rv,p,hz⟩:=I1.tuple hq
 refine wpAny_pyIter_tuple (show s1.heap.IsTuple a its.toArray from p) ?_
 refine⟨s1.heap.objs.size,[s1.heap.objs.size],_,_,H1,rfl,I1.kept (t':=s1.toks) fun b o e=>Heap.get?_push_of_some _ e,xq a _,⟨_,Heap.get?_push_size _ rfl,rfl,rfl⟩,fun b hb=>?_,q⟩
 have e:b=s1.heap.objs.size:=by simpa using hb
 subst e
 exact I1.gv (Nat.le_refl _) (I1.hok.fresh (Nat.le_refl _))
theorem tM {pins:List (Addr×Obj)} {σ:St} {H:Hp} {s:Shared} {R:It→Hp→Prop} {E:Value→Shared→Prop} {lo hi:Int} {t u v:Tok} {tk:Nat} (I:Inv X pins σ H s) (h1: -(2 ^ 62)≤lo) (h2:lo<2 ^ 62) (h3: -(2 ^ 62)≤hi) (h4:hi<2 ^ 62)
  (q:R (qJ lo (hi-lo).toNat) H):wpAny (model X.prog X.w) X.A (pyIter (.ref s.heap.objs.size)) (PIE X pins σ tg R) E {s with heap:=s.heap.push {cls:=.type "range",data:=.fields #[.int lo t,.int hi u,.int 1 v]},toks:=tk}:=by
 refine wpAny_pyIter_range (IsRange.new ..) (small_one h1 h2 h3 h4) ?_
 have I1:Inv X pins σ H {s with heap:=s.heap.push {cls:=.type "range",data:=.fields #[.int lo t,.int hi u,.int 1 v]},toks:=tk}:=I.kept fun b o e=>Heap.get?_push_of_some _ e
 refine⟨(s.heap.push {cls:=.type "range",data:=.fields #[.int lo t,.int hi u,.int 1 v]}).objs.size,[(s.heap.push {cls:=.type "range",data:=.fields #[.int lo t,.int hi u,.int 1 v]}).objs.size],_,_,H,rfl,
  I1.kept (t':=tk) fun b o e=>Heap.get?_push_of_some _ e,xr _ lo (hi-lo).toNat,?_,fun b hb=>?_,q⟩
 ·have e1:lo+((0:Nat):Int)*1=lo:=by simp
  have e2:(((hi-lo).toNat:Nat):Int)-((0:Nat):Int)=Builtin.Range.rangeSize lo hi 1:=by rw[rangeSize_one];split<;>omega
  show IsRangeIter _ _ (lo+((0:Nat):Int)*1) ((((hi-lo).toNat:Nat):Int)-((0:Nat):Int)) 1
  rw[e1,e2]
  exact Heap.get?_push_size _ rfl
 ·have e:b=(s.heap.push {cls:=.type "range",data:=.fields #[.int lo t,.int hi u,.int 1 v]}).objs.size:=by simpa using hb
  subst e
  exact I1.gv (Nat.le_refl _) (I1.hok.fresh (Nat.le_refl _))
def IV (ta:TA):TI:=fun σ H R=>ta σ H fun vs H1=>∃j:Int,vs=[.int j]∧ -(2 ^ 62)≤j∧j<2 ^ 62∧R (qJ 0 j.toNat) H1
def IW (ta:TA):TI:=fun σ H R=>ta σ H fun vs H1=>∃i j:Int,vs=[.int i,.int j]∧(-(2 ^ 62)≤i∧i<2 ^ 62∧ -(2 ^ 62)≤j∧j<2 ^ 62)∧R (qJ i (j-i).toNat) H1
theorem cp {a:Expr} {ta:TA} {p pos:Pos} (hg:Gl X "range") (hm:X.mg "range"=none) (ha:PA X [a] ta) (hs:starEach [a] X.env=[(false,eval a X.env)]:=by rfl):PI X tg (.Call (.Name "range" p) [a] [] pos) (IV ta):=by
 intro pins s σ H R I h
 refine Call_ (dP I hg hm boot_range (PyProof.Rows.callWith_type1 (aN (ha pos pins s σ H _ I h) fun us s1 ⟨vs,H1,I1,r1,q1⟩=>?_) hs rfl))
 obtain⟨j,e,q1,q2,q⟩:=q1
 subst e
 cases r1 with
 | cons r rr=>
  cases rr
  obtain⟨t,rfl⟩:=r
  exact call_range_1 (tM I1 (by omega) (by omega) q1 q2 (by simpa using q))
theorem qK {a b:Expr} {ta:TA} {p pos:Pos} (hg:Gl X "range") (hm:X.mg "range"=none) (ha:PA X [a,b] ta) (hs:starEach [a,b] X.env=[(false,eval a X.env),(false,eval b X.env)]:=by rfl) (hs2:starEach [b] X.env=[(false,eval b X.env)]:=by rfl):
  PI X tg (.Call (.Name "range" p) [a,b] [] pos) (IW ta):=by
 intro pins s σ H R I h
 refine Call_ (dP I hg hm boot_range (PyProof.Rows.callWith_type1 (aN (ha pos pins s σ H _ I h) fun us s1 ⟨vs,H1,I1,r1,q1⟩=>?_) (by rw[hs,hs2]) (by rw[hs2];rfl)))
 obtain⟨i,j,e,⟨q1,q2,q3,q4⟩,q⟩:=q1
 subst e
 cases r1 with
 | cons r rr=>
  cases rr with
  | cons r' rr=>
   cases rr
   obtain⟨t,rfl⟩:=r
   obtain⟨t',rfl⟩:=r'
   exact call_range_2 (tM I1 q1 q2 q3 q4 q)
def Fc (wi:TI) (g:TG) (tb:TS):TS:=fun D σ H=>wi σ H fun J H1=>∃W:Nat→Nat→St→Hp→Prop,(∃m,W 0 m σ H1)∧∀i m σ H,W i m σ H→
 (J.stop i H∧D.nx σ H)∨(J.go i H∧∃N:St→Hp→Prop,(∀σ' H',N σ' H'→∃m',m'<m∧W (i+1) m' σ' H')∧∀x H',J.lI i H x H'→g x σ H' fun σ2 H2=>tb {D with nx:=N,ct:=N,bk:=D.nx} σ2 H2)
def my (fp:List Addr) (h:Heap):List (Addr×Obj):=fp.filterMap fun b=>(h.get? b).map fun o=>(b,o)
theorem i5 {fp:List Addr} {h:Heap} {b:Addr} {o:Obj} (hb:b∈fp) (e:h.get? b=some o):(b,o)∈my fp h:=List.mem_filterMap.mpr ⟨b,hb,by rw[e];rfl⟩
theorem yL {fp:List Addr} {h:Heap} {p:Addr×Obj} (hp:p∈my fp h):p.1∈fp∧h.get? p.1=some p.2:=by
 obtain⟨b,hb,e⟩:=List.mem_filterMap.mp hp
 cases q:h.get? b with
 | none=>rw[q] at e;cases e
 | some o=>
  rw[q] at e
  have e':(b,o)=p:=Option.some.inj e
  subst e'
  exact⟨hb,q⟩
theorem Inv.pinned {pins:List (Addr×Obj)} {σ:St} {H:Hp} {s:Shared} {fp:List Addr} (I:Inv X pins σ H s) (hf:∀b∈fp,fX X pins H b) (ho:∀b∈fp,∃o,s.heap.get? b=some o∧∀v,o.data≠.cell v):Inv X (pins++my fp s.heap) σ H s:=
 I.wb fun p hp=>(List.mem_append.mp hp).elim (fun z=>I.pin p (List.mem_append_right _ z)) fun z=>by
  obtain⟨hb,e⟩:=yL z
  obtain⟨f0,f1,f2,_⟩:=hf p.1 hb
  obtain⟨o,e',d⟩:=ho p.1 hb
  rw[e] at e';cases e'
  exact⟨e,f0,f1,f2,d⟩
theorem Inv.kP {pins pl:List (Addr×Obj)} {σ:St} {H:Hp} {s:Shared} (I:Inv X (pins++pl) σ H s):Inv X pins σ H s:=I.wb fun p hp=>I.pin p (List.mem_append_right _ (List.mem_append_left _ hp))
theorem bh {iter:Expr} {body:List Stmt} {wi:TI} {g:TG} {tb:TS} {pos:Pos} (hp:PassesOwn (model X.prog X.w) X.A X.env X.xe) (hc:X.calm=true) (hi:PI X tg iter wi) (hg:PG X tg g) (hb:km X body tb)
  (hs:∀x,foldedSetIterable iter X.env x=pure x:=by intro _;rfl):PS X (.For tg iter body [] pos) (Fc wi g tb):=by
 intro pins s σ H D I h
 refine wpAny_For (aN (hi pins s σ H _ I h) fun v s1 h1=>aN h1 fun itv s2 h2=>?_) hs
 obtain⟨it,fp,tn,J,H2,e,I2,T,st2,f2,W,⟨m0,w0⟩,turn⟩:=h2
 subst e
 have stat:∀{H':Hp},(∀b∈fp,H' b=none)→∀b∈fp,fX X pins H' b:=fun hn b hb=>⟨hn b hb,(f2 b hb).2⟩
 refine codeAny_forLoop_any (fun n s'=>∃i σ' H',Inv X pins σ' H' s'∧tn i s'.heap∧(∀b∈fp,H' b=none)∧W i n σ' H') ?_ m0 ⟨0,σ,H2,I2,st2,fun b hb=>(f2 b hb).1,w0⟩
 rintro n s3 ⟨i,σ3,H3,I3,st3,JN,w3⟩
 rcases turn i n σ3 H3 w3 with⟨stop,qn⟩ | ⟨go,N,hN,step⟩
 ·refine wpAny_passesOwn hp (aN (T.done X rfl rfl rfl hc i pins s3 σ3 H3 X.xe I3 (stat JN) st3 stop) fun r s4 ⟨hr,I4⟩=>?_)
  subst hr
  exact wpAny_execs_nil ⟨σ3,H3,I4,qn⟩
 ·refine wpAny_passesOwn hp (aN (T.item X rfl rfl rfl hc i pins s3 σ3 H3 X.xe I3 (stat JN) st3 go) fun r s4 ⟨u,hr,h4⟩=>?_)
  subst hr
  refine wpAny_passesOwn hp (aN h4 fun _ s5 ⟨x,H5,I5,r5,y5,wd,CA⟩=>?_)
  have O9:=I5.pinned (stat CA) (T.obj _ _ wd)
  refine wpAny_passesOwn hp (aN (hg _ s5 σ3 H5 x u _ O9 r5 (step x H5 y5)) fun _ s6 ⟨σ6,H6,I6,q6⟩=>?_)
  refine wpAny_passesOwn hp (aN (hb _ s6 σ6 H6 _ I6 q6) fun f s7 q7=>?_)
  have again:∀{σ7:St} {H7:Hp},Inv X (pins++my fp s5.heap) σ7 H7 s7→N σ7 H7→∃m,m<n∧∃i σ' H',Inv X pins σ' H' s7∧tn i s7.heap∧(∀b∈fp,H' b=none)∧W i m σ' H':=fun {σ7 H7} I7 n7=>by
   obtain⟨m',hm,w7⟩:=hN σ7 H7 n7
   refine⟨m',hm,i+1,σ7,H7,I7.kP,T.keep _ _ _ wd fun b hb o e=>(I7.pin (b,o) (List.mem_append_right _ (List.mem_append_right _ (i5 hb e)))).1,fun b hb=>?_,w7⟩
   obtain⟨o,e,d⟩:=T.obj _ _ wd b hb
   exact(I7.pin (b,o) (List.mem_append_right _ (List.mem_append_right _ (i5 hb e)))).2.1
  cases f with
  | next=>obtain⟨σ7,H7,I7,n7⟩:=q7;exact again I7 n7
  | cont=>obtain⟨σ7,H7,I7,n7⟩:=q7;exact again I7 n7
  | brk=>obtain⟨σ7,H7,I7,q7⟩:=q7;exact⟨σ7,H7,I7.kP,q7⟩
  | ret v=>obtain⟨x7,σ7,H7,I7,r7,q7⟩:=q7;exact⟨x7,σ7,H7,I7.kP,r7,q7⟩
end
theorem g_ {K:PySem.W.Frag} {a:Addr} {xs:List V} {g:TG} {tb:TS} {D:Ends} {σ:St} {H:Hp} (Pv:Nat→St→Hp→Prop) (h0:Pv 0 σ H) (hl:∀i σ H,i≤xs.length→Pv i σ H→bp K H a xs)
  (hs:∀i x σ H,xs[i]? =some x→Pv i σ H→g x σ H fun σ2 H2=>tb {D with nx:=Pv (i+1),ct:=Pv (i+1),bk:=D.nx} σ2 H2) (hd:∀σ H,Pv xs.length σ H→D.nx σ H):
  ∃W:Nat→Nat→St→Hp→Prop,(∃m,W 0 m σ H)∧∀i m σ H,W i m σ H→
   ((tL K a).stop i H∧D.nx σ H)∨((tL K a).go i H∧∃N:St→Hp→Prop,(∀σ' H',N σ' H'→∃m',m'<m∧W (i+1) m' σ' H')∧∀x H',(tL K a).lI i H x H'→g x σ H' fun σ2 H2=>tb {D with nx:=N,ct:=N,bk:=D.nx} σ2 H2):=by
 refine⟨fun i m σ H=>m=xs.length-i∧i≤xs.length∧Pv i σ H,⟨xs.length,by simp,Nat.zero_le _,h0⟩,?_⟩
 rintro i m σ H ⟨rfl,hi,p⟩
 have q:=hl i σ H hi p
 by_cases hlt:i<xs.length
 ·refine .inr ⟨⟨xs,xs[i],q,by simp[hlt]⟩,Pv (i+1),fun σ' H' p'=>⟨xs.length-(i+1),by omega,rfl,hlt,p'⟩,fun x H' y=>?_⟩
  obtain⟨e,y⟩:=y
  subst e
  exact hs i x σ _ (y xs q) p
 ·have e:i=xs.length:=by omega
  subst e
  exact .inl ⟨⟨xs,q,Nat.le_refl _⟩,hd σ H p⟩
theorem ko {K:PySem.W.Frag} {a:Addr} {xs:List V} {g:TG} {tb:TS} {D:Ends} {σ:St} {H:Hp} (Pv:Nat→St→Hp→Prop) (h0:Pv 0 σ H) (hl:∀i σ H,i≤xs.length→Pv i σ H→bo K H a xs)
  (hs:∀i x σ H,xs[i]? =some x→Pv i σ H→g x σ H fun σ2 H2=>tb {D with nx:=Pv (i+1),ct:=Pv (i+1),bk:=D.nx} σ2 H2) (hd:∀σ H,Pv xs.length σ H→D.nx σ H):
  ∃W:Nat→Nat→St→Hp→Prop,(∃m,W 0 m σ H)∧∀i m σ H,W i m σ H→
   ((wc K a).stop i H∧D.nx σ H)∨((wc K a).go i H∧∃N:St→Hp→Prop,(∀σ' H',N σ' H'→∃m',m'<m∧W (i+1) m' σ' H')∧∀x H',(wc K a).lI i H x H'→g x σ H' fun σ2 H2=>tb {D with nx:=N,ct:=N,bk:=D.nx} σ2 H2):=by
 refine⟨fun i m σ H=>m=xs.length-i∧i≤xs.length∧Pv i σ H,⟨xs.length,by simp,Nat.zero_le _,h0⟩,?_⟩
 rintro i m σ H ⟨rfl,hi,p⟩
 have q:=hl i σ H hi p
 by_cases hlt:i<xs.length
 ·refine .inr ⟨⟨xs,xs[i],q,by simp[hlt]⟩,Pv (i+1),fun σ' H' p'=>⟨xs.length-(i+1),by omega,rfl,hlt,p'⟩,fun x H' y=>?_⟩
  obtain⟨e,y⟩:=y
  subst e
  exact hs i x σ _ (y xs q) p
 ·have e:i=xs.length:=by omega
  subst e
  exact .inl ⟨⟨xs,q,Nat.le_refl _⟩,hd σ H p⟩
theorem dR {lo:Int} {n:Nat} {g:TG} {tb:TS} {D:Ends} {σ:St} {H:Hp} (Pv:Nat→St→Hp→Prop) (h0:Pv 0 σ H)
  (hs:∀i σ H,i<n→Pv i σ H→g (.int (lo+i)) σ H fun σ2 H2=>tb {D with nx:=Pv (i+1),ct:=Pv (i+1),bk:=D.nx} σ2 H2) (hd:∀σ H,Pv n σ H→D.nx σ H):
  ∃W:Nat→Nat→St→Hp→Prop,(∃m,W 0 m σ H)∧∀i m σ H,W i m σ H→
   ((qJ lo n).stop i H∧D.nx σ H)∨((qJ lo n).go i H∧∃N:St→Hp→Prop,(∀σ' H',N σ' H'→∃m',m'<m∧W (i+1) m' σ' H')∧∀x H',(qJ lo n).lI i H x H'→g x σ H' fun σ2 H2=>tb {D with nx:=N,ct:=N,bk:=D.nx} σ2 H2):=by
 refine⟨fun i m σ H=>m=n-i∧i≤n∧Pv i σ H,⟨n,by simp,Nat.zero_le _,h0⟩,?_⟩
 rintro i m σ H ⟨rfl,hi,p⟩
 by_cases hlt:i<n
 ·refine .inr ⟨hlt,Pv (i+1),fun σ' H' p'=>⟨n-(i+1),by omega,rfl,hlt,p'⟩,fun x H' y=>?_⟩
  obtain⟨e,y⟩:=y
  subst e y
  exact hs i σ _ hlt p
 ·have e:i=n:=by omega
  subst e
  exact .inl ⟨Nat.le_refl _,hd σ H p⟩
abbrev R2:=V→V→Hp→VK→Prop
def cY (X:Cx) (f:Value→Value→Sem Value) (r:R2):Prop:=
 ∀(pins:List (Addr×Obj)) (s:Shared) (σ:St) (H:Hp) (x y:V) (v u:Value) (Q:VK),Inv X pins σ H s→RelV x v→RelV y u→r x y H Q→
  wpAny (model X.prog X.w) X.A (f v u) (EP X pins σ Q) X.xe s
def Fd (X:Cx) (f:Value→Sem Value) (r:V→Hp→VK→Prop):Prop:=
 ∀(pins:List (Addr×Obj)) (s:Shared) (σ:St) (H:Hp) (x:V) (v:Value) (Q:VK),Inv X pins σ H s→RelV x v→r x H Q→
  wpAny (model X.prog X.w) X.A (f v) (EP X pins σ Q) X.xe s
def cQ (X:Cx) (f:Value) (r:List V→Hp→VK→Prop):Prop:=
 ∀(pins:List (Addr×Obj)) (s:Shared) (σ:St) (H:Hp) (xs:List V) (us:List Value) (Q:VK),Inv X pins σ H s→Vals xs us→r xs H Q→
  wpAny (model X.prog X.w) X.A (call f us) (EP X pins σ Q) X.xe s
def LO (X:Cx) (r:V→Hp→(Bool→Hp→Prop)→Prop):Prop:=
 ∀(pins:List (Addr×Obj)) (s:Shared) (σ:St) (H:Hp) (x:V) (v:Value) (Q:Bool→Hp→Prop),Inv X pins σ H s→RelV x v→r x H Q→
  wpAny (model X.prog X.w) X.A (truthy v) (TP X pins σ Q) X.xe s
def CB (r:R2) (ta tb:TE):TE:=fun σ H Q=>ta σ H fun x H1=>tb σ H1 fun y H2=>r x y H2 Q
def O' (r:V→Hp→VK→Prop) (ta:TE):TE:=fun σ H Q=>ta σ H fun x H1=>r x H1 Q
def rI (C:Int→Int→Prop) (g:Int→Int→V):R2:=fun x y H Q=>∃i j,x=.int i∧y=.int j∧C i j∧Q (g i j) H
def tN (g:Int→Int→V):R2:=fun x y H Q=>∃i j,x=.int i∧y=.int j∧Q (g i j) H
def rU (g:Int→V):V→Hp→VK→Prop:=fun x H Q=>∃i,x=.int i∧Q (g i) H
section
variable {X:Cx} {a b c:Expr} {ta tb tc:TE} {pos:Pos}
theorem Be (ha:PE X a ta) (hb:PE X b tb) {pins:List (Addr×Obj)} {s:Shared} {σ:St} {H:Hp} {R:V→V→Hp→Prop} (I:Inv X pins σ H s)
  (h:ta σ H fun x H1=>tb σ H1 fun y H2=>R x y H2) {Q:Value→Shared→Prop} {f:Value→Value→Sem Value}
  (hf:∀v u s2 x y H2,Inv X pins σ H2 s2→RelV x v→RelV y u→R x y H2→wpAny (model X.prog X.w) X.A (f v u) Q X.xe s2):
  wpAny (model X.prog X.w) X.A (eval a X.env) (fun v s₁=>wpAny (model X.prog X.w) X.A (eval b X.env) (fun u s₂=>wpAny (model X.prog X.w) X.A (f v u) Q X.xe s₂) X.xe s₁) X.xe s:=by
 refine aN (ha pins s σ H _ I h) fun v s1 ⟨x,H1,I1,r1,q1⟩=>?_
 refine aN (hb pins s1 σ H1 _ I1 q1) fun u s2 ⟨y,H2,I2,r2,q2⟩=>?_
 exact hf v u s2 x y H2 I2 r1 r2 q2
theorem aF {op:Operator} {r:R2} (ho:cY X (binaryOp op) r) (ha:PE X a ta) (hb:PE X b tb):PE X (.BinOp a op b pos) (CB r ta tb):=by
 intro pins s σ H Q I h
 exact wpAny_BinOp (Be ha hb I h fun v u s2 x y H2 I2 rx ry q=>ho pins s2 σ H2 x y v u Q I2 rx ry q)
theorem fI {op:UnaryOp} {r:V→Hp→VK→Prop} (ho:Fd X (unaryOp op) r) (ha:PE X a ta):PE X (.UnaryOp op a pos) (O' r ta):=by
 intro pins s σ H Q I h
 exact UnaryOp_ (aN (ha pins s σ H _ I h) fun v s1 ⟨x,H1,I1,r1,q1⟩=>ho pins s1 σ H1 x v Q I1 r1 q1)
theorem yM {f:Value→Value→Sem Value} {C:Int→Int→Prop} {g:Int→Int→Int}
  (rule:∀(i j:Int) (t u:Tok) (s:Shared) (Q:Value→Shared→Prop) (E:Value→Shared→Prop),C i j→Q (.int (g i j) s.toks) {s with toks:=s.toks+1}→wpAny (model X.prog X.w) X.A (f (.int i t) (.int j u)) Q E s):
  cY X f (rI C fun i j=>.int (g i j)):=by
 intro pins s σ H x y v u Q I rx ry h
 obtain⟨i,j,rfl,rfl,hc,q⟩:=h
 obtain⟨t,rfl⟩:=rx
 obtain⟨t',rfl⟩:=ry
 exact rule i j t t' s _ _ hc ⟨.int (g i j),H,I.tok _,⟨_,rfl⟩,q⟩
theorem Fe {f:Value→Value→Sem Value} {g:Int→Int→Int}
  (rule:∀(i j:Int) (t u:Tok) (s:Shared) (Q:Value→Shared→Prop) (E:Value→Shared→Prop),Q (.int (g i j) s.toks) {s with toks:=s.toks+1}→wpAny (model X.prog X.w) X.A (f (.int i t) (.int j u)) Q E s):
  cY X f (tN fun i j=>.int (g i j)):=by
 intro pins s σ H x y v u Q I rx ry h
 obtain⟨i,j,rfl,rfl,q⟩:=h
 obtain⟨t,rfl⟩:=rx
 obtain⟨t',rfl⟩:=ry
 exact rule i j t t' s _ _ ⟨.int (g i j),H,I.tok _,⟨_,rfl⟩,q⟩
theorem Bg {f:Value→Value→Sem Value} {g:Int→Int→Bool}
  (rule:∀(i j:Int) (t u:Tok) (s:Shared) (Q:Value→Shared→Prop) (E:Value→Shared→Prop),Q (.bool (g i j)) s→wpAny (model X.prog X.w) X.A (f (.int i t) (.int j u)) Q E s):
  cY X f (tN fun i j=>.bl (g i j)):=by
 intro pins s σ H x y v u Q I rx ry h
 obtain⟨i,j,rfl,rfl,q⟩:=h
 obtain⟨t,rfl⟩:=rx
 obtain⟨t',rfl⟩:=ry
 exact rule i j t t' s _ _ ⟨.bl (g i j),H,I,rfl,q⟩
def LP (i j:Int):Prop:=0<j∧j<1073741824
def Ff (i j:Int):Prop:=0≤j∧j≤1000000∧i.natAbs<2 ^ 64
def Bh (i j:Int):Prop:=(-(2 ^ 64)<i∧i<2 ^ 64)∨(-(2 ^ 64)<j∧j<2 ^ 64)
theorem Bh.ok {i j:Int} (h:Bh i j):IntMulOk i j:=by
 rcases h with⟨h1,h2⟩ | ⟨h1,h2⟩
 ·exact .of_left (intBits_le_64 h1 h2)
 ·exact .of_right (intBits_le_64 h1 h2)
theorem cq:cY X (binaryOp .Add) (tN fun i j=>.int (i+j)):=Fe fun _ _ _ _ _ _ _ q=>add_int q
theorem gH:cY X (binaryOp .Sub) (tN fun i j=>.int (i-j)):=Fe fun _ _ _ _ _ _ _ q=>sub_int q
theorem fc:cY X (binaryOp .Mult) (rI Bh fun i j=>.int (i*j)):=yM fun _ _ _ _ _ _ _ hc q=>mul_int q hc.ok
theorem we:cY X (binaryOp .FloorDiv) (rI LP fun i j=>.int (i / j)):=yM fun i j _ _ _ _ _ hc q=>by
 have h1:(0:Int)<j:=hc.1
 have h2:j<1073741824:=hc.2
 exact floordiv_int (by omega) (by rw[Int.fdiv_eq_ediv_of_nonneg i (by omega)];exact q) (.inl (PyProof.noPylong_small (by omega)))
theorem mz:cY X (binaryOp .Mod) (rI (fun _ j=>0<j) fun i j=>.int (i % j)):=yM fun i j _ _ _ _ _ hc q=>by
 have h1:(0:Int)<j:=hc
 exact mod_int' (by omega) (by rw[Int.fmod_eq_emod_of_nonneg i (by omega)];exact q)
theorem yN:cY X (binaryOp .Pow) (rI Ff fun i j=>.int (i ^ j.toNat)):=yM fun _ _ _ _ _ _ _ hc q=>pow_int_small hc.1 hc.2.1 hc.2.2 q
theorem Pa {f:Value→Sem Value} {g:Int→Int}
  (rule:∀(i:Int) (t:Tok) (s:Shared) (Q:Value→Shared→Prop) (E:Value→Shared→Prop),Q (.int (g i) s.toks) {s with toks:=s.toks+1}→wpAny (model X.prog X.w) X.A (f (.int i t)) Q E s):
  Fd X f (rU fun i=>.int (g i)):=by
 intro pins s σ H x v Q I rx h
 obtain⟨i,rfl,q⟩:=h
 obtain⟨t,rfl⟩:=rx
 exact rule i t s _ _ ⟨.int (g i),H,I.tok _,⟨_,rfl⟩,q⟩
theorem eN:Fd X (unaryOp .USub) (rU fun i=>.int (-i)):=Pa fun _ _ _ _ _ q=>neg_int q
end
def Fg:V→V→Bool
 | .non,.non=>true | .non,.int _=>true | .int _,.non=>true | .non,.bl _=>true | .bl _,.non=>true | .non,.str _=>true | .str _,.non=>true
 | .int _,.int _=>true | .bl _,.bl _=>true | .str _,.str _=>true | .jf _,.jf _=>true
 | .int _,.str _=>true | .str _,.int _=>true | .bl _,.str _=>true | .str _,.bl _=>true
 | _,_=>false
def Pb:R2:=fun x y H Q=>Fg x y=true∧Q (.bl (decide (x=y))) H
def JO:R2:=fun x y H Q=>Fg x y=true∧Q (.bl (!decide (x=y))) H
theorem wg {i j:Int}:decide (V.int i=V.int j)=(i == j):=by
 rw[Bool.eq_iff_iff]
 simp
theorem yO {i j:Bool}:decide (V.bl i=V.bl j)=(i == j):=by
 rw[Bool.eq_iff_iff]
 simp
theorem wj {i j:Str}:decide (V.str i=V.str j)=(i == j):=by
 rw[Bool.eq_iff_iff]
 simp
theorem wk {i j:Array UInt8}:decide (V.jf i=V.jf j)=(i.toList == j.toList):=by
 rw[Bool.eq_iff_iff]
 cases i
 cases j
 simp
section
variable {X:Cx} {a b c:Expr} {ta tb tc:TE} {pos:Pos}
theorem bq {pins:List (Addr×Obj)} {σ:St} {H:Hp} {s:Shared} {Q:VK} {k k':Bool} (I:Inv X pins σ H s) (q:Q (.bl k) H) (e:k=k'):EP X pins σ Q (.bool k') s:=by
 subst e
 exact⟨.bl k,H,I,rfl,q⟩
theorem kQ:cY X (compareOp .Eq) Pb:=by
 intro pins s σ H x y v u Q I rx ry h
 obtain⟨hs,q⟩:=h
 cases x with
 | non=>
  cases rx
  cases y with
  | non=>cases ry;exact PySem.EqNone.eq_none_none (bq I q (by simp))
  | bl j=>cases ry;exact PySem.EqNone.eq_none_bool (bq I q (by simp))
  | int j=>obtain⟨t',rfl⟩:=ry;exact PySem.EqNone.eq_none_int (bq I q (by simp))
  | str j=>obtain⟨t',rfl⟩:=ry;exact PySem.EqNone.eq_none_str (bq I q (by simp))
  | _=>exact absurd (show false=true from hs) Bool.false_ne_true
 | bl i=>
  cases rx
  cases y with
  | non=>cases ry;exact PySem.EqNone.eq_bool_none (bq I q (by simp))
  | bl j=>cases ry;exact eq_bool (bq I q yO)
  | str j=>obtain⟨t',rfl⟩:=ry;exact PySem.EqMixed.eq_bool_str (bq I q (by simp))
  | _=>exact absurd (show false=true from hs) Bool.false_ne_true
 | int i=>
  obtain⟨t,rfl⟩:=rx
  cases y with
  | non=>cases ry;exact PySem.EqNone.eq_int_none (bq I q (by simp))
  | int j=>obtain⟨t',rfl⟩:=ry;exact eq_int (bq I q wg)
  | str j=>obtain⟨t',rfl⟩:=ry;exact PySem.EqMixed.eq_int_str (bq I q (by simp))
  | _=>exact absurd (show false=true from hs) Bool.false_ne_true
 | str i=>
  obtain⟨t,rfl⟩:=rx
  cases y with
  | non=>cases ry;exact PySem.EqNone.eq_str_none (bq I q (by simp))
  | bl j=>cases ry;exact PySem.EqMixed.eq_str_bool (bq I q (by simp))
  | int j=>obtain⟨t',rfl⟩:=ry;exact PySem.EqMixed.eq_str_int (bq I q (by simp))
  | str j=>obtain⟨t',rfl⟩:=ry;exact eq_str (bq I q wj)
  | _=>exact absurd (show false=true from hs) Bool.false_ne_true
 | jf i=>
  obtain⟨t,rfl⟩:=rx
  cases y with
  | jf j=>obtain⟨t',rfl⟩:=ry;exact PySem.W.eq_bytes (bq I q wk)
  | _=>exact absurd (show false=true from hs) Bool.false_ne_true
 | _=>cases y<;>exact absurd (show false=true from hs) Bool.false_ne_true
theorem oY:cY X (compareOp .NotEq) JO:=by
 intro pins s σ H x y v u Q I rx ry h
 obtain⟨hs,q⟩:=h
 cases x with
 | non=>
  cases rx
  cases y with
  | non=>cases ry;exact PySem.EqNone.ne_none_none (bq I q (by simp))
  | bl j=>cases ry;exact PySem.EqNone.ne_none_bool (bq I q (by simp))
  | int j=>obtain⟨t',rfl⟩:=ry;exact PySem.EqNone.ne_none_int (bq I q (by simp))
  | str j=>obtain⟨t',rfl⟩:=ry;exact PySem.EqNone.ne_none_str (bq I q (by simp))
  | _=>exact absurd (show false=true from hs) Bool.false_ne_true
 | bl i=>
  cases rx
  cases y with
  | non=>cases ry;exact PySem.EqNone.ne_bool_none (bq I q (by simp))
  | bl j=>cases ry;exact ne_bool (bq I q (congrArg not yO))
  | str j=>obtain⟨t',rfl⟩:=ry;exact PySem.EqMixed.ne_bool_str (bq I q (by simp))
  | _=>exact absurd (show false=true from hs) Bool.false_ne_true
 | int i=>
  obtain⟨t,rfl⟩:=rx
  cases y with
  | non=>cases ry;exact PySem.EqNone.ne_int_none (bq I q (by simp))
  | int j=>obtain⟨t',rfl⟩:=ry;exact ne_int (bq I q (congrArg not wg))
  | str j=>obtain⟨t',rfl⟩:=ry;exact PySem.EqMixed.ne_int_str (bq I q (by simp))
  | _=>exact absurd (show false=true from hs) Bool.false_ne_true
 | str i=>
  obtain⟨t,rfl⟩:=rx
  cases y with
  | non=>cases ry;exact PySem.EqNone.ne_str_none (bq I q (by simp))
  | bl j=>cases ry;exact PySem.EqMixed.ne_str_bool (bq I q (by simp))
  | int j=>obtain⟨t',rfl⟩:=ry;exact PySem.EqMixed.ne_str_int (bq I q (by simp))
  | str j=>obtain⟨t',rfl⟩:=ry;exact ne_str (bq I q (congrArg not wj))
  | _=>exact absurd (show false=true from hs) Bool.false_ne_true
 | jf i=>
  obtain⟨t,rfl⟩:=rx
  cases y with
  | jf j=>obtain⟨t',rfl⟩:=ry;exact PySem.W.ne_bytes (bq I q (congrArg not wk))
  | _=>exact absurd (show false=true from hs) Bool.false_ne_true
 | _=>cases y<;>exact absurd (show false=true from hs) Bool.false_ne_true
theorem sx:cY X (compareOp .Lt) (tN fun i j=>.bl (decide (i<j))):=Bg fun _ _ _ _ _ _ _ q=>lt_int q
theorem kR:cY X (compareOp .Gt) (tN fun i j=>.bl (decide (j<i))):=Bg fun _ _ _ _ _ _ _ q=>gt_int q
theorem IX:cY X (compareOp .GtE) (tN fun i j=>.bl (decide (j≤i))):=Bg fun _ _ _ _ _ _ _ q=>ge_int q
theorem Fh:cY X (compareOp .Is) (fun x y H Q=>y=.non∧Q (.bl (decide (x=.non))) H):=by
 intro pins s σ H x y v u Q I rx ry h
 obtain⟨rfl,q⟩:=h
 cases ry
 refine is_none_gen (bq I q ?_)
 cases x<;>first
  | (cases rx;rfl)
  | (obtain⟨t,rfl⟩:=rx;rfl)
theorem bw (b:Expr) {op:CmpOp} (h:op≠.In:=by decide) (h2:op≠.NotIn:=by decide):behindInMarks op b=false:=by
 have e1:(op == CmpOp.In)=false:=by cases op<;>first | rfl | exact absurd rfl h
 have e2:(op == CmpOp.NotIn)=false:=by cases op<;>first | rfl | exact absurd rfl h2
 cases b<;>simp[behindInMarks,e1,e2]
theorem g5 {op:CmpOp} {r:R2} (ho:cY X (compareOp op) r) (ha:PE X a ta) (hb:PE X b tb) (hm:behindInMarks op b=false):PE X (.Compare a [op] [b] pos) (CB r ta tb):=by
 intro pins s σ H Q I h
 exact wpAny_Compare1 (Be ha hb I h fun v u s2 x y H2 I2 rx ry q=>ho pins s2 σ H2 x y v u Q I2 rx ry q) hm
def IY (t:TE):TT:=fun σ H Q=>t σ H fun x H'=>∃k,x=.bl k∧Q k H'
theorem bA {op:CmpOp} {r:R2} (ho:cY X (compareOp op) r) (ha:PE X a ta) (hb:PE X b tb) (hm:behindInMarks op b=false):PT X (.Compare a [op] [b] pos) (IY (CB r ta tb)):=by
 intro pins s σ H Q I h
 refine wpAny_isTrue_Compare1 (aN (ha pins s σ H _ I h) fun v s1 ⟨x,H1,I1,r1,q1⟩=>aN (hb pins s1 σ H1 _ I1 q1) fun u s2 ⟨y,H2,I2,r2,q2⟩=>
  aN (ho pins s2 σ H2 x y v u _ I2 r1 r2 q2) fun c s3 ⟨z,H3,I3,r3,k,e,q3⟩=>?_) hm
 subst e
 cases r3
 exact wpAny_truthy_bool ⟨H3,I3,q3⟩
def Bi (K:PySem.W.Frag) (x:V) (H:Hp) (k:Bool):Prop:=
 match x with
 | .non=>k=false
 | .bl b=>k=b
 | .int i=>k=(i != 0)
 | .str y=>y.length≤sizeLine∧k=((y.length:Int) != 0)
 | .jf y=>y.size≤sizeLine∧k=((y.size:Int) != 0)
 | .ref p=>(∃xs,bp K H p xs∧k= !xs.isEmpty)∨(∃xs,bo K H p xs∧k= !xs.isEmpty)∨∃kvs,H p=some (.dK kvs)∧k= !kvs.isEmpty
 | _=>False
theorem xt {κ:Type} {kvs:List (κ×V)} {vs:List (κ×Value)} (r:KV kvs vs):(!vs.isEmpty)= !kvs.isEmpty:=by
 cases r<;>rfl
theorem oZ {xs:List V} {its:List Value} (r:Vals xs its):(!its.toArray.isEmpty)= !xs.isEmpty:=by
 cases r<;>simp
theorem kq:(sizeLine:Nat)<2 ^ 63:=by rw[sizeLine_eq];decide
theorem Fi:LO X (fun x H Q=>∃k,Bi X.K x H k∧Q k H):=by
 intro pins s σ H x v Q I rx h
 obtain⟨k,e,q⟩:=h
 have hl:=kq
 have hs:sizeLine=16777216:=sizeLine_eq
 cases x with
 | non=>
  cases rx
  have e':k=false:=e
  subst e'
  exact truthy_none ⟨H,I,q⟩
 | bl b=>
  cases rx
  have e':k=b:=e
  subst e'
  exact wpAny_truthy_bool ⟨H,I,q⟩
 | int i=>
  obtain⟨t,rfl⟩:=rx
  have e':k=(i != 0):=e
  subst e'
  exact PySem.P.truthy_int ⟨H,I,q⟩
 | str y=>
  obtain⟨t,rfl⟩:=rx
  obtain⟨hy,e'⟩:y.length≤sizeLine∧k=((y.length:Int) != 0):=e
  subst e'
  exact PySem.P.truthy_str (by omega) ⟨H,I.tok _,q⟩
 | jf y=>
  obtain⟨t,rfl⟩:=rx
  obtain⟨hy,e'⟩:y.size≤sizeLine∧k=((y.size:Int) != 0):=e
  subst e'
  exact PySem.W.truthy_bytes (by omega) ⟨H,I.tok _,q⟩
 | ref p=>
  cases rx
  have e':(∃xs,bp X.K H p xs∧k= !xs.isEmpty)∨(∃xs,bo X.K H p xs∧k= !xs.isEmpty)∨∃kvs,H p=some (.dK kvs)∧k= !kvs.isEmpty:=e
  rcases e' with⟨xs,hx,e'⟩ | ⟨xs,hx,e'⟩ | ⟨kvs,hx,e'⟩
  ·subst e'
   obtain⟨its,r,pl,hz⟩:=I.list hx
   have hlen:=r.length
   exact wpAny_truthy_list pl.isList (by simp only[List.size_toArray];omega) ⟨H,I.tok _,by rw[oZ r];exact q⟩
  ·subst e'
   obtain⟨its,r,pl,hz⟩:=I.tuple hx
   have hlen:=r.length
   exact truthy_tuple pl (by simp only[List.size_toArray];omega) ⟨H,I.tok _,by rw[oZ r];exact q⟩
  ·subst e'
   obtain⟨hz,hS,vs,r,m⟩:kvs.length≤sizeLine∧(p == sysModules)=false∧∃vs,KV kvs vs∧s.heap.DictOf (a_ X.prog X.w) p vs:=I.hok p _ hx
   have hlen:kvs.length=vs.length:=Paired.length r
   exact wpAny_truthy_dict hS m (by omega) ⟨H,I.tok _,by rw[xt r];exact q⟩
 | _=>exact(show False from e).elim
theorem gw (ha:PE X a ta) (he:∀whole,isTrue a X.env whole=(do let v ←whole;standAt a.pos;holding [v] (truthy v))):
  PT X a (fun σ H Q=>ta σ H fun x H'=>∃k,Bi X.K x H' k∧Q k H'):=by
 intro pins s σ H Q I h
 exact isTrue_plain (aN (ha pins s σ H _ I h) fun v s1 ⟨x,H1,I1,r1,q1⟩=>Fi pins s1 σ H1 x v Q I1 r1 q1) (he _)
theorem xu:cY X (binaryOp .Add) (fun x y H Q=>∃i j,x=.str i∧y=.str j∧i.length+j.length≤sizeLine∧Q (.str (i++j)) H):=by
 intro pins s σ H x y v u Q I rx ry h
 obtain⟨i,j,rfl,rfl,hz,q⟩:=h
 obtain⟨t,rfl⟩:=rx
 obtain⟨t',rfl⟩:=ry
 exact add_str (fun t' tk=>⟨.str (i++j),H,I.tok _,⟨_,rfl⟩,q⟩) hz
theorem vals1 {x:V} {us:List Value} (r:Vals [x] us):∃u,us=[u]∧RelV x u:=by
 cases r with
 | cons r1 r2=>cases r2;exact⟨_,rfl,r1⟩
theorem vals2 {x y:V} {us:List Value} (r:Vals [x,y] us):∃u w',us=[u,w']∧RelV x u∧RelV y w':=by
 cases r with
 | cons r1 r2=>
  cases r2 with
  | cons r3 r4=>cases r4;exact⟨_,_,rfl,r1,r3⟩
theorem Bj:cQ X (.builtin "abs") (fun xs H Q=>∃i,xs=[.int i]∧Q (.int (if i<0 then-i else i)) H):=by
 intro pins s σ H xs us Q I r h
 obtain⟨i,rfl,q⟩:=h
 obtain⟨u,rfl,t,rfl⟩:=vals1 r
 exact call_abs_int fun u tk=>⟨.int (if i<0 then-i else i),H,I.tok _,⟨_,rfl⟩,q⟩
theorem yP (hc:X.calm=true):cQ X (.builtin "max") (fun xs H Q=>∃i j,xs=[.int i,.int j]∧Q (.int (if j>i then j else i)) H):=by
 intro pins s σ H xs us Q I r h
 obtain⟨i,j,rfl,q⟩:=h
 obtain⟨u,w',rfl,⟨t,rfl⟩,⟨t',rfl⟩⟩:=vals2 r
 refine max_two_ints (I.ok.hd hc) fun h' tk k=>⟨_,H,I.kept k,?_,q⟩
 by_cases hj:j>i
 ·rw[if_pos hj,if_pos hj];exact⟨_,rfl⟩
 ·rw[if_neg hj,if_neg hj];exact⟨_,rfl⟩
theorem qL:cQ X (.type "int") (fun xs H Q=>(∃i,xs=[.int i]∧Q (.int i) H)∨∃k,xs=[.bl k]∧Q (.int (if k then 1 else 0)) H):=by
 intro pins s σ H xs us Q I r h
 rcases h with⟨i,rfl,q⟩ | ⟨k,rfl,q⟩
 ·obtain⟨u,rfl,t,rfl⟩:=vals1 r
  exact call_int_int ⟨.int i,H,I,⟨_,rfl⟩,q⟩
 ·obtain⟨u,rfl,r1⟩:=vals1 r
  cases r1
  exact call_int_bool ⟨.int (if k then 1 else 0),H,I.tok _,⟨_,rfl⟩,q⟩
def Fj (K:PySem.W.Frag) (x:V) (H:Hp) (n:Nat):Prop:=
 match x with
 | .str y=>y.length≤sizeLine∧n=y.length
 | .jf y=>y.size≤sizeLine∧n=y.size
 | .ref p=>(∃xs,bp K H p xs∧n=xs.length)∨∃xs,bo K H p xs∧n=xs.length
 | _=>False
theorem Bk:cQ X (.builtin "len") (fun xs H Q=>∃x n,xs=[x]∧Fj X.K x H n∧Q (.int n) H):=by
 intro pins s σ H xs us Q I r h
 obtain⟨x,n,rfl,e,q⟩:=h
 obtain⟨u,rfl,rx⟩:=vals1 r
 have hl:=kq
 have hs:sizeLine=16777216:=sizeLine_eq
 cases x with
 | str y=>
  obtain⟨t,rfl⟩:=rx
  obtain⟨hy,e'⟩:y.length≤sizeLine∧n=y.length:=e
  subst e'
  exact len_str (by omega) ⟨.int _,H,I.tok _,⟨_,rfl⟩,q⟩
 | jf y=>
  obtain⟨t,rfl⟩:=rx
  obtain⟨hy,e'⟩:y.size≤sizeLine∧n=y.size:=e
  subst e'
  exact PySem.W.len_bytes (by omega) ⟨.int _,H,I.tok _,⟨_,rfl⟩,q⟩
 | ref p=>
  cases rx
  have e':(∃xs,bp X.K H p xs∧n=xs.length)∨∃xs,bo X.K H p xs∧n=xs.length:=e
  rcases e' with⟨xs,hx,e'⟩ | ⟨xs,hx,e'⟩
  ·subst e'
   obtain⟨its,r',pl,hz⟩:=I.list hx
   have hlen:=r'.length
   exact Calls.call_len_list pl.isList (by simp only[List.size_toArray];omega) ⟨.int xs.length,H,I.tok _,⟨_,by simp only[List.size_toArray];rw[hlen]⟩,q⟩
  ·subst e'
   obtain⟨its,r',pl,hz⟩:=I.tuple hx
   have hlen:=r'.length
   exact len_tuple pl (by simp only[List.size_toArray];omega) ⟨.int xs.length,H,I.tok _,⟨_,by simp only[List.size_toArray];rw[hlen]⟩,q⟩
 | _=>exact(show False from e).elim
end
structure Bl (h:Heap) (x dx C:Addr) (mA:Str→Option Value):Prop where
 obj:h.get? x=some (PySem.W.instObj C dx)
 ns:h.Ns1 dx mA
 ne:dx≠x
theorem yQ {h:Heap} {dx:Addr} {mA:Str→Option Value} (n:h.Ns1 dx mA):∃od,h.get? dx=some od∧∀name,PySem.W.lookIn name od=some (mA name):=by
 obtain⟨o,es,ep,ho,hd,hk,_,hm⟩:=n
 refine⟨o,ho,fun name=>?_⟩
 have e:=hm name
 unfold nsFind findBy at e
 rw[←Array.find?_toList] at e
 unfold PySem.W.lookIn
 rw[hd]
 dsimp only
 split
 ·rename_i y q
  rw[q] at e
  exact congrArg some e
 ·rename_i q
  rw[q] at e
  have a:es.toList.any (·.refKey)=false:=by
   rw[List.any_eq_false]
   intro y hy
   obtain⟨z,t,hkey⟩:=hk y (Array.mem_toList_iff.mp hy)
   simp[DictEntry.refKey,hkey]
  have a':¬es.toList.any (·.refKey)=true:=by rw[a];exact Bool.false_ne_true
  rw[if_neg a']
  exact congrArg some e
theorem Bl.look {h:Heap} {x dx C:Addr} {mA:Str→Option Value} (I:Bl h x dx C mA):∃od,PySem.W.InstAt h x (PySem.W.instObj C dx) C (some od)∧∀name,PySem.W.lookIn name od=some (mA name):=
 let ⟨od,ho,hl⟩:=yQ I.ns
 ⟨od,⟨I.obj,rfl,rfl,ho⟩,hl⟩
theorem jg.some_of {v:V} {o:Option Value} (r:jg (some v) o):∃u,o=some u∧RelV v u:=by
 cases o with
 | none=>exact(show False from r).elim
 | some u=>exact⟨u,rfl,r⟩
section
variable {P:Program} {w:World} {H H':Hp} {h h':Heap} {a C dx:Addr} {fs fs':List (Str×V)}
theorem DY (hok:dH P w H h) (e:H a=some (.ins C dx fs)):∃mA,Bl h a dx C mA∧(∀f,jg (fs.lookup f) (mA f))∧PySem.Within mA (fs.map (·.1))∧fs.length≤1000∧H dx=some (.own a):=by
 obtain⟨d,z,ne,ob,mA,n,r,q⟩:=(show bK P w H h a (.ins C dx fs) from hok a _ e)
 exact⟨mA,⟨ob,n,ne⟩,r,q,z,d⟩
end
structure Cls (K:PySem.W.Frag) (C:Addr):Prop where
 pg:PySem.W.plainGet K C Str.empty=true
 hd:PySem.W.hasDictIn K C=true
 po:PySem.W.plainOver K C=true
 sa:PySem.W.findIn K (.ref C) "__setattr__"=some (some (.builtin "object.__setattr__"))
theorem Cls.get {K:PySem.W.Frag} {C:Addr} (c:Cls K C) (f:Str):PySem.W.plainGet K C f=true:=c.pg
section
variable {X:Cx} {pins:List (Addr×Obj)} {σ:St} {H:Hp} {s:Shared} {A:Around} {E:Value→Shared→Prop} {Q:Value→Shared→Prop} {c:Value} {b:Bool}
inductive fk (K:PySem.W.Frag) (H:Hp):V→Value→Prop where
 | non:fk K H .non (.type "NoneType")
 | bl (x:Bool):fk K H (.bl x) (.type "bool")
 | int (i:Int):fk K H (.int i) (.type "int")
 | str (x:Str):fk K H (.str x) (.type "str")
 | flt (x:UInt64):fk K H (.flt x) (.type "float")
 | lst {a:Addr} {xs:List V} (e:H a=some (.lst xs)):fk K H (.ref a) (.type "list")
 | bN {a:Addr} {o:Obj} {xs:List V} (e:H a=some (.bN o (.lst xs))):fk K H (.ref a) (.type "list")
 | tup {a:Addr} {xs:List V} (e:H a=some (.tup xs)):fk K H (.ref a) (.type "tuple")
 | dK {a:Addr} {kvs:List (Key×V)} (e:H a=some (.dK kvs)):fk K H (.ref a) (.type "dict")
 | dT {a:Addr} {kvs:List (List Key×V)} (e:H a=some (.dT kvs)):fk K H (.ref a) (.type "dict")
 | ins {a C dx:Addr} {fs:List (Str×V)} (e:H a=some (.ins C dx fs)) (cl:Cls K C) (ha:PySem.W.findIn K (.ref C) "__class__"=some (some (.builtin "object.__class__")))
   (hn:PySem.W.specialIn K (.builtin "object.__class__") "__get__"=some (some (.builtin "getset_descriptor.__get__"))) (htk:PySem.W.takesIn K (.builtin "object.__class__")=some true)
   (hm:PySem.W.mroIn K C (.type "object")=some true):fk K H (.ref a) (.ref C)
theorem yR {x:V} {u t:Value} (I:Inv X pins σ H s) (rx:RelV x u) (ty:fk X.K H x t) (e:PySem.W.kitOne X.K t c=some b) (h:∀tk,Q (.bool b) {s with toks:=tk}):
  wpAny (model X.prog X.w) A (call (.builtin "isinstance") [u,c]) Q E s:=by
 cases ty with
 | non=>cases(show u=Value.none from rx);exact PySem.W.kia_one PySem.W.kitx_none I.iC True.intro e (fun z=>nomatch z) h
 | bl y=>cases(show u=Value.bool y from rx);exact PySem.W.kia_one PySem.W.kitx_bool I.iC True.intro e (fun z=>nomatch z) h
 | int i=>obtain⟨t,q⟩:=(show ∃t,u=Value.int i t from rx);cases q;exact PySem.W.kia_one PySem.W.kitx_int I.iC True.intro e (fun z=>nomatch z) h
 | str y=>obtain⟨t,q⟩:=(show ∃t,u=Value.str y t from rx);cases q;exact PySem.W.kia_one PySem.W.kitx_str I.iC True.intro e (fun z=>nomatch z) h
 | flt y=>obtain⟨t,q⟩:=(show ∃t,u=Value.float y t from rx);cases q;exact PySem.W.kia_one PySem.W.kitx_float I.iC True.intro e (fun z=>nomatch z) h
 | @lst a xs ea=>
  cases(show u=Value.ref a from rx)
  obtain⟨_,_,n,_,h1⟩:=(show bK X.prog X.w H s.heap a (.lst xs) from I.hok a _ ea)
  exact PySem.W.kia_one PySem.W.kitx_list I.iC ⟨_,h1,rfl⟩ e (fun z=>nomatch z) h
 | @bN a ob xs ea=>
  cases(show u=Value.ref a from rx)
  obtain⟨_,_,_,n,_,h1⟩:=(show bK X.prog X.w H s.heap a (.bN ob (.lst xs)) from I.hok a _ ea)
  exact PySem.W.kia_one PySem.W.kitx_list I.iC ⟨_,h1,rfl⟩ e (fun z=>nomatch z) h
 | @tup a xs ea=>
  cases(show u=Value.ref a from rx)
  obtain⟨_,_,_,p⟩:=(show bK X.prog X.w H s.heap a (.tup xs) from I.hok a _ ea)
  obtain⟨o,h1,h2,_⟩:=p
  exact PySem.W.kia_one PySem.W.kitx_tuple I.iC ⟨o,h1,h2⟩ e (fun z=>nomatch z) h
 | @dK a kvs ea=>
  cases(show u=Value.ref a from rx)
  obtain⟨_,_,vs,_,p⟩:=(show bK X.prog X.w H s.heap a (.dK kvs) from I.hok a _ ea)
  obtain⟨o,es,ep,h1,h2,_⟩:=p
  exact PySem.W.kia_one PySem.W.kitx_dict I.iC ⟨o,h1,h2.1⟩ e (fun z=>nomatch z) h
 | @dT a kvs ea=>
  cases(show u=Value.ref a from rx)
  obtain⟨_,_,xs,_,o,es,ep,h1,h2,_⟩:=(show bK X.prog X.w H s.heap a (.dT kvs) from I.hok a _ ea)
  exact PySem.W.kia_one PySem.W.kitx_dict I.iC ⟨o,h1,h2.1⟩ e (fun z=>nomatch z) h
 | @ins a C dx fs ea cl ha hn htk hm=>
  cases(show u=Value.ref a from rx)
  obtain⟨mA,O,_⟩:=DY I.hok ea
  obtain⟨od,J,_⟩:=O.look
  exact PySem.W.kia_one (PySem.W.kitx_own (cl.get _) cl.hd ha hn htk hm) I.iC J e (fun z=>nomatch z) h
end
structure aX (k:Nat) (A:Around):Prop where
 hd:A.handled=none
 dp:A.depth+3*k+5<recursionLimit
 un:A.units+16*k+200<cLine
 gd:A.guards=some []
theorem aX.mono {j k:Nat} {A:Around} (r:aX k A) (h:j≤k):aX j A:=⟨r.hd,by have:=r.dp;omega,by have:=r.un;omega,r.gd⟩
theorem aX.deeper {k:Nat} {A:Around} (r:aX (k+1) A) (env:Env):aX k (A.deeper env):=
 ⟨r.hd,by have:=r.dp;show A.depth+1+3*k+5<_;omega,by have:=r.un;show A.units+3+16*k+200<_;omega,r.gd⟩
theorem aX.depth {k:Nat} {A:Around} (r:aX k A):A.depth<recursionLimit:=by have:=r.dp;omega
theorem aX.units {k:Nat} {A:Around} (r:aX k A):A.units+64<cLine:=by have:=r.un;omega
def Fl:TA:=fun _ H Q=>Q [] H
def CD (ta:TE) (tr:TA):TA:=fun σ H Q=>ta σ H fun x H1=>tr σ H1 fun xs H2=>Q (x::xs) H2
section
variable {X:Cx} {e:Expr} {es:List Expr} {te:TE} {t:TA} {pos:Pos}
theorem ag:PA X [] Fl:=fun _ _ _ _ H Q I h=>Calls.spliced_nil ⟨[],H,I,.nil,h⟩
theorem ae (ha:PE X e te) (hr:PA X es t) (hs:starEach (e::es) X.env=(false,eval e X.env)::starEach es X.env:=by rfl):PA X (e::es) (CD te t):=by
 intro pos pins s σ H Q I h
 rw[hs]
 show wpAny _ _ (spliced ((false,eval e X.env)::backTo pos (starEach es X.env))) _ _ s
 refine Calls.spliced_cons (aN (ha pins s σ H _ I h) fun u s1 ⟨x,H1,I1,r1,q1⟩=>?_)
 exact aN (hr pos pins s1 σ H1 _ I1 q1) fun us s2 ⟨xs,H2,I2,r2,q2⟩=>⟨x::xs,H2,I2,.cons r1 r2,q2⟩
def LQ (t:TA):TE:=fun σ H Q=>t σ H fun xs H1=>xs.length≤sizeLine∧∀p,H1 p=none→Q (.ref p) (upd H1 p (.tup xs))
def LR (t:TA):TE:=fun σ H Q=>t σ H fun xs H1=>xs.length≤sizeLine∧∀p,H1 p=none→Q (.ref p) (upd H1 p (.lst xs))
theorem bX {x1} (h:PA X es t):PE X (.Tuple es x1 pos) (LQ t):=by
 intro pins s σ H Q I hq
 refine wpAny_Tuple_spliced (aN (h pos pins s σ H _ I hq) fun us s1 ⟨xs,H1,I1,r,z,q⟩=>⟨by rw[←r.length];exact z,?_⟩)
 have hf:H1 s1.heap.objs.size=none:=I1.hok.fresh (Nat.le_refl _)
 refine⟨.ref s1.heap.objs.size,upd H1 s1.heap.objs.size (.tup xs),I1.laid (t':=s1.toks) (fun b u e=>Heap.get?_push_of_some _ e) (Nat.le_refl _) ?_,rfl,q _ hf⟩
 exact⟨⟨z,_,Heap.get?_push_size _ rfl,rfl⟩,us,r,⟨_,Heap.get?_push_size _ rfl,rfl,_,rfl⟩⟩
theorem bx (h:PA X es t):PE X (.List es pos) (LR t):=by
 intro pins s σ H Q I hq
 refine wpAny_List_spliced (aN (h pos pins s σ H _ I hq) fun us s1 ⟨xs,H1,I1,r,z,q⟩=>⟨by rw[←r.length];exact z,?_⟩)
 have hf:H1 s1.heap.objs.size=none:=I1.hok.fresh (Nat.le_refl _)
 refine⟨.ref s1.heap.objs.size,upd H1 s1.heap.objs.size (.lst xs),I1.laid (t':=s1.toks) (fun b u e=>Heap.get?_push_of_some _ e) (Nat.le_refl _) ?_,rfl,q _ hf⟩
 exact⟨z,us,0,r,Heap.get?_push_size _ rfl⟩
end
abbrev Sp:=List V→Hp→VK→XK→Prop
abbrev mB:=List Env→Hp→Shared→XK→Value→Shared→Prop
structure xv (P:Program) (w:World) (K:PySem.W.Frag) (mg:Str→Option Value) (base:Heap) (A:Around) (outer:List Env) (s:Shared) (H:Hp):Prop where
 frames:A.frames=some outer
 mod:Mod K mg base
 bs:∀b o,base.get? b=some o→s.heap.get? b=some o∧H b=none
 qG:base.objs.size≤s.heap.objs.size
 jh:s.heap.FunFrames base outer
 vY:∀b∈frs outer,H b=none
 hok:dH P w H s.heap
 bare:AllBare s.gens
def CE (outer:List Env) (P:Program) (w:World) (H:Hp) (s:Shared) (Q:VK) (u:Value) (s':Shared):Prop:=
 ∃v H',s'.os=s.os∧AllBare s'.gens∧Un (frs outer) [] H H' s.heap s'.heap∧dH P w H' s'.heap∧RelV v u∧Q v H'
def CR (CX:mB) (outer:List Env) (P:Program) (w:World) (H:Hp) (s:Shared) (Q:VK) (E:XK) (r:Result) (s':Shared):Prop:=
 match r with
 | .ok (.ret u)=>CE outer P w H s Q u s'
 | .ok _=>False
 | .error e=>CX outer H s E e s'
structure bR (P:Program) (w:World) (K:PySem.W.Frag) (mg:Str→Option Value) (base:Heap) (CX:mB) (k:Nat) (f:Addr) (fd:FuncData) (ps:List Str) (sp:Sp):Prop where
 len:∀vs H Q E,sp vs H Q E→vs.length=ps.length
 run:∀(A:Around) (outer:List Env) (s:Shared) (H:Hp) (args:Args) (us:List Value) (vs:List V) (Q:VK) (E:XK),aX k A→xv P w K mg base A outer s H→BindsTo s fd args (ps.zip us)→Vals vs us→sp vs H Q E→
  codeAny (model P w) A (.call (.ref f) args) (CR CX outer P w H s Q E) s
section
variable {X:Cx} {pins:List (Addr×Obj)} {σ:St} {H:Hp} {s s':Shared}
theorem Inv.env0 (I:Inv X pins σ H s):xv X.prog X.w X.K X.mg X.base X.A X.stack s H:=
 ⟨I.ok.frames,I.ok.mod,I.bs,Nat.le_trans I.ok.qG I.sz,I.stack,I.vZ,I.hok,I.bare⟩
theorem Inv.after {Q:VK} {u:Value} (I:Inv X pins σ H s) (h:CE X.stack X.prog X.w H s Q u s'):EP X pins σ Q u s':=by
 obtain⟨v,H',os,bare,un,hok,r,q⟩:=h
 obtain⟨hh,g,d,t,os'⟩:=s'
 obtain rfl:os'=s.os:=os
 exact⟨v,H',I.call (h':=hh) (g':=g) (d':=d) (t':=t) (ch:=[]) un hok bare (fun b z=>absurd z (by simp)),r,q⟩
end
def IZ (sp:Sp) (qM:List V) (E:XK) (t:TA):TE:=fun σ H Q=>t σ H fun vs H1=>sp (vs++qM) H1 Q E
def Binds (K:PySem.W.Frag) (fd:FuncData) (ps:List Str) (ds:List Value):Prop:=
 ∀(s:Shared) (us:List Value),K.In s.heap→(us++ds).length=ps.length→BindsTo s fd ⟨us,[]⟩ (ps.zip (us++ds))
theorem Binds.all {K:PySem.W.Frag} {fd:FuncData} {ps:List Str} (h:∀us:List Value,us.length=ps.length→bindArgs fd ⟨us,[]⟩=pure (ps.zip us)):Binds K fd ps []:=fun s us _ hl=>by
 rw[List.append_nil] at hl ⊢
 exact .of_eq (h us hl)
def Passes (CX:mB) (X:Cx) (E:XK):Prop:=∀(pins:List (Addr×Obj)) (σ:St) (H:Hp) (s:Shared) (e:Value) (s':Shared),Inv X pins σ H s→CX X.stack H s E e s'→X.xe e s'
section
variable {X:Cx} {CX:mB} {k:Nat} {f C:Addr} {fd:FuncData} {ps:List Str} {sp:Sp} {qM:List V} {ds:List Value} {E:XK} {x m:Str} {p pos apos:Pos} {e o:Expr} {es:List Expr} {ta:TE} {t:TA}
theorem Fm {pins:List (Addr×Obj)} {σ:St} {H:Hp} {s:Shared} {Q:VK} {us:List Value} {vs:List V} (F:bR X.prog X.w X.K X.mg X.base CX k f fd ps sp) (hr:aX k X.A) (hb:Binds X.K fd ps ds) (hd:Vals qM ds) (hx:Passes CX X E)
  (I:Inv X pins σ H s) (r:Vals vs us) (h:sp (vs++qM) H Q E):wpAny (model X.prog X.w) X.A (call (.ref f) us) (EP X pins σ Q) X.xe s:=by
 have r2:Vals (vs++qM) (us++ds):=r.append hd
 have hl:(us++ds).length=ps.length:=by rw[←r2.length];exact F.len _ _ _ _ h
 refine wpAny_call (codeAny_mono (F.run X.A X.stack s H ⟨us,[]⟩ (us++ds) (vs++qM) Q E hr I.env0 (hb s us I.iC hl) r2 h) fun r s' hq=>?_)
 cases r with
 | error e=>exact hx pins σ H s e s' I hq
 | ok fl=>
  cases fl with
  | ret u=>exact I.after hq
  | next=>exact False.elim hq
  | brk=>exact False.elim hq
  | cont=>exact False.elim hq
theorem aG (F:bR X.prog X.w X.K X.mg X.base CX k f fd ps sp) (hr:aX k X.A) (hg:Gl X x) (hm:X.mg x=some (.ref f)) (hk:PySem.W.keepIn X.K (.ref f)=true) (hb:Binds X.K fd ps ds) (hd:Vals qM ds) (hx:Passes CX X E)
  (ha:PA X (e::es) t) (hdb:(x == ("__debug__":Str))=false:=by decide) (he:starEach (e::es) X.env=(false,eval e X.env)::starEach es X.env:=by rfl) (hpl:(backTo pos (starEach es X.env)).any (·.1)=false:=by rfl):
  PE X (.Call (.Name x p) (e::es) [] pos) (IZ sp qM E t):=by
 intro pins s σ H Q I h
 refine wpAny_Call_Name_kw (DX I hg hm ?_ hdb)
 refine PySem.W.callWith_K (h₀:=X.base) I.ok.mod.E1 hk (aN (ha pos pins s σ H _ I h) fun us s1 ⟨vs,H1,I1,r,q⟩=>⟨I1.iC,?_⟩) he hpl
 exact Fm F hr hb hd hx I1 r q
end
def PK (X:Cx) (kws:List Keyword) (t:TA):Prop:=
 ∀(pos:Pos) (pins:List (Addr×Obj)) (s:Shared) (σ:St) (H:Hp) (Q:List V→Hp→Prop),Inv X pins σ H s→t σ H Q→wpAny (model X.prog X.w) X.A (evalAll ((backToKw pos (keywordEach kws X.env)).map (·.2))) (AP X pins σ Q) X.xe s
section
variable {X:Cx} {CX:mB} {k:Nat} {f C:Addr} {fd:FuncData} {ps ks:List Str} {sp:Sp} {E:XK} {x m:Str} {p pos apos kpos:Pos} {e o:Expr} {es:List Expr} {kws:List Keyword} {te ta:TE} {t tk:TA} {nm:Option Str}
theorem yS:PK X [] Fl:=fun _ _ _ _ H Q I h=>wpAny_evalAll_nil ⟨[],H,I,.nil,h⟩
theorem wm (ha:PE X e te) (hr:PK X kws t):PK X (⟨nm,e,kpos⟩::kws) (CD te t):=by
 intro pos pins s σ H Q I h
 show wpAny _ _ (evalAll ((do let v ←eval e X.env;standAt pos;pure v)::(backToKw pos (keywordEach kws X.env)).map (·.2))) _ _ s
 refine wpAny_evalAll_cons (wpAny_bind (aN (ha pins s σ H _ I h) fun u s1 ⟨x,H1,I1,r1,q1⟩=>wpAny_bind (wpAny_standAt (wpAny_pure ?_))))
 exact aN (hr pos pins s1 σ H1 _ I1 q1) fun us s2 ⟨xs,H2,I2,r2,q2⟩=>⟨x::xs,H2,I2,.cons r1 r2,q2⟩
variable {g:List Value→List Value→List Value} {gV:List V→List V→List V}
end
structure aY (N P:List Str) (sc:Scope):Prop where
 kind:sc.kind=.function
 co:sc.isCoroutine=false
 gen:sc.isGenerator=false
 nd:N.Nodup
 pre:N.take P.length=P
 par:∀x∈P,sc.names.lookup x=some .local∨sc.names.lookup x=some .cell
 Fn:∀y∈sc.names,y.2≠.free
theorem qN {kindOf:Str→Option NameKind} {x:Str}:∀{binds:List (Str×Value)} {m:Str→Option Value},(∀v,(x,v) ∉ binds)→bindL kindOf binds m x=m x
 | [],_,_=>rfl
 | (n,v)::r,m,h=>by
  unfold bindL
  rw[qN fun w hw=>h w (List.mem_cons_of_mem _ hw)]
  split
  ·have:x≠n:=by rintro rfl;exact h v List.mem_cons_self
   simp[this]
  ·rfl
theorem qO {kindOf:Str→Option NameKind} {x:Str}:∀{binds:List (Str×Value)} {m:Str→Option Value},(∀v,(x,v) ∉ binds)→bindC kindOf binds m x=m x
 | [],_,_=>rfl
 | (n,v)::r,m,h=>by
  unfold bindC
  rw[qO fun w hw=>h w (List.mem_cons_of_mem _ hw)]
  split
  ·rfl
  ·have:x≠n:=by rintro rfl;exact h v List.mem_cons_self
   simp[this]
theorem qP {kindOf:Str→Option NameKind} {x:Str} {v:Value}:∀{P:List Str} {vs:List Value} {i:Nat} {m:Str→Option Value},P.Nodup→P[i]? =some x→vs[i]? =some v→kindOf x=some .local→
  bindL kindOf (P.zip vs) m x=some v
 | [],_,_,_,_,h,_,_=>by simp at h
 | _::_,[],_,_,_,_,h,_=>by simp at h
 | p::P,w::vs,0,m,nd,h1,h2,hk=>by
  simp at h1 h2;subst h1;subst h2
  show bindL kindOf ((p,w)::P.zip vs) m p=_
  unfold bindL
  rw[qN fun v hv=>(List.nodup_cons.mp nd).1 (List.of_mem_zip hv).1,if_pos hk]
  simp
 | p::P,w::vs,i+1,m,nd,h1,h2,hk=>by
  show bindL kindOf ((p,w)::P.zip vs) m x=_
  unfold bindL
  exact qP (i:=i) (List.nodup_cons.mp nd).2 (by simpa using h1) (by simpa using h2) hk
theorem qQ {kindOf:Str→Option NameKind} {x:Str} {v:Value}:∀{P:List Str} {vs:List Value} {i:Nat} {m:Str→Option Value},P.Nodup→P[i]? =some x→vs[i]? =some v→kindOf x≠some .local→
  bindC kindOf (P.zip vs) m x=some v
 | [],_,_,_,_,h,_,_=>by simp at h
 | _::_,[],_,_,_,_,h,_=>by simp at h
 | p::P,w::vs,0,m,nd,h1,h2,hk=>by
  simp at h1 h2;subst h1;subst h2
  show bindC kindOf ((p,w)::P.zip vs) m p=_
  unfold bindC
  rw[qO fun v hv=>(List.nodup_cons.mp nd).1 (List.of_mem_zip hv).1,if_neg hk]
  simp
 | p::P,w::vs,i+1,m,nd,h1,h2,hk=>by
  show bindC kindOf ((p,w)::P.zip vs) m x=_
  unfold bindC
  exact qQ (i:=i) (List.nodup_cons.mp nd).2 (by simpa using h1) (by simpa using h2) hk
def start (N:List Str) (vs:List V):St:=vs.map some++List.replicate (N.length-vs.length) none
def pZ (CX:mB) (P:Program) (w:World) (K:PySem.W.Frag) (mg:Str→Option Value) (base:Heap) (N:List Str) (qual:Str) (scope:Scope) (f:Addr) (cd:Value) (A:Around) (outer:List Env) (s:Shared) (H:Hp) (E:XK):Cx where
 prog:=P
 w:=w
 K:=K
 mg:=mg
 base:=base
 A:=A.deeper (envOfC qual scope s.heap.objs.size f cd)
 N:=N
 s₀:=s
 H₀:=H
 env:=envOfC qual scope s.heap.objs.size f cd
 outer:=outer
 stack:=envOfC qual scope s.heap.objs.size f cd::outer
 ex:=[]
 calm:=true
 fn:=fun _=>true
 pn:=[]
 xe:=fun e s'=>wpAny (model P w) (A.deeper (envOfC qual scope s.heap.objs.size f cd)) (leaving (envOfC qual scope s.heap.objs.size f cd) e) (fun _ s''=>CX outer H s E e s'') (fun e' s''=>CX outer H s E e' s'') s'
theorem tO {sc:Scope} {n:Nat} {x:Str} (h:sc.names.lookup x=some .cell):∃c,(cellsFrom n sc.names []).lookup x=some c:=by
 have q:=PySem.W.cellsFrom_some sc.names n [] (.inl h)
 exact Option.isSome_iff_exists.mp q
theorem yT {CX:mB} {P:Program} {w:World} {K:PySem.W.Frag} {mg:Str→Option Value} {base:Heap} {N ps:List Str} {qual:Str} {scope:Scope} {f:Addr} {cd:Value} {A:Around} {outer:List Env} {s s1:Shared} {H:Hp} {E:XK} {us:List Value} {vs:List V}
  (S:aY N ps scope) (hd:A.handled=none) (e0:xv P w K mg base A outer s H) (hl:vs.length=ps.length) (r:Vals vs us)
  (x:InCallC s s.heap.objs.size (bindL (envOfC qual scope s.heap.objs.size f cd).kindOf (ps.zip us) fun _=>none) (cellsFrom (s.heap.objs.size+1) scope.names []) (bindC (envOfC qual scope s.heap.objs.size f cd).kindOf (ps.zip us) fun _=>none) s1):
  Inv (pZ CX P w K mg base N qual scope f cd A outer s H E) [] (start N vs) H s1:=by
 have hpl:ps.length≤N.length:=by have:=congrArg List.length S.pre;rw[List.length_take] at this;omega
 obtain⟨h1,tk,rfl,hk⟩:=x.done
 have yU:∀b:Addr,b ∉ (pZ CX P w K mg base N qual scope f cd A outer s H E).ex:=fun b z=>absurd (show b∈([]:List Addr) from z) (by simp)
 refine⟨⟨e0.mod,S.kind,rfl,rfl,Nat.le_refl _,fun y z c h1 h2=>?_,fun y hy=>?_,fun y c _ h=>?_,fun _=>hd,Around.frames_deeper e0.frames,.inr ⟨rfl,rfl⟩,fun b z=>absurd z (yU b),e0.bs,e0.qG,fun b _ _=>yU b,fun b z=>absurd z (yU b),e0.jh,e0.vY⟩,
  rfl,e0.bare,Un.kept hk,⟨_,x.toInCall.ns,fun i y v h1 h2 h3=>?_⟩,fun y c h=>⟨_,x.cell y c h⟩,e0.hok.fresh (Nat.le_refl _),fun y c h=>?_,fun p hp=>absurd (show p∈([]:List (Addr×Obj)) from hp) (by simp),e0.hok.kept hk,?_⟩
 ·exact name_of_addr x.apart (PySem.mem_of_lookup h1) (PySem.mem_of_lookup h2)
 ·have hy:scope.names.lookup y=some .cell∨scope.names.lookup y=some .free:=hy
  rcases hy with hy | hy
  ·exact tO hy
  ·exact absurd rfl (S.Fn _ (PySem.mem_of_lookup hy))
 ·exact Nat.le_of_lt (x.above y c (PySem.mem_of_lookup h))
 ·have hi:i<vs.length:=by
   unfold start at h2
   by_cases hi:i<vs.length
   ·exact hi
   ·rw[List.getElem?_append_right (by simpa using hi)] at h2
    rw[List.getElem?_replicate] at h2
    split at h2<;>cases h2
  have ha:vs[i]? =some v:=by
   unfold start at h2
   rw[List.getElem?_append_left (by simpa using hi),List.getElem?_map] at h2
   cases e:vs[i]? with
   | none=>rw[e] at h2;cases h2
   | some a=>rw[e] at h2;cases h2;rfl
  obtain⟨u,hu,rv⟩:=r.get ha
  have hp:ps[i]? =some y:=by
   rw[←S.pre,List.getElem?_take_of_lt (by omega)];exact h1
  have JP:ps.Nodup:=by rw[←S.pre];exact S.nd.sublist (List.take_sublist _ _)
  refine⟨u,rv,?_⟩
  rcases S.par y (List.mem_of_getElem? hp) with k | k
  ·exact .inl ⟨k,qP JP hp hu k⟩
  ·obtain⟨c,e⟩:=tO (n:=s.heap.objs.size+1) k
   refine .inr ⟨.inl k,c,e,?_⟩
   have q:=x.cell y c e
   rw[qQ JP hp hu (by show scope.names.lookup y≠_;rw[k];decide)] at q
   exact q
 ·exact e0.hok.fresh (Nat.le_of_lt (x.above y c (PySem.mem_of_lookup h)))
 ·unfold start
  show _=N.length
  rw[List.length_append,List.length_map,List.length_replicate]
  omega
theorem I_ {CX:mB} {P:Program} {w:World} {K:PySem.W.Frag} {mg:Str→Option Value} {base:Heap} {k:Nat} {f:Addr} {name qual:Str} {params:Arguments} {body:List Stmt} {scope:Scope} {dV kV doc pm cdv ct oc:Value} {an od:Option Addr}
  {osl:Array (Option Value)} {N ps:List Str} {sp:Sp} (lk:K.lookup f=some ⟨oc,od,.func (PySem.W.fnOf name qual params body scope dV kV doc pm an cdv ct),osl⟩) (hcd:PySem.W.codeIn K cdv qual=true) (S:aY N ps scope)
  (len:∀vs H Q E,sp vs H Q E→vs.length=ps.length)
  (hbody:∀(A:Around) (outer:List Env) (s:Shared) (H:Hp) (vs:List V) (Q:VK) (E:XK),aX k (A.deeper (envOfC qual scope s.heap.objs.size f cdv))→sp vs H Q E→
   ∃t,km (pZ CX P w K mg base N qual scope f cdv A outer s H E) body t∧t {nx:=fun _ H'=>Q .non H',rt:=Q} (start N vs) H):
  bR P w K mg base CX (k+1) f (PySem.W.fnOf name qual params body scope dV kV doc pm an cdv ct) ps sp:=by
 refine⟨len,fun A outer s H args us vs Q E hr e0 hb r hsp=>?_⟩
 have hl:=len _ _ _ _ hsp
 have KX:K.In s.heap:=e0.mod.E1.keeps fun b o e=>(e0.bs b o e).1
 have lim:s.heap.NoLimit:=e0.mod.nolimit.keeps fun b o e=>(e0.bs b o e).1
 have hkind:∀y∈ps.zip us,scope.names.lookup y.1=some .local∨(scope.names.lookup y.1=some .cell∧((cellsFrom (s.heap.objs.size+1) scope.names []).lookup y.1).isSome=true):=fun⟨n,v⟩ hy=>by
  rcases S.par n (List.of_mem_zip hy).1 with q | q
  ·exact .inl q
  ·exact .inr ⟨q,PySem.W.cellsFrom_some _ _ _ (.inl q)⟩
 refine codeAny_call_function hr.depth (KX _ _ lk) rfl S.co S.gen rfl (PySem.W.codeRec_of KX hcd) (hb _ _ _ _ ?_)
 refine wpAny_newFunctionEnv_cells S.kind hkind fun env he s1 x=>?_
 subst he
 refine⟨lim.keeps x.toInCall.keep,codeAny_func ?_⟩
 obtain⟨t,ht,hq⟩:=hbody A outer s H vs Q E (hr.deeper _) hsp
 have I:Inv (pZ CX P w K mg base N qual scope f cdv A outer s H E) [] (start N vs) H s1:=yT S hr.hd e0 hl r x
 refine wpAny_mono (ht [] s1 (start N vs) H _ I hq) (fun fl s' hs=>?_) fun e s' hs=>hs
 have fin:∀{σ':St} {H':Hp} {v:V} {u:Value},Inv (pZ CX P w K mg base N qual scope f cdv A outer s H E) [] σ' H' s'→RelV v u→Q v H'→CE outer P w H s Q u s':=
  fun {σ' H' v u} J rv q=>⟨v,H',J.os,J.bare,J.base,J.hok,rv,q⟩
 cases fl with
 | ret u=>
  obtain⟨v,σ',H',J,rv,q⟩:=hs
  exact fin J rv q
 | next=>
  obtain⟨σ',H',J,q⟩:=hs
  exact fin (v:=V.non) (u:=Value.none) J rfl q
 | brk=>
  obtain⟨_,_,_,q⟩:=hs
  exact False.elim q
 | cont=>
  obtain⟨_,_,_,q⟩:=hs
  exact False.elim q
section
variable {X:Cx} {x:Str} {p pos:Pos} {e:Expr} {es:List Expr} {t:TA} {id T:String} {r:List V→Hp→VK→Prop}
def JQ (r:List V→Hp→VK→Prop) (t:TA):TE:=fun σ H Q=>t σ H fun vs H1=>r vs H1 Q
theorem aL (hc:cQ X (.builtin id) r) (hg:Gl X x) (hm:X.mg x=none) (hv:bootBuiltins x=some (.builtin id)) (ha:PA X (e::es) t) (hn:x≠"__name__":=by decide) (hdb:(x == ("__debug__":Str))=false:=by decide)
  (he:starEach (e::es) X.env=(false,eval e X.env)::starEach es X.env:=by rfl) (hpl:(backTo pos (starEach es X.env)).any (·.1)=false:=by rfl):PE X (.Call (.Name x p) (e::es) [] pos) (JQ r t):=by
 intro pins s σ H Q I h
 refine wpAny_Call_Name_kw (dP I hg hm hv ?_ hn hdb)
 exact PyProof.Rows.callWith_builtin1 (aN (ha pos pins s σ H _ I h) fun us s1 ⟨vs,H1,I1,r1,q1⟩=>hc pins s1 σ H1 vs us Q I1 r1 q1) he hpl
theorem b_ (hc:cQ X (.type T) r) (hg:Gl X x) (hm:X.mg x=none) (hv:bootBuiltins x=some (.type T)) (ha:PA X (e::es) t) (hn:x≠"__name__":=by decide) (hdb:(x == ("__debug__":Str))=false:=by decide)
  (he:starEach (e::es) X.env=(false,eval e X.env)::starEach es X.env:=by rfl) (hpl:(backTo pos (starEach es X.env)).any (·.1)=false:=by rfl):PE X (.Call (.Name x p) (e::es) [] pos) (JQ r t):=by
 intro pins s σ H Q I h
 refine wpAny_Call_Name_kw (dP I hg hm hv ?_ hn hdb)
 exact PyProof.Rows.callWith_type1 (aN (ha pos pins s σ H _ I h) fun us s1 ⟨vs,H1,I1,r1,q1⟩=>hc pins s1 σ H1 vs us Q I1 r1 q1) he hpl
end
end L2
namespace HT
open PySem PyProof.Rows
section
variable {prog:Program} {w:World} {A:Around} {E:Value→Shared→Prop} {s:Shared}
theorem DZ {t b:Addr} {vs ws:List Value} {Q:Value→Shared→Prop} (ht:IsTup s.heap t vs.toArray) (hb:IsTup s.heap b ws.toArray) (hv:vs≠[])
  (h1:ws=[]→Q (.ref t) s) (h2:ws≠[]→Q (.ref s.heap.objs.size) {s with heap:=s.heap.push {cls:=.type "tuple",data:=.seq (vs++ws).toArray}})
  (hsz:vs.length+ws.length≤sizeLine):wpAny (model prog w) A (binaryOp .Add (.ref t) (.ref b)) Q E s:=by
 obtain⟨⟨cls,dd,data,sl⟩,ho,hc,n,hd⟩:=id ht
 obtain⟨⟨cls2,dd2,data2,sl2⟩,ho2,hc2,n2,hd2⟩:=id hb
 simp only at hc hd hc2 hd2
 subst hc hd hc2 hd2
 have e:vs.toArray++ws.toArray=(vs++ws).toArray:=by simp
 by_cases hw:ws=[]
 ·exact concat_meets ⟨_,ho,rfl⟩ ⟨_,ho2,rfl⟩ noFill_tuple_add seq_tuple_add PySem.F.slot_tuple_add PySem.F.entry_tuple_add (PySem.F.args_tuple_add_2 _ _)
   (tuple_addW1 t b vs.toArray ws.toArray n n2 dd dd2 sl sl2 (by simpa using hv) (by simp[hw])) ⟨ho,ho2,h1 hw⟩
 ·refine concat_meets ⟨_,ho,rfl⟩ ⟨_,ho2,rfl⟩ noFill_tuple_add seq_tuple_add PySem.F.slot_tuple_add PySem.F.entry_tuple_add (PySem.F.args_tuple_add_2 _ _)
   (tuple_addW2 t b vs.toArray ws.toArray n n2 dd dd2 sl sl2 (by simpa using hv) (by simpa using hw) (by rw[List.size_toArray,List.size_toArray];exact hsz)) ⟨ho,ho2,?_⟩
  rw[e]
  exact h2 hw
def aU (n d:Nat):Option Int→Nat
 | none=>d
 | some v=>if v<0 then(v+(n:Int)).toNat else min v.toNat n
theorem ow (n d:Nat):aU n d none=d:=rfl
theorem wo (n d k:Nat):aU n d (some (k:Int))=min k n:=by
 show(if(k:Int)<0 then((k:Int)+(n:Int)).toNat else min (k:Int).toNat n)=min k n
 rw[if_neg (by omega),Int.toNat_natCast]
theorem Fo (n d:Nat) (hd:d≤n) (o:Option Int):aU n d o≤n:=by
 cases o with
 | none=>exact hd
 | some v=>
  show(if v<0 then(v+(n:Int)).toNat else min v.toNat n)≤n
  by_cases hv:v<0
  ·rw[if_pos hv];omega
  ·rw[if_neg hv];exact Nat.min_le_right _ _
theorem wq (v:Int) (n d:Nat):(if v<0 then max (v+(n:Int)) 0 else min v (n:Int))=((aU n d (some v):Nat):Int):=by
 show(if v<0 then max (v+(n:Int)) 0 else min v (n:Int))=(((if v<0 then(v+(n:Int)).toNat else min v.toNat n):Nat):Int)
 by_cases hv:v<0
 ·simp only[if_pos hv];omega
 ·simp only[if_neg hv];omega
theorem xx (lo hi:Option Int) (n:Nat):Builtin.Slice.sliceAdjust lo hi 1 (n:Int)=(((aU n 0 lo:Nat):Int),((aU n n hi:Nat):Int)):=by
 have h1:¬((1:Int)<0):=by omega
 unfold Builtin.Slice.sliceAdjust
 simp only[h1,if_false]
 refine Prod.ext ?_ ?_
 ·cases lo with
  | none=>rfl
  | some v=>exact wq v n 0
 ·cases hi with
  | none=>rfl
  | some v=>exact wq v n n
theorem xy (i j:Nat):Builtin.Slice.slicePlaces (i:Int) (j:Int) 1=j-i:=by
 unfold Builtin.Slice.slicePlaces
 have h1:(1:Int)>0:=by omega
 simp only[h1,if_true,Int.ediv_one]
 split<;>omega
theorem o_ {v:Value} {o:Option Int} {Q:Option Int→Shared→Prop} (p:IsPart v o) (h:Q o s):wpAny (model prog w) A (Builtin.Slice.slicePartIndex v) Q E s:=by
 cases p with
 | none=>exact slicePart_none h
 | int i t=>exact slicePart_int h
theorem jk {sl:Addr} {vl vu:Value} {lo hi:Option Int} {n:Nat} {Q:Int×Int×Nat→Shared→Prop} (hs:s.heap.IsSliceOf sl vl vu .none) (pl:IsPart vl lo) (pu:IsPart vu hi)
  (h:Q (((aU n 0 lo:Nat):Int),1,aU n n hi-aU n 0 lo) s):wpAny (model prog w) A (Builtin.Slice.sliceApplied (.ref sl) (pure (n:Int))) Q E s:=by
 obtain⟨os,hos,hcs,hds⟩:=id hs
 unfold Builtin.Slice.sliceApplied Builtin.Slice.sliceFields
 refine wpAny_bind (wpAny_bind (wpAny_field hos hds (x:=vl) rfl (wpAny_bind (wpAny_field hos hds (x:=vu) rfl (wpAny_bind (wpAny_field hos hds (x:=.none) rfl (wpAny_pure ?_)))))))
 refine wpAny_bind (slicePart_none ?_)
 show wpAny _ _ (if((1:Int) == 0)=true then _ else _) _ _ s
 rw[if_neg (by decide)]
 refine wpAny_bind (o_ pl (wpAny_bind (o_ pu (wpAny_bind (wpAny_pure ?_)))))
 show wpAny _ _ (match Builtin.Slice.sliceAdjust lo hi 1 (n:Int) with | (lo,hi)=>pure (lo,(1:Int),Builtin.Slice.slicePlaces lo hi 1)) _ _ s
 rw[xx lo hi n]
 show wpAny _ _ (pure (((aU n 0 lo:Nat):Int),(1:Int),Builtin.Slice.slicePlaces ((aU n 0 lo:Nat):Int) ((aU n n hi:Nat):Int) 1)) _ _ s
 rw[xy]
 exact wpAny_pure h
theorem Bm (xs:Array Value) (i k:Nat):((List.range k).filterMap fun(m:Nat)=>xs[((i:Int)+(m:Int)*1).toNat]?).toArray=((xs.toList.drop i).take k).toArray:=by
 have e:(fun(m:Nat)=>xs[((i:Int)+(m:Int)*1).toNat]?)=fun m=>xs[i+m]? :=by
  funext m
  have:((i:Int)+(m:Int)*1).toNat=i+m:=by omega
  rw[this]
 rw[e]
 have:=pick_run xs i k
 rw[List.filterMap_map] at this
 have e2:((fun x=>xs[x]?)∘fun x=>i+x)=fun m=>xs[i+m]? :=rfl
 rw[e2] at this
 rw[this]
theorem nI {t sl:Addr} {items:Array Value} {vl vu:Value} {lo hi:Option Int} {Q:Value→Shared→Prop} (ht:IsTup s.heap t items) (hs:s.heap.IsSliceOf sl vl vu .none) (pl:IsPart vl lo) (pu:IsPart vu hi)
  (hw:¬(aU items.size 0 lo=0∧aU items.size items.size hi=items.size))
  (h:Q (.ref s.heap.objs.size) {s with heap:=s.heap.push {cls:=.type "tuple",data:=.seq ((items.toList.drop (aU items.size 0 lo)).take (aU items.size items.size hi-aU items.size 0 lo)).toArray}})
  (hsz:items.size≤sizeLine):wpAny (model prog w) A (getItem (.ref t) (.ref sl)) Q E s:=by
 have sy:sizeOk (.seq ((items.toList.drop (aU items.size 0 lo)).take (aU items.size items.size hi-aU items.size 0 lo)).toArray):=by
  show((items.toList.drop (aU items.size 0 lo)).take (aU items.size items.size hi-aU items.size 0 lo)).toArray.size≤sizeLine
  rw[List.size_toArray,List.length_take,List.length_drop,Array.length_toList]
  omega
 have hj:aU items.size items.size hi≤items.size:=Fo _ _ (Nat.le_refl _) hi
 obtain⟨os,hos,hcs,hds⟩:=id hs
 have hTs:s.TypeIs (.ref sl) "slice":=⟨os,hos,hcs⟩
 unfold getItem
 try with_reducible refine wpAny_holding ?_
 first | refine wpAny_bind (wpAny_pure ?_) | skip
 refine wpAny_bind (wpAny_sequenceKey ht.typeIs (by decide) ?_)
 refine wpAny_bind (wpAny_callSpecial?_slot (name:=Str.ofString "__getitem__") ht.typeIs PyProof.Rows.slot_tuple_getitem
  (wpAny_call_entry PyProof.Rows.slot_tuple_getitem ht.typeIs entry_tuple_getitem ?_ (args_tuple_getitem _ _)))
 show wpAny _ _ (Builtin.Tuple.tupleItemsOf (.ref t) >>= _) _ _ s
 refine wpAny_bind (tupleItemsOf_ ht ?_)
 refine wpAny_bind (wpAny_typeOf hTs ?_)
 rw[if_pos (by decide)]
 refine wpAny_bind (jk hs pl pu ?_)
 have hno:¬((((aU items.size 0 lo:Nat):Int) == 0&&(1:Int) == 1&&(aU items.size items.size hi-aU items.size 0 lo) == items.size)=true):=by
  intro q
  rw[Bool.and_eq_true,Bool.and_eq_true] at q
  have q1:((aU items.size 0 lo:Nat):Int)=0:=eq_of_beq q.1.1
  have q2:aU items.size items.size hi-aU items.size 0 lo=items.size:=eq_of_beq q.2
  exact hw ⟨by omega,by omega⟩
 show wpAny _ _ (if(((aU items.size 0 lo:Nat):Int) == 0&&(1:Int) == 1&&(aU items.size items.size hi-aU items.size 0 lo) == items.size)=true then _ else _) _ _ s
 rw[if_neg hno,Bm]
 first
  | exact wpAny_bind (m:=Builtin.Tuple.tupleExact _) (wpAny_newObj_type (wpAny_pure ⟨_,rfl,wpAny_pure h⟩) sy)
  | exact wpAny_bind (m:=Builtin.Tuple.tupleExact _) (wpAny_newObj_type (wpAny_bind (wpAny_pure (wpAny_pure ⟨_,rfl,wpAny_pure h⟩))) sy)
  | exact wpAny_bind (wpAny_bind (m:=Builtin.Tuple.tupleExact _) (wpAny_newObj_type (wpAny_pure (wpAny_pure ⟨_,rfl,wpAny_pure h⟩)) sy))
  | exact wpAny_bind (wpAny_bind (m:=Builtin.Tuple.tupleExact _) (wpAny_newObj_type (wpAny_pure ⟨_,rfl,wpAny_pure h⟩) sy))
end
end HT
namespace L2
open PySem PySem.Spec PyProof.Rows
abbrev TO:=St→Hp→(Option Int→Hp→Prop)→Prop
def PO (X:Cx) (e:Option Expr) (t:TO):Prop:=
 ∀(pins:List (Addr×Obj)) (s:Shared) (σ:St) (H:Hp) (Q:Option Int→Hp→Prop),Inv X pins σ H s→t σ H Q→
  wpAny (model X.prog X.w) X.A (evalPart e X.env) (fun u s'=>∃o H',Inv X pins σ H' s'∧IsPart u o∧Q o H') X.xe s
def D_:TO:=fun _ H Q=>Q none H
def Ja (t:TE):TO:=fun σ H Q=>t σ H fun x H1=>∃i,x=.int i∧Q (some i) H1
theorem intsAre_of {ns:List Int}:∀{us:List Value},Vals (ns.map V.int) us→IntsAre us ns:=by
 induction ns with
 | nil=>intro us r;rw[List.map_nil] at r;cases r;exact .nil
 | cons n ns ih=>
  intro us r
  rw[List.map_cons] at r
  cases r with
  | cons r1 r2=>
   obtain⟨t,e⟩:=r1
   subst e
   exact .cons n t (ih r2)
section
variable {X:Cx} {e:Expr} {te:TE} {lo hi:Option Expr} {tl th:TO} {pos p2:Pos}
theorem dJ:PO X none D_:=by
 intro pins s σ H Q I h
 rw[evalPart_none]
 exact wpAny_pure ⟨none,H,I,.none,h⟩
theorem dM (h:PE X e te):PO X (some e) (Ja te):=by
 intro pins s σ H Q I hw
 rw[evalPart_some]
 refine aN (h pins s σ H _ I hw) fun u s1 ⟨x,H1,I1,r1,q1⟩=>?_
 obtain⟨i,rfl,q⟩:=q1
 obtain⟨t,rfl⟩:=r1
 exact⟨some i,H1,I1,.int i t,q⟩
def wt (X:Cx) (r:V→Option Int→Option Int→Hp→VK→Prop):Prop:=
 ∀(pins:List (Addr×Obj)) (s:Shared) (σ:St) (H:Hp) (x:V) (v vl vu:Value) (lo hi:Option Int) (sl:Addr) (Q:VK),Inv X pins σ H s→RelV x v→s.heap.IsSliceOf sl vl vu .none→IsPart vl lo→IsPart vu hi→r x lo hi H Q→
  ∃T id,typeLookup (.type T) "__getitem__"=pure (some (.builtin id))∧s.TypeIs v T∧wpAny (model X.prog X.w) X.A (getItem v (.ref sl)) (EP X pins σ Q) X.xe s
def Pc (r:V→Option Int→Option Int→Hp→VK→Prop) (te:TE) (tl th:TO):TE:=fun σ H Q=>te σ H fun x H1=>tl σ H1 fun l H2=>th σ H2 fun u H3=>r x l u H3 Q
theorem df {r:V→Option Int→Option Int→Hp→VK→Prop} (hr:wt X r) (he:PE X e te) (hl:PO X lo tl) (hu:PO X hi th):PE X (.Subscript e (.Slice lo hi none p2) pos) (Pc r te tl th):=by
 intro pins s σ H Q I h
 refine Subscript_ (aN (he pins s σ H _ I h) fun v s1 ⟨x,H1,I1,r1,q1⟩=>?_)
 refine wpAny_Slice (aN (hl pins s1 σ H1 _ I1 q1) fun vl s2 ⟨l,H2,I2,pl,q2⟩=>aN (hu pins s2 σ H2 _ I2 q2) fun vu s3 ⟨u,H3,I3,pu,q3⟩=>?_)
 rw[evalPart_none]
 refine wpAny_pure ?_
 have I4:Inv X pins σ H3 {s3 with heap:=s3.heap.push {cls:=.type "slice",data:=.fields #[vl,vu,.none]}}:=I3.kept (t':=s3.toks) fun b ob q=>Heap.get?_push_of_some _ q
 obtain⟨T,id,hT,ht,hg⟩:=hr pins {s3 with heap:=s3.heap.push {cls:=.type "slice",data:=.fields #[vl,vu,.none]}} σ H3 x v vl vu l u s3.heap.objs.size Q I4 r1 (Heap.IsSliceOf.new ..) pl pu q3
 show wpAny (model X.prog X.w) X.A (subscriptTail e (.Slice lo hi none p2) v (.ref s3.heap.objs.size)) (EP X pins σ Q) X.xe {s3 with heap:=s3.heap.push {cls:=.type "slice",data:=.fields #[vl,vu,.none]}}
 exact tail_any (ops:=[.ref s3.heap.objs.size,v]) ht hT hg (by with_unfolding_all rfl)
def eO (xs:List V) (lo hi:Option Int):List V:=(xs.drop (HT.aU xs.length 0 lo)).take (HT.aU xs.length xs.length hi-HT.aU xs.length 0 lo)
theorem nT (xs:List V) (lo hi:Option Int):(eO xs lo hi).length≤xs.length:=by
 unfold eO
 rw[List.length_take,List.length_drop]
 omega
def LS (K:PySem.W.Frag):V→Option Int→Option Int→Hp→VK→Prop:=fun x lo hi H Q=>∃a xs,x=.ref a∧bo K H a xs∧
 ¬(HT.aU xs.length 0 lo=0∧HT.aU xs.length xs.length hi=xs.length)∧∀p,H p=none→Q (.ref p) (upd H p (.tup (eO xs lo hi)))
theorem Fp:wt X (LS X.K):=by
 intro pins s σ H x v vl vu lo hi sl Q I rx hs pl pu h
 obtain⟨a,xs,rfl,hx,hw,q⟩:=h
 cases rx
 obtain⟨its,r,ht,hz⟩:=I.tuple hx
 have hlen:its.toArray.size=xs.length:=by rw[List.size_toArray];exact r.length.symm
 refine⟨"tuple",_,PyProof.Rows.slot_tuple_getitem.lookup,ht.typeIs,?_⟩
 refine HT.nI ht hs pl pu (by rw[hlen];exact hw) ?_ (by rw[hlen];exact hz)
 rw[hlen]
 refine⟨.ref s.heap.objs.size,_,I.laid (t':=s.toks) (o:=.tup (eO xs lo hi)) (fun b ob q=>Heap.get?_push_of_some _ q) (Nat.le_refl _) ?_,rfl,q _ (I.hok.fresh (Nat.le_refl _))⟩
 exact⟨⟨Nat.le_trans (nT xs lo hi) hz,_,Heap.get?_push_size _ rfl,rfl⟩,_,(r.drop (HT.aU xs.length 0 lo)).take (HT.aU xs.length xs.length hi-HT.aU xs.length 0 lo),IsTup.new _ _⟩
def Jb (K:PySem.W.Frag):R2:=fun x y H Q=>∃a b xs ys,x=.ref a∧y=.ref b∧bo K H a xs∧bo K H b ys∧xs≠[]∧xs.length+ys.length≤sizeLine∧
 (ys=[]→Q (.ref a) H)∧(ys≠[]→∀p,H p=none→Q (.ref p) (upd H p (.tup (xs++ys))))
theorem Vals.p_ {xs:List V} {us:List Value} (r:Vals xs us):us=[]↔xs=[]:=by
 cases r with
 | nil=>simp
 | cons _ _=>simp
theorem wu:cY X (binaryOp .Add) (Jb X.K):=by
 intro pins s σ H x y v u Q I rx ry h
 obtain⟨a,b,xs,ys,rfl,rfl,ha,hb,hx,hz,q1,q2⟩:=h
 cases rx
 cases ry
 obtain⟨its,r1,p1,_⟩:=I.tuple ha
 obtain⟨its2,r2,p2,_⟩:=I.tuple hb
 refine HT.DZ p1 p2 (fun z=>hx (r1.p_.mp z)) (fun z=>⟨.ref a,H,I,rfl,q1 (r2.p_.mp z)⟩) (fun z=>?_) (by rw[←r1.length,←r2.length];exact hz)
 refine⟨.ref s.heap.objs.size,_,I.laid (t':=s.toks) (o:=.tup (xs++ys)) (fun b ob q=>Heap.get?_push_of_some _ q) (Nat.le_refl _) ?_,rfl,q2 (fun w=>z (r2.p_.mpr w)) _ (I.hok.fresh (Nat.le_refl _))⟩
 exact⟨⟨by rw[List.length_append];exact hz,_,Heap.get?_push_size _ rfl,rfl⟩,_,r1.append r2,IsTup.new _ _⟩
end
def jL (n:Nat) (i:Int):Option Nat:=if 0≤i then(if i<n then some i.toNat else none) else if-(n:Int)≤i then some (i+n).toNat else none
def iX {α:Type} (xs:List α) (i:Int):Option α:=(jL xs.length i).bind fun j=>xs[j]?
theorem p6 {n:Nat} {i:Int} {j:Nat} (h:jL n i=some j):seqIndex? i n=some j∧j<n∧ -(n:Int)≤i∧i<n:=by
 unfold jL at h
 by_cases h0:0≤i
 ·rw[if_pos h0] at h
  by_cases h1:i<n
  ·rw[if_pos h1] at h
   have e:i.toNat=j:=Option.some.inj h
   exact⟨by rw[seqIndex_of h0 h1,e],by omega,by omega,h1⟩
  ·rw[if_neg h1] at h;cases h
 ·rw[if_neg h0] at h
  by_cases h1: -(n:Int)≤i
  ·rw[if_pos h1] at h
   have e:(i+n).toNat=j:=Option.some.inj h
   exact⟨by rw[seqIndex_neg (by omega) h1,e],by omega,h1,by omega⟩
  ·rw[if_neg h1] at h;cases h
theorem qa {α:Type} {xs:List α} {i:Int} {v:α} (h:iX xs i=some v):∃j,seqIndex? i xs.length=some j∧xs[j]? =some v∧j<xs.length∧ -(xs.length:Int)≤i∧i<xs.length:=by
 unfold iX at h
 cases e:jL xs.length i with
 | none=>rw[e] at h;cases h
 | some j=>
  rw[e] at h
  obtain⟨h1,h2,h3,h4⟩:=p6 e
  exact⟨j,h1,h,h2,h3,h4⟩
theorem aD {α:Type} {xs:List α} {j:Nat} {v:α} (h:xs[j]? =some v):iX xs (j:Int)=some v:=by
 have hj:j<xs.length:=(List.getElem?_eq_some_iff.mp h).1
 have e:jL xs.length (j:Int)=some j:=by
  unfold jL
  rw[if_pos (by omega),if_pos (by omega)];simp
 unfold iX;rw[e];exact h
theorem eU {α:Type} (xs:List α) (v:α):iX (xs++[v]) (-1)=some v:=by
 have hl:(xs++[v]).length=xs.length+1:=by simp
 have e:jL (xs++[v]).length (-1)=some xs.length:=by
  unfold jL
  rw[hl,if_neg (by decide),if_pos (by omega)]
  congr 1
  omega
 unfold iX
 rw[e]
 show(xs++[v])[xs.length]? =some v
 simp
def D0 (b:Expr):Prop:=∀o i,subscripted b false o i=operate [o,i] (getItem o i)
def tP (X:Cx) (r:R2):Prop:=
 ∀(value slice:Expr) (pins:List (Addr×Obj)) (s:Shared) (σ:St) (H:Hp) (x y:V) (v u:Value) (Q:VK),Inv X pins σ H s→RelV x v→RelV y u→r x y H Q→
  subscripted slice false v u=operate [v,u] (getItem v u)→wpAny (model X.prog X.w) X.A (subscriptTail value slice v u) (EP X pins σ Q) X.xe s
def JR (X:Cx) (id:String) (r:V→List V→Hp→VK→Prop):Prop:=
 ∀(pins:List (Addr×Obj)) (s:Shared) (σ:St) (H:Hp) (x:V) (xs:List V) (v:Value) (us:List Value) (Q:VK),Inv X pins σ H s→RelV x v→Vals xs us→r x xs H Q→
  wpAny (model X.prog X.w) X.A (call (.builtin id) (v::us)) (EP X pins σ Q) X.xe s
section
variable {X:Cx} {a b:Expr} {ta tb:TE} {pos:Pos}
theorem aE {r:R2} (hr:tP X r) (ha:PE X a ta) (hb:PE X b tb) (hs:D0 b):PE X (.Subscript a b pos) (CB r ta tb):=by
 intro pins s σ H Q I h
 exact Subscript_ (Be ha hb I h fun v u s2 x y H2 I2 rx ry q=>hr a b pins s2 σ H2 x y v u Q I2 rx ry q (hs _ _))
def Bn (K:PySem.W.Frag):R2:=fun x y H Q=>∃p xs i v,x=.ref p∧y=.int i∧bp K H p xs∧iX xs i=some v∧Q v H
def Bo (K:PySem.W.Frag):R2:=fun x y H Q=>∃p xs i v,x=.ref p∧y=.int i∧bo K H p xs∧iX xs i=some v∧Q v H
def LU:R2:=fun x y H Q=>∃z i c,x=.str z∧y=.int i∧z.length≤sizeLine∧iX z.cps.toList i=some c∧Q (.str ⟨#[c]⟩) H
theorem D1:tP X (Bn X.K):=by
 intro value slice pins s σ H x y v u Q I rx ry h hs
 obtain⟨p,xs,i,z,rfl,rfl,hq,he,q⟩:=h
 cases rx
 obtain⟨t,rfl⟩:=ry
 obtain⟨its,r,pl,hz⟩:=I.list hq
 obtain⟨j,h1,h2,h3,h4,h5⟩:=qa he
 obtain⟨w,ew,mC⟩:=r.get h2
 have hl:=r.length
 have hn:=kq
 have fin:EP X pins σ Q w s:=⟨z,H,I,mC,q⟩
 by_cases h0:0≤i
 ·have hj:i.toNat=j:=by
   rw[seqIndex_of h0 h5] at h1
   exact Option.some.inj h1
  exact item_listR pl.isList h0 (by omega) (by rw[hj];simpa using ew) fin hs
 ·have hj:(i+(its.toArray.size:Int)).toNat=j:=by
   rw[seqIndex_neg (by omega) h4] at h1
   rw[List.size_toArray,←hl]
   exact Option.some.inj h1
  exact subscriptTail_builtinR (x:=w) pl.isList.typeIs slot_list_getitem.lookup
   (wpAny_getItem_list_neg (Q:=fun r s'=>r=w∧EP X pins σ Q r s') pl.isList (by omega) (by rw[List.size_toArray]<;>omega) (by omega) (by rw[hj];simpa using ew) ⟨rfl,fin⟩) hs
theorem Fq:tP X (Bo X.K):=by
 intro value slice pins s σ H x y v u Q I rx ry h hs
 obtain⟨p,xs,i,z,rfl,rfl,hq,he,q⟩:=h
 cases rx
 obtain⟨t,rfl⟩:=ry
 obtain⟨its,r,pl,hz⟩:=I.tuple hq
 obtain⟨j,h1,h2,h3,h4,h5⟩:=qa he
 obtain⟨w,ew,mC⟩:=r.get h2
 have hl:=r.length
 have hn:=kq
 have fin:EP X pins σ Q w s:=⟨z,H,I,mC,q⟩
 exact subscriptTail_builtinR (x:=w) pl.typeIs slot_tuple_getitem.lookup
  (getItem_tuple (j:=j) (Q:=fun r s'=>r=w∧EP X pins σ Q r s') pl (by omega) (by omega) (by rw[List.size_toArray,←hl];exact h1) (by simpa using ew) ⟨rfl,fin⟩) hs
theorem yV:tP X LU:=by
 intro value slice pins s σ H x y v u Q I rx ry h hs
 obtain⟨z,i,c,rfl,rfl,hz,he,q⟩:=h
 obtain⟨t,rfl⟩:=rx
 obtain⟨t',rfl⟩:=ry
 obtain⟨j,h1,h2,h3,h4,h5⟩:=qa he
 have hl:z.cps.toList.length=z.length:=by simp[Str.length]
 rw[hl] at h1 h4 h5
 have hn:=kq
 exact tail_any (typeIs_str s z t) slot_str_getitem.lookup (getItem_str (c:=c) (by
  have e1:decide (i< -(2 ^ 63:Int))=false:=decide_eq_false (by omega)
  have e2:decide (i ≥ 2 ^ 63)=false:=decide_eq_false (by omega)
  rw[e1,e2,Bool.or_false]) (by rw[h1];simpa using h2) ⟨.str ⟨#[c]⟩,H,I.tok _,⟨_,rfl⟩,q⟩) hs
theorem xA (its:List Value) (n j:Nat) (u:Value):Obj.mapSeq (·.setIfInBounds j u) {cls:=.type "list",data:=.seq its.toArray n}={cls:=.type "list",data:=.seq (its.set j u).toArray n}:=by
 simp[Obj.mapSeq]
theorem Inv.lst {pins:List (Addr×Obj)} {σ:St} {H:Hp} {s:Shared} {p:Addr} {xs:List V} (I:Inv X pins σ H s) (h:H p=some (.lst xs)):
  ∃(its:List Value) (n:Nat),Vals xs its∧s.heap.get? p=some {cls:=.type "list",data:=.seq its.toArray n}∧xs.length≤sizeLine:=by
 obtain⟨z,its,n,r,e⟩:=I.hok p _ h
 exact⟨its,n,r,e,z⟩
theorem Inv.Fs {pins:List (Addr×Obj)} {σ:St} {H:Hp} {s:Shared} {p:Addr} {xs ys:List V} {its its':List Value} {n n':Nat} {f:Obj→Obj} (I:Inv X pins σ H s) (h:H p=some (.lst xs))
  (ho:s.heap.get? p=some {cls:=.type "list",data:=.seq its.toArray n}) (hf:f {cls:=.type "list",data:=.seq its.toArray n}={cls:=.type "list",data:=.seq its'.toArray n'}) (r:Vals ys its') (hz:ys.length≤sizeLine) (t:Nat):
  Inv X pins σ (upd H p (.lst ys)) {s with heap:=s.heap.update p f,toks:=t}:=by
 have e:(s.heap.update p f).get? p=some {cls:=.type "list",data:=.seq its'.toArray n'}:=by
  rw[Heap.get?_update_self f ho (by rw[hf]<;>rfl),hf]
 refine I.write (x:=p) (e:=p) (by rw[h];trivial) (.inl rfl) (fun b u hb q=>(Heap.get?_update_other _ _ (Ne.symm hb)).trans q) ⟨_,e⟩ ?_
 exact⟨hz,its',n',r,e⟩
def Jc:V→V→V→Hp→(Hp→Prop)→Prop:=fun o i v H Q=>∃p xs k j,o=.ref p∧i=.int k∧H p=some (.lst xs)∧jL xs.length k=some j∧Q (upd H p (.lst (xs.set j v)))
theorem set_list:E8 X Jc:=by
 intro pins s σ H o i v ov iv u Q I ro ri rv h
 obtain⟨p,xs,k,j,rfl,rfl,hp,hj,q⟩:=h
 cases ro
 obtain⟨t,rfl⟩:=ri
 obtain⟨its,n,r,ho,hz⟩:=I.lst hp
 obtain⟨h1,h2,h3,h4⟩:=p6 hj
 have hl:=r.length
 have hn:=kq
 have I':Inv X pins σ (upd H p (.lst (xs.set j v))) {s with heap:=s.heap.update p (Obj.mapSeq (·.setIfInBounds j u))}:=
  I.Fs hp ho (xA its n j u) (r.set rv j) (by rw[List.length_set];exact hz) s.toks
 by_cases h0:0≤k
 ·have hk:k.toNat=j:=by
   rw[seqIndex_of h0 h4] at h1
   exact Option.some.inj h1
  exact PySem.W.ki_setAt ho h0 (by omega) (by rw[List.size_toArray,←hl];exact h4) (by rw[hk];exact⟨_,I',q⟩)
 ·have hk:(k+(its.toArray.size:Int)).toNat=j:=by
   rw[seqIndex_neg (by omega) h3] at h1
   rw[List.size_toArray,←hl]
   exact Option.some.inj h1
  exact PySem.W.ki_setBack ho (by omega) (by rw[List.size_toArray,←hl];exact h3) (by omega) (by rw[hk];exact⟨_,I',q⟩)
theorem tQ (lo hi:Option Int) (n:Nat):(sliceBounds lo hi none n).1=((HT.aU n 0 lo:Nat):Int)∧(sliceBounds lo hi none n).2.1=((HT.aU n n hi:Nat):Int)∧(sliceBounds lo hi none n).2.2=1:=by
 refine⟨?_,?_,rfl⟩
 ·cases lo with
  | none=>simp[sliceBounds,HT.aU]
  | some i=>
   simp only[sliceBounds,HT.aU,Option.getD_none,show(1:Int)>0 by decide,if_true]
   by_cases h:i<0
   ·simp only[h,if_true]<;>omega
   ·simp only[h,if_false]<;>omega
 ·cases hi with
  | none=>simp[sliceBounds,HT.aU]
  | some i=>
   simp only[sliceBounds,HT.aU,Option.getD_none,show(1:Int)>0 by decide,if_true]
   by_cases h:i<0
   ·simp only[h,if_true]<;>omega
   ·simp only[h,if_false]<;>omega
theorem rR (its:List Value) (lo hi:Option Int):slicePick its.toArray lo hi none=((its.drop (HT.aU its.length 0 lo)).take (HT.aU its.length its.length hi-HT.aU its.length 0 lo)).toArray:=by
 obtain⟨h1,h2,h3⟩:=tQ lo hi its.toArray.size
 unfold slicePick
 rw[h1,h2,h3]
 simp only[sliceRange_one,pick_run,List.size_toArray]<;>rfl
def Ft (K:PySem.W.Frag):V→Option Int→Option Int→Hp→VK→Prop:=fun x lo hi H Q=>∃a xs,x=.ref a∧bp K H a xs∧∀p,H p=none→Q (.ref p) (upd H p (.lst (eO xs lo hi)))
theorem D2:wt X (Ft X.K):=by
 intro pins s σ H x v vl vu lo hi sl Q I rx hs pl pu h
 obtain⟨a,xs,rfl,hx,q⟩:=h
 cases rx
 obtain⟨its,r,ht,hz⟩:=I.list hx
 have hlen:=r.length
 refine⟨"list",_,slot_list_getitem.lookup,ht.isList.typeIs,?_⟩
 refine wpAny_getItem_list_slice ht.isList hs pl pu .none (by simp) ?_ (by rw[List.size_toArray]<;>omega)
 rw[rR,←hlen]
 refine⟨.ref s.heap.objs.size,_,I.laid (t':=s.toks) (o:=.lst (eO xs lo hi)) (fun b ob q=>Heap.get?_push_of_some _ q) (Nat.le_refl _) ?_,rfl,q _ (I.hok.fresh (Nat.le_refl _))⟩
 exact⟨Nat.le_trans (nT xs lo hi) hz,_,0,(r.drop (HT.aU xs.length 0 lo)).take (HT.aU xs.length xs.length hi-HT.aU xs.length 0 lo),Heap.get?_push_size _ rfl⟩
def gJ:V→Bool
 | .non=>true
 | .bl _=>true
 | .int _=>true
 | .str _=>true
 | _=>false
def ku:V→V→Bool
 | .non,.non=>true
 | .bl a,.bl b=>a == b
 | .bl a,.int b=>(if a then 1 else 0) == b
 | .int a,.bl b=>a == (if b then 1 else 0)
 | .int a,.int b=>a == b
 | .str a,.str b=>a == b
 | _,_=>false
theorem yW {A:Around} {s:Shared} {y x:V} {u v:Value} (ry:RelV y u) (rx:RelV x v) (fy:gJ y=true) (fx:gJ x=true):SeqAt.EqAt A s u v (ku y x):=by
 cases y with
 | non=>
  cases ry
  cases x with
  | non=>cases rx;exact SeqAt.EqAt.same _
  | bl b=>cases rx;exact SeqAt.EqAt.none_bool b
  | int b=>obtain⟨t,rfl⟩:=rx;exact SeqAt.EqAt.none_int b t
  | str b=>obtain⟨t,rfl⟩:=rx;exact SeqAt.EqAt.none_str b t
  | _=>exact absurd (show false=true from fx) Bool.false_ne_true
 | bl a=>
  cases ry
  cases x with
  | non=>cases rx;exact SeqAt.EqAt.bool_none a
  | bl b=>cases rx;exact SeqAt.EqAt.bool_bool a b
  | int b=>obtain⟨t,rfl⟩:=rx;exact SeqAt.EqAt.bool_int a b t
  | str b=>obtain⟨t,rfl⟩:=rx;exact SeqAt.EqAt.bool_str a b t
  | _=>exact absurd (show false=true from fx) Bool.false_ne_true
 | int a=>
  obtain⟨t',rfl⟩:=ry
  cases x with
  | non=>cases rx;exact SeqAt.EqAt.int_none a t'
  | bl b=>cases rx;exact SeqAt.EqAt.int_bool a t' b
  | int b=>obtain⟨t,rfl⟩:=rx;exact SeqAt.EqAt.int_int a t' b t
  | str b=>obtain⟨t,rfl⟩:=rx;exact SeqAt.EqAt.int_str a t' b t
  | _=>exact absurd (show false=true from fx) Bool.false_ne_true
 | str a=>
  obtain⟨t',rfl⟩:=ry
  cases x with
  | non=>cases rx;exact SeqAt.EqAt.str_none a t'
  | bl b=>cases rx;exact SeqAt.EqAt.str_bool a t' b
  | int b=>obtain⟨t,rfl⟩:=rx;exact SeqAt.EqAt.str_int a t' b t
  | str b=>obtain⟨t,rfl⟩:=rx;exact SeqAt.EqAt.str_str a t' b t
  | _=>exact absurd (show false=true from fx) Bool.false_ne_true
 | _=>exact absurd (show false=true from fy) Bool.false_ne_true
def o1 (x:V) (u:Value):Bool:=match u with
 | .none=>ku .non x
 | .bool b=>ku (.bl b) x
 | .int i _=>ku (.int i) x
 | .str z _=>ku (.str z) x
 | _=>false
theorem yX {x y:V} {u:Value} (r:RelV y u) (f:gJ y=true):o1 x u=ku y x:=by
 cases y with
 | non=>cases r;rfl
 | bl b=>cases r;rfl
 | int i=>obtain⟨t,rfl⟩:=r;rfl
 | str z=>obtain⟨t,rfl⟩:=r;rfl
 | _=>exact absurd (show false=true from f) Bool.false_ne_true
theorem qb {x:V}:∀{xs:List V} {us:List Value},Vals xs us→xs.all gJ=true→us.any (o1 x)=xs.any fun y=>ku y x
 | _,_,.nil,_=>rfl
 | y::xs,u::us,.cons r t,f=>by
  rw[List.all_cons,Bool.and_eq_true] at f
  rw[List.any_cons,List.any_cons,yX r f.1,qb t f.2]
theorem ox {A:Around} {s:Shared} {x:V} {v:Value} (rx:RelV x v) (fx:gJ x=true):∀{xs:List V} {us:List Value},Vals xs us→xs.all gJ=true→∀u∈us,SeqAt.EqAt A s u v (o1 x u)
 | _,_,.nil,_=>fun u hu=>by cases hu
 | y::xs,u::us,.cons r t,f=>fun u' hu=>by
  rw[List.all_cons,Bool.and_eq_true] at f
  rcases List.mem_cons.mp hu with rfl | hu
  ·rw[yX r f.1];exact yW r rx f.1 fx
  ·exact ox rx fx t f.2 u' hu
def inV (x:V) (xs:List V):Bool:=xs.any fun y=>ku y x
def JS (K:PySem.W.Frag) (neg:Bool):R2:=fun x y H Q=>∃p xs,y=.ref p∧(bp K H p xs∨bo K H p xs)∧gJ x=true∧xs.all gJ=true∧Q (.bl (if neg then !inV x xs else inV x xs)) H
theorem yY:cY X (compareOp .In) (JS X.K false):=by
 intro pins s σ H x y v u Q I rx ry h
 obtain⟨p,xs,rfl,hq,fx,fs,q⟩:=h
 cases ry
 rcases hq with hq | hq
 ·obtain⟨its,r,pl,hz⟩:=I.list hq
  refine SeqAt.in_listAt (o1 x) pl.isList (fun w hw=>ox rx fx r fs w (by simpa using hw)) ⟨.bl _,H,I,rfl,?_⟩
  rw[show its.toArray.any (o1 x)=its.any (o1 x) by simp,qb r fs]
  exact q
 ·obtain⟨its,r,pl,hz⟩:=I.tuple hq
  refine SeqAt.in_tupleAt (o1 x) pl (fun w hw=>ox rx fx r fs w (by simpa using hw)) ⟨.bl _,H,I,rfl,?_⟩
  rw[show its.toArray.any (o1 x)=its.any (o1 x) by simp,qb r fs]
  exact q
theorem tR:cQ X (.type "list") (fun xs H Q=>∃p ys,xs=[.ref p]∧(bp X.K H p ys∨bo X.K H p ys)∧∀l,H l=none→Q (.ref l) (upd H l (.lst ys))):=by
 intro pins s σ H xs us Q I r h
 obtain⟨p,ys,rfl,hq,q⟩:=h
 obtain⟨u,rfl,rx⟩:=vals1 r
 cases rx
 have fin:∀(its:List Value),Vals ys its→ys.length≤sizeLine→∀(h':Heap) (c':Nat),(∀b o',s.heap.get? b=some o'→h'.get? b=some o')→
   h'.get? s.heap.objs.size=some {cls:=.type "list",dict:=none,data:=.seq its.toArray c',slots:= #[]}→EP X pins σ Q (.ref s.heap.objs.size) {s with heap:=h'}:=fun its r' hz h' c' kp e=>
  ⟨.ref s.heap.objs.size,_,I.laid (t':=s.toks) kp (Nat.le_refl _) (show bK X.prog X.w _ h' _ (.lst ys) from⟨hz,its,c',r',e⟩),rfl,q _ (I.hok.fresh (Nat.le_refl _))⟩
 rcases hq with hq | hq
 ·obtain⟨its,r',pl,hz⟩:=I.list hq
  have hlen:=r'.length
  obtain⟨o,ho,hc,n,hd⟩:=pl.isList
  exact call_list_seq p (.inl rfl) ho hc hd (fun h' c' kp e=>fin its r' hz h' c' kp e) (by simp only[List.size_toArray]<;>omega)
 ·obtain⟨its,r',pl,hz⟩:=I.tuple hq
  have hlen:=r'.length
  obtain⟨o,ho,hc,n,hd⟩:=pl
  exact call_list_seq p (.inr rfl) ho hc hd (fun h' c' kp e=>fin its r' hz h' c' kp e) (by simp only[List.size_toArray]<;>omega)
theorem rS:cQ X (.type "tuple") (fun xs H Q=>∃p ys,xs=[.ref p]∧((bp X.K H p ys∧∀l,H l=none→Q (.ref l) (upd H l (.tup ys)))∨(bo X.K H p ys∧Q (.ref p) H))):=by
 intro pins s σ H xs us Q I r h
 obtain⟨p,ys,rfl,h⟩:=h
 obtain⟨u,rfl,rx⟩:=vals1 r
 cases rx
 rcases h with⟨hq,q⟩ | ⟨hq,q⟩
 ·obtain⟨its,r',pl,hz⟩:=I.list hq
  have hlen:=r'.length
  refine call_tuple_list pl.isList (fun h' kp=>?_) (by simp only[List.size_toArray]<;>omega)
  have I1:Inv X pins σ H {s with heap:=h'}:=I.kept (t':=s.toks) kp
  have I2:Inv X pins σ (upd H h'.objs.size (.tup ys)) {s with heap:=h'.push {cls:=.type "tuple",data:=.seq its.toArray}}:=
   I1.laid (t':=s.toks) (fun b o e=>Heap.get?_push_of_some _ e) (Nat.le_refl _) (show bK X.prog X.w _ _ _ (.tup ys) from⟨⟨hz,_,Heap.get?_push_size _ rfl,rfl⟩,its,r',IsTup.new _ _⟩)
  exact⟨.ref h'.objs.size,_,I2,rfl,q _ (I1.hok.fresh (Nat.le_refl _))⟩
 ·obtain⟨its,r',pl,hz⟩:=I.tuple hq
  exact call_tuple_same pl ⟨.ref p,H,I,rfl,q⟩
def Fu (K:PySem.W.Frag) (T:String) (x:V) (H:Hp):Prop:=match x with
 | .str _=>T="str"
 | .int _=>T="int"
 | .ref p=>(T="list"∧∃xs,bp K H p xs)∨(T="tuple"∧∃o,K.lookup p=some o∧o.cls=.type "tuple"∧o.dict=none)∨
   (T="dict"∧((∃kvs,H p=some (.dK kvs))∨∃kvs,H p=some (.dT kvs)))∨(T="set"∧∃S n,H p=some (.set S n))
 | _=>False
theorem yZ {pins:List (Addr×Obj)} {σ:St} {H:Hp} {s:Shared} {T:String} {x:V} {v:Value} (I:Inv X pins σ H s) (r:RelV x v) (ty:Fu X.K T x H):
  s.TypeIs v T∧∀a,v=.ref a→∃ob,s.heap.get? a=some ob∧ob.dict=none:=by
 cases x with
 | str z=>
  obtain⟨t,rfl⟩:=r
  cases(show T="str" from ty)
  exact⟨typeIs_str s z t,fun _ e=>nomatch e⟩
 | int i=>
  obtain⟨t,rfl⟩:=r
  cases(show T="int" from ty)
  exact⟨typeIs_int s i t,fun _ e=>nomatch e⟩
 | ref p=>
  cases r
  rcases ty with⟨rfl,xs,hq⟩ | ⟨rfl,o,hk,hc,hd⟩ | ⟨rfl,hk⟩ | ⟨rfl,S,n,hk⟩
  ·obtain⟨its,_,pl,_⟩:=I.list hq
   refine⟨pl.isList.typeIs,fun a e=>?_⟩
   cases e
   obtain⟨o,n,e,c,hd,_⟩:=pl
   exact⟨o,e,hd⟩
  ·refine⟨⟨o,I.iC p o hk,hc⟩,fun a e=>?_⟩
   cases e
   exact⟨o,I.iC _ o hk,hd⟩
  ·have z:∃o,s.heap.get? p=some o∧o.ExactDict:=by
    rcases hk with⟨kvs,hk⟩ | ⟨kvs,hk⟩
    ·obtain⟨_,_,_,_,o,_,_,e,ex,_⟩:=I.hok p _ hk
     exact⟨o,e,ex⟩
    ·obtain⟨_,_,_,_,o,_,_,e,ex,_⟩:=I.hok p _ hk
     exact⟨o,e,ex⟩
   obtain⟨o,e,ex⟩:=z
   refine⟨⟨o,e,ex.1⟩,fun a e2=>?_⟩
   cases e2
   exact⟨o,e,ex.2.1⟩
  ·obtain⟨o,_,_,_,e,ex,_⟩:=I.hok p _ hk
   refine⟨⟨o,e,ex.1⟩,fun a e2=>?_⟩
   cases e2
   exact⟨o,e,ex.2.1⟩
 | _=>exact False.elim ty
def LV (K:PySem.W.Frag) (T:String) (r:V→List V→Hp→VK→Prop) (to:TE):TE:=fun σ H Q=>to σ H fun x H1=>Fu K T x H1∧r x [] H1 Q
def Pd (K:PySem.W.Frag) (T:String) (r:V→List V→Hp→VK→Prop) (to:TE) (t:TA):TE:=fun σ H Q=>to σ H fun x H1=>Fu K T x H1∧t σ H1 fun xs H2=>r x xs H2 Q
variable {o e:Expr} {es:List Expr} {to:TE} {t:TA} {name:Str} {apos cpos:Pos} {T id:String} {r:V→List V→Hp→VK→Prop}
theorem Fv (pa:PlainAttrs T) (slot:Slot T name id) (hty:typeOf (.builtin id)=pure (.type "method_descriptor")) (hm:JR X id r) (ho:PE X o to)
  (hbase:attributeBase o name X.env (eval o X.env)=eval o X.env:=by rfl) (hline:(apos.endLine == cpos.line)=true:=by rfl):PE X (.Call (.Attribute o name apos) [] [] cpos) (LV X.K T r to):=by
 intro pins s σ H Q I h
 refine wpAny_Call_method0_late hbase hline (aN (ho pins s σ H _ I h) fun v s1 ⟨x,H1,I1,r1,ty,q1⟩=>?_)
 obtain⟨h1,h2⟩:=yZ I1 r1 ty
 exact⟨T,id,pa,slot,hty,h1,h2,Calls.callWith_builtin rfl (PySem.evalArgs_none (hm pins s1 σ H1 x [] v [] Q I1 r1 .nil q1))⟩
theorem cE (pa:PlainAttrs T) (slot:Slot T name id) (hty:typeOf (.builtin id)=pure (.type "method_descriptor")) (hm:JR X id r) (ho:PE X o to) (ha:PA X (e::es) t)
  (hbase:attributeBase o name X.env (eval o X.env)=eval o X.env:=by rfl)
  (hfew:((backTo cpos (starEach (e::es) X.env)).all (fun x=> !x.1)&&(backToKw cpos (keywordEach [] X.env)).all (fun x=>x.1.isSome)
   &&decide ((e::es).length+([]:List Keyword).length+(if([]:List Keyword).isEmpty then 0 else 1)<30))=true:=by rfl)
  (hline:(apos.endLine == cpos.line)=true:=by rfl) (hs:starEach (e::es) X.env=(false,eval e X.env)::starEach es X.env:=by rfl) (hplain:(backTo cpos (starEach es X.env)).any (·.1)=false:=by rfl):
  PE X (.Call (.Attribute o name apos) (e::es) [] cpos) (Pd X.K T r to t):=by
 intro pins s σ H Q I h
 refine wpAny_Call_method_late hbase hfew hline rfl (aN (ho pins s σ H _ I h) fun v s1 ⟨x,H1,I1,r1,ty,q1⟩=>?_)
 obtain⟨h1,h2⟩:=yZ I1 r1 ty
 refine⟨T,id,pa,slot,hty,h1,h2,?_⟩
 have hA:=ha cpos pins s1 σ H1 _ I1 q1
 rw[hs] at hA ⊢
 refine Calls.callWith_builtin (by show(false||(backTo cpos (starEach es X.env)).any (·.1))=false;rw[hplain]<;>rfl) (Calls.evalArgs_plain ?_)
 exact aN hA fun us s2 ⟨vs,H2,I2,r2,q2⟩=>hm pins s2 σ H2 x vs v us Q I2 r1 r2 q2
end
def y_ (X:Cx) (id:String) (r:V→List V→Hp→VK→Prop):Prop:=
 ∀(pins:List (Addr×Obj)) (s:Shared) (σ:St) (H:Hp) (x:V) (xs:List V) (v:Value) (us:List Value) (Q:VK),Inv X pins σ H s→RelV x v→Vals xs us→r x xs H Q→
  wpAny (model X.prog X.w) X.A (call (.builtin id) (v::us)) (EP X pins σ Q) X.xe s
theorem Vals.one:∀{x:V} {us:List Value},Vals [x] us→∃u,us=[u]∧RelV x u
 | _,_,.cons r .nil=>⟨_,rfl,r⟩
theorem Vals.zero:∀{us:List Value},Vals [] us→us=[]
 | _,.nil=>rfl
theorem Vals.dropLast {xs:List V} {us:List Value} (h:Vals xs us):Vals xs.dropLast us.dropLast:=by
 induction h with
 | nil=>exact .nil
 | cons r t ih=>
  cases t with
  | nil=>exact .nil
  | cons q t'=>exact .cons r ih
theorem Vals.eraseIdx:∀{xs:List V} {us:List Value} (i:Nat),Vals xs us→Vals (xs.eraseIdx i) (us.eraseIdx i)
 | _,_,_,.nil=>.nil
 | _,_,0,.cons _ t=>t
 | _,_,i+1,.cons r t=>.cons r (Vals.eraseIdx i t)
theorem Vals.rep {xs:List V} {us:List Value} (h:Vals xs us):∀k:Nat,Vals (List.replicate k xs).flatten (List.replicate k us).flatten
 | 0=>.nil
 | k+1=>by
  rw[List.replicate_succ,List.replicate_succ,List.flatten_cons,List.flatten_cons]
  exact Vals.append h (Vals.rep h k)
theorem xB {α:Type} (l:List α):l.eraseIdx (l.length-1)=l.dropLast:=by
 induction l with
 | nil=>rfl
 | cons a r ih=>
  cases r with
  | nil=>rfl
  | cons b r=>
   have e:(a::b::r).length-1=((b::r).length-1)+1:=by
    have h1:(a::b::r).length=r.length+2:=rfl
    have h2:(b::r).length=r.length+1:=rfl
    omega
   rw[e,List.eraseIdx_cons_succ,ih]
   all_goals rfl
theorem qR {α:Type}:∀(l:List α) (i:Nat),(l.eraseIdx i).length≤l.length
 | [],_=>Nat.le_refl _
 | _::_,0=>Nat.le_succ _
 | _::r,i+1=>Nat.succ_le_succ (qR r i)
theorem foldl_rep (its:List Value):∀(k:Nat) (acc:List Value),
  List.foldl (fun x1 x2=>x1++x2) acc.toArray (List.replicate k its.toArray)=(acc++(List.replicate k its).flatten).toArray
 | 0,acc=>by simp
 | k+1,acc=>by
  have e:acc.toArray++its.toArray=(acc++its).toArray:=by simp
  have e2:(acc++its)++(List.replicate k its).flatten=acc++(List.replicate (k+1) its).flatten:=by
   rw[List.replicate_succ,List.flatten_cons,List.append_assoc]
  rw[←e2,←foldl_rep its k (acc++its),←e,List.replicate_succ,List.foldl_cons]
section
variable {X:Cx} {pins:List (Addr×Obj)} {σ:St} {H:Hp} {s:Shared} {l b:Addr} {xs ys zs:List V}
theorem Inv.xC {its its':List Value} {n:Nat} {f:Array Value→Array Value} {t':Nat} (I:Inv X pins σ H s) (hH:H l=some (.lst xs))
  (e:s.heap.get? l=some {cls:=.type "list",data:=.seq its.toArray n}) (hf:f its.toArray=its'.toArray) (hv:Vals ys its') (hz:ys.length≤sizeLine):
  Inv X pins σ (upd H l (.lst ys)) {s with heap:=s.heap.update l (Obj.mapSeq f),toks:=t'}:=by
 have q:=PySem.IsL.update e f
 rw[hf] at q
 refine I.write (x:=l) (e:=l) (by rw[hH];exact trivial) (.inl rfl) (fun b' u hb hu=>(Heap.get?_update_other s.heap (Obj.mapSeq f) (Ne.symm hb)).trans hu) ⟨_,q⟩ ?_
 exact⟨hz,its',_,hv,q⟩
theorem Inv.Bp {its:List Value} {t':Nat} (I:Inv X pins σ H s) (hv:Vals ys its) (hz:ys.length≤sizeLine):
  Inv X pins σ (upd H s.heap.objs.size (.lst ys)) {s with heap:=s.heap.push {cls:=.type "list",data:=.seq its.toArray},toks:=t'}:=
 I.laid (fun _ _ q=>Heap.get?_push_of_some _ q) (Nat.le_refl _) ⟨hz,its,0,hv,Heap.get?_push_size _ rfl⟩
theorem Inv.fresh (I:Inv X pins σ H s):H s.heap.objs.size=none:=I.hok.fresh (Nat.le_refl _)
theorem Inv.mE (I:Inv X pins σ H s) (hH:H l=some (.lst xs)):xs.length≤sizeLine∧∃(its:List Value) (n:Nat),Vals xs its∧xs.length=its.length∧s.heap.get? l=some {cls:=.type "list",data:=.seq its.toArray n}:=by
 obtain⟨z,its,n,r,e⟩:=I.hok l _ hH
 exact⟨z,its,n,r,r.length,e⟩
theorem tS {n:Nat} (h:n≤sizeLine):Builtin.List.listTooLong n=false:=by
 unfold Builtin.List.listTooLong
 exact decide_eq_false (by omega)
end
section
variable {X:Cx}
def D3:V→List V→Hp→VK→Prop:=fun x vs H Q=>∃l xs y,x=.ref l∧vs=[y]∧H l=some (.lst xs)∧xs.length<sizeLine∧Q .non (upd H l (.lst (xs++[y])))
theorem bz:y_ X "list.append" D3:=by
 intro pins s σ H x vs v us Q I rx rv h
 obtain⟨l,xs,y,rfl,rfl,hH,hz,q⟩:=h
 cases rx
 obtain⟨u,rfl,ru⟩:=rv.one
 obtain⟨z,its,n,r,hl,e⟩:=I.mE hH
 refine call_meets F.slot_list_append ⟨_,e,rfl⟩ F.entry_list_append (F.args_list_append_2 _ _) (PySem.list_append l its.toArray n u (by rw[List.size_toArray];omega)) ⟨e,?_⟩
 refine⟨.non,_,I.xC (its':=its++[u]) hH e (by simp) (r.append (.cons ru .nil)) ?_,rfl,q⟩
 rw[List.length_append,List.length_singleton]
 omega
def D4:V→List V→Hp→VK→Prop:=fun x vs H Q=>∃l b xs zs,x=.ref l∧vs=[.ref b]∧H l=some (.lst xs)∧H b=some (.lst zs)∧xs.length+zs.length≤sizeLine∧Q .non (upd H l (.lst (xs++zs)))
theorem jM:y_ X "list.extend" D4:=by
 intro pins s σ H x vs v us Q I rx rv h
 obtain⟨l,b,xs,zs,rfl,rfl,hH,hB,hz,q⟩:=h
 cases rx
 obtain⟨u,rfl,ru⟩:=rv.one
 cases ru
 obtain⟨z,its,n,r,hl,e⟩:=I.mE hH
 obtain⟨z2,its2,n2,r2,hl2,e2⟩:=I.mE hB
 have hsz:its.toArray.size+its2.toArray.size≤sizeLine:=by rw[List.size_toArray,List.size_toArray];omega
 have xD:¬(!its.toArray.isEmpty&&Builtin.List.listTooLong (its.toArray.size+its2.toArray.size))=true:=by
  rw[tS hsz,Bool.and_false]
  exact Bool.false_ne_true
 refine call_meets F.slot_list_extend ⟨_,e,rfl⟩ F.entry_list_extend (F.args_list_extend_2 _ _)
  (AutoSeq1.list_extend_list_list_0 l its.toArray n b its2.toArray n2 xD (by rw[List.size_toArray];omega) (by omega)) ⟨e,e2,?_⟩
 refine⟨.non,_,I.xC (its':=its++its2) hH e (by simp) (r.append r2) ?_,rfl,q⟩
 rw[List.length_append]
 omega
def LW:V→List V→Hp→VK→Prop:=fun x vs H Q=>∃l xs y,x=.ref l∧vs=[]∧H l=some (.lst xs)∧xs[xs.length-1]? =some y∧Q y (upd H l (.lst xs.dropLast))
theorem Fx:y_ X "list.pop" LW:=by
 intro pins s σ H x vs v us Q I rx rv h
 obtain⟨l,xs,y,rfl,rfl,hH,hy,q⟩:=h
 cases rx
 have hus:=rv.zero
 subst hus
 obtain⟨z,its,n,r,hl,e⟩:=I.mE hH
 obtain⟨u,hu,ru⟩:=r.get hy
 have hy':its.toArray[its.toArray.size-1]? =some u:=by
  show its.toArray[its.length-1]? =some u
  rw[←Array.getElem?_toList,←hl]
  exact hu
 refine call_meets F.slot_list_pop ⟨_,e,rfl⟩ F.entry_list_pop (F.args_list_pop_1 _) (MeetsSeq.list_pop_last l its.toArray n u hy' (by rw[List.size_toArray];omega)) ⟨e,?_⟩
 refine⟨y,_,I.xC (its':=its.dropLast) hH e ?_ r.dropLast ?_,ru,q⟩
 ·show its.toArray.eraseIdxIfInBounds (its.toArray.size-1)=its.dropLast.toArray
  rw[List.size_toArray,List.eraseIdxIfInBounds_toArray,xB]
 ·rw[List.length_dropLast]
  omega
def Fy:V→List V→Hp→VK→Prop:=fun x vs H Q=>∃l xs i k y,x=.ref l∧vs=[.int i]∧H l=some (.lst xs)∧ -(2 ^ 63)≤i∧i<2 ^ 63∧seqIndex? i xs.length=some k∧xs[k]? =some y∧Q y (upd H l (.lst (xs.eraseIdx k)))
theorem Bq:y_ X "list.pop" Fy:=by
 intro pins s σ H x vs v us Q I rx rv h
 obtain⟨l,xs,i,k,y,rfl,rfl,hH,h1,h2,hk,hy,q⟩:=h
 cases rx
 obtain⟨u,rfl,ru⟩:=rv.one
 obtain⟨t,rfl⟩:=ru
 obtain⟨z,its,n,r,hl,e⟩:=I.mE hH
 obtain⟨w,hw,mC⟩:=r.get hy
 refine call_meets F.slot_list_pop ⟨_,e,rfl⟩ F.entry_list_pop (F.args_list_pop_2 _ _)
  (MeetsSeq.list_pop_at l its.toArray n i t k w (fitsIndex_both h1 h2) (by rw[List.size_toArray,←hl];exact hk) (by rw[←Array.getElem?_toList];exact hw) (by rw[List.size_toArray];omega)) ⟨e,?_⟩
 refine⟨y,_,I.xC (its':=its.eraseIdx k) hH e ?_ (r.eraseIdx k) ?_,mC,q⟩
 ·show its.toArray.eraseIdxIfInBounds k=(its.eraseIdx k).toArray
  rw[List.eraseIdxIfInBounds_toArray]
 ·have:=qR xs k
  omega
def LX:R2:=fun x y H Q=>∃l b xs zs,x=.ref l∧y=.ref b∧H l=some (.lst xs)∧H b=some (.lst zs)∧xs.length+zs.length≤sizeLine∧∀p,H p=none→Q (.ref p) (upd H p (.lst (xs++zs)))
theorem y1:cY X (binaryOp .Add) LX:=by
 intro pins s σ H x y v u Q I rx ry h
 obtain⟨l,b,xs,zs,rfl,rfl,hH,hB,hz,q⟩:=h
 cases rx
 cases ry
 obtain⟨z,its,n,r,hl,e⟩:=I.mE hH
 obtain⟨z2,its2,n2,r2,hl2,e2⟩:=I.mE hB
 refine PySem.P.add_list e e2 ?_ (by rw[List.size_toArray,List.size_toArray];omega)
 have ea:its.toArray++its2.toArray=(its++its2).toArray:=by simp
 rw[ea]
 exact⟨.ref _,_,I.Bp (t':=s.toks) (r.append r2) (by rw[List.length_append];omega),rfl,q _ I.fresh⟩
def LY:R2:=fun x y H Q=>∃l k xs,x=.ref l∧y=.int k∧H l=some (.lst xs)∧ -(2 ^ 63)≤k∧k<2 ^ 63∧xs.length*k.toNat≤sizeLine∧
 ∀p,H p=none→Q (.ref p) (upd H p (.lst (List.replicate k.toNat xs).flatten))
theorem len_rep {α:Type} (xs:List α) (k:Nat):(List.replicate k xs).flatten.length=k*xs.length:=by
 induction k with
 | zero=>simp
 | succ k ih=>rw[List.replicate_succ,List.flatten_cons,List.length_append,ih,Nat.succ_mul,Nat.add_comm]
theorem tT:cY X (binaryOp .Mult) LY:=by
 intro pins s σ H x y v u Q I rx ry h
 obtain⟨l,k,xs,rfl,rfl,hH,h1,h2,hz,q⟩:=h
 cases rx
 obtain⟨t,rfl⟩:=ry
 obtain⟨z,its,n,r,hl,e⟩:=I.mE hH
 have hlen:its.toArray.size*k.toNat≤sizeLine:=by rw[List.size_toArray,←hl];exact hz
 have hcap:¬its.toArray.size*k.toNat>(2 ^ 63-1) / 8:=by
  have:(sizeLine:Nat)≤(2 ^ 63-1) / 8:=by decide
  omega
 have hfit:¬(!Builtin.List.listFitsIndex k)=true:=by
  rw[fitsIndex_both h1 h2]
  exact Bool.false_ne_true
 have xD:¬Builtin.List.listTooLong (its.toArray.size*k.toNat)=true:=by
  rw[tS hlen]
  exact Bool.false_ne_true
 have hnew:List.foldl (fun x1 x2=>x1++x2) #[] (List.replicate (if its.toArray.isEmpty=true then 0 else k.toNat) its.toArray)=(List.replicate k.toNat its).flatten.toArray:=by
  have f0:∀m:Nat,List.foldl (fun x1 x2=>x1++x2) #[] (List.replicate m its.toArray)=(List.replicate m its).flatten.toArray:=fun m=>by
   have:=foldl_rep its m []
   rw[List.nil_append] at this
   exact this
  rw[f0]
  cases its with
  | nil=>simp
  | cons a r'=>rw[if_neg (by simp)]
 refine wpAny_binaryOp_repeat_ref (T:="list") (U:="int") (by decide) ⟨_,e,rfl⟩ (fun s'=>typeIs_int s' k t) noFill_list_mul F.fills_int_mul F.slot_int_rmul repeat_list F.slot_int_index.lookup
  (call_meets F.slot_int_rmul (typeIs_int s k t) F.entry_int_rmul (F.args_int_rmul_2 _ _) (int___rmul___int_list k t l its.toArray n)
   ⟨e,rfl,⟨_,e,rfl⟩,call_meets F.slot_list_mul ⟨_,e,rfl⟩ F.entry_list_mul (F.args_list_mul_2 _ _) (AutoListH.list___mul___list_int_3 l its.toArray n k t hfit hcap xD) ⟨e,?_⟩⟩)
 rw[hnew]
 exact⟨.ref _,_,I.Bp (t':=s.toks) (r.rep k.toNat) (by rw[len_rep,Nat.mul_comm];exact hz),rfl,q _ I.fresh⟩
end
end L2
namespace JT
open PySem PySem.W PySem.Calls PyProof.Rows
theorem o3 {P:Params} {h:Heap}:∀(ns:List Int) (vs:List Value),WellAll P h vs (ns.map WData.int)→IntsAre vs ns:=by
 intro ns
 induction ns with
 | nil=>
  intro vs w
  rw[List.map_nil] at w
  cases w
  exact .nil
 | cons n ns ih=>
  intro vs w
  rw[List.map_cons] at w
  cases w with
  | cons a b=>
   cases a
   exact .cons _ _ (ih _ b)
theorem y2 {l:OpenLaw} {n:Nat} (hn:l.most=some n) {P:Params} {h:Heap} {args:List WData} {vals:List Value}
  (hpre:l.row.toRowW.claim.pre args=true) (hwl:WellAll P h vals args):
  ∃a vs ns,vals=[Value.ref a]∧args=[WData.list (ns.map WData.int)]∧h.get? a=some {cls:=.type "list",data:=.seq vs.toArray}∧IntsAre vs ns∧ns.length≤n:=by
 have hsh:WShape.hasAll [] args [.list .int]=true:=(pre_splitW hpre).1
 have hc:l.pre.holds [] {args:=args}=true:=(pre_splitW hpre).2
 obtain⟨d,r,rfl,h1,h2⟩:=hasAllW_cons hsh
 obtain rfl:=hasAllW_nil h2
 obtain⟨xs,rfl,h3⟩:=hasW_list h1
 obtain⟨ns,rfl⟩:=items_int h3
 have hlen:ns.length≤n:=by
  unfold OpenLaw.pre at hc
  have h4:(WTm.not (.lt (.lit (.int (n:Int))) (.len (.arg 0)))).holds [] {args:=[.list (ns.map .int)]}=true:=by
   have h4:=(holds_andW hc).1
   rw[hn] at h4
   exact h4
  have h5:=condW_of h4 (w_not (w_lt w_lit (w_len_list (w_arg rfl))))
  rw[List.length_map] at h5
  refine Nat.le_of_not_lt fun q=>?_
  have q':(n:Int)<((ns.length:Nat):Int):=by omega
  first
   | (rw[decide_eq_true q'] at h5;exact absurd h5 (by decide))
   | (simp at h5;omega)
 cases hwl with
 | cons w1 w2=>
  cases w2
  cases w1 with
  | list ho hall=>exact⟨_,_,ns,rfl,rfl,ho,o3 ns _ hall,hlen⟩
theorem y3 (l:OpenLaw) (args:List WData):l.row.toRowW.claim.post args (.bool true) args=true:=
 postW_of (r:=l.row.toRowW) (X:=(true == true))
  (show WShape.has [] (.bool true) .bool=true by first | rfl | decide | simp[WShape.has,WShape.arms,WShape.armsAll])
  (show(WTm.eq .res (.lit (.bool true))).value [] {args:=args,res:=some (.bool true),after:=args}=some (.bool (true == true)) from w_eq_bool (w_res rfl) w_lit) rfl
theorem vC {l:OpenLaw} {n:Nat} {q:Program} {loose:List Str} {XP:(Str→Option Value)→Heap→Prop} {YP:World→Heap→Prop} {d:DefRec}
  (hn:l.most=some n) (hdf:d.params.defaults=[])
  (call:∀(w:World) (s₀ s₁:Shared) (mg mb:Str→Option Value) (fa:Addr) (o:Obj) (pm cd doc:Value) (a:Addr) (vs:List Value) (ns:List Int),
   Ground q loose [] XP w s₀ mg mb s₁.heap→YP w s₁.heap→
   s₁.heap.get? fa=some o→o.data=.func (docDef d.name d.params d.body d.scope pm cd doc)→s₁.heap.CodeRec cd d.name→mg d.name=some (.ref fa)→
   s₁.heap.get? a=some {cls:=.type "list",data:=.seq vs.toArray}→IntsAre vs ns→ns.length≤n→s₁.gens= #[]→
   codeAny (model l.prog w) callerA (.call (.ref fa) ⟨[.ref a],[]⟩) (fun r s'=>r=.ok (.ret (.bool true))∧OldK s₁.heap s'.heap∧s'.os=s₁.os∧AllBare s'.gens) s₁):
  WalkO q loose XP YP l.row.toRowW d [] (fun f vs=>PySem.call f vs):=by
 intro w s₀ s₁ mg mb G Y fa o pm cd doc dV kV ho hd hcd hD hmg hg args vals as hpre hlay hrd hwl hlo
 obtain rfl:dV=.none:=Dflts.none hD hdf
 obtain rfl:kV=.none:=Dflts.noKw hD
 obtain⟨a,vs,ns,rfl,rfl,hobj,hints,hlen⟩:=y2 hn hpre hwl
 refine enter_call (codeAny_mono (call w s₀ s₁ mg mb fa o pm cd doc a vs ns G Y ho (fd_plain hd) hcd hmg hobj hints hlen hg) fun r s' hq=>?_)
 obtain⟨rfl,h2,h3,h4⟩:=hq
 exact⟨.inl ⟨.bool true,.bool true,[],rfl,fun _=>rfl,.bool true,y3 l _,fun _=>⟨List.Pairwise.nil,fun _ hm=>(nomatch hm)⟩⟩,h2,h3,h4⟩
end JT
namespace L2
open PySem PySem.Spec PyProof.Rows
theorem mF:∀{vs:List Value} {ns:List Int},IntsAre vs ns→Vals (ns.map V.int) vs
 | _,_,.nil=>.nil
 | _,_,.cons n t h=>.cons ⟨t,rfl⟩ (mF h)
def Only (H:Hp):Prop:=∀b,H b=none∨∃o xs,H b=some (.bN o (.lst xs))
theorem Br {P:Program} {w:World} {K:PySem.W.Frag} {mg mb:Str→Option Value} {CX:mB} {k:Nat} {fa a:Addr} {fd:FuncData} {x:Str} {sp:Sp} {s₁:Shared} {vs:List Value} {ns:List Int}
  (KX:K.In s₁.heap) (hns:s₁.heap.Ns mainGlobals mg) (hb:s₁.heap.Ns builtinsNs mb) (hbb:∀x:Str,x≠"__name__"→mb x=bootBuiltins x) (hlim:s₁.heap.NoLimit) (hg:s₁.gens= #[])
  (ha:s₁.heap.get? a=some {cls:=.type "list",data:=.seq vs.toArray}) (hi:IntsAre vs ns) (hl:ns.length≤sizeLine) (hr:aX k callerA)
  (F:∀base:Heap,K.In base→base.Ns mainGlobals mg→bR P w K mg base CX k fa fd [x] sp) (hbind:∀(s:Shared) (u:Value),BindsTo s fd ⟨[u],[]⟩ [(x,u)])
  (hsp:∀H:Hp,Only H→bp K H a (ns.map V.int)→sp [.ref a] H (fun v _=>v=.bl true) fun _ _ _=>False)
  (Fz:∀H e s',CX [] H s₁ (fun _ _ _=>False) e s'→False):
  codeAny (model P w) callerA (.call (.ref fa) ⟨[.ref a],[]⟩) (fun r s'=>r=.ok (.ret (.bool true))∧OldK s₁.heap s'.heap∧s'.os=s₁.os∧AllBare s'.gens) s₁:=by
 have rv:=mF hi
 have lenV:=hi.length
 have core:∀H:Hp,Only H→bp K H a (ns.map V.int)→dH P w H s₁.heap→(∀b,H b≠none→b=a)→(H a≠none→K.lookup a=none)→
   codeAny (model P w) callerA (.call (.ref fa) ⟨[.ref a],[]⟩) (fun r s'=>r=.ok (.ret (.bool true))∧OldK s₁.heap s'.heap∧s'.os=s₁.os∧AllBare s'.gens) s₁:=by
  intro H hO hS hok hA hK
  have wx:∀{b:Addr} {o:Obj},s₁.heap.get? b=some o→H b=none→(kN s₁.heap H).get? b=some o:=fun e n=>Ba e n
  have yU:∀{b:Addr} {o:Obj} {es:Array DictEntry} {ep:Nat},s₁.heap.get? b=some o→o.data=.dict es ep→H b=none:=fun {b o es ep} e d=>by
   cases q:H b with
   | none=>rfl
   | some u=>
    have e':b=a:=hA b (by rw[q];simp)
    subst e'
    rw[ha] at e;cases e
    have d':Data.seq vs.toArray _=Data.dict es ep:=d
    cases d'
  have CF:∀{b:Addr} {m:Str→Option Value},s₁.heap.Ns b m→(kN s₁.heap H).Ns b m:=fun {b m} ⟨o,es,ep,e,d,r⟩=>⟨o,es,ep,wx e (yU e d),d,r⟩
  have JU:K.In (kN s₁.heap H):=fun b o e=>wx (KX b o e) (by
   cases q:H b with
   | none=>rfl
   | some u=>
    have e':b=a:=hA b (by rw[q];simp)
    subst e'
    rw[hK (by rw[q];simp)] at e;cases e)
  have hM:Mod K mg (kN s₁.heap H):=⟨JU,CF hns,⟨mb,CF hb,hbb⟩,let ⟨mc,h1,h2⟩:=hlim;⟨mc,CF h1,h2⟩⟩
  have e0:xv P w K mg (kN s₁.heap H) callerA [] s₁ H:=⟨rfl,hM,fun b o e=>DW e,Nat.le_of_eq (yH _ _),trivial,fun b hb=>absurd (show b∈([]:List Addr) from hb) (by simp),hok,.of_eq hg⟩
  refine codeAny_mono ((F _ JU (CF hns)).run callerA [] s₁ H ⟨[.ref a],[]⟩ [.ref a] [.ref a] _ _ hr e0 (hbind s₁ (.ref a)) (.cons rfl .nil) (hsp H hO hS)) fun r s' h=>?_
  cases r with
  | error e=>exact(Fz H e s' h).elim
  | ok fl=>
   cases fl with
   | next=>exact False.elim h
   | brk=>exact False.elim h
   | cont=>exact False.elim h
   | ret u=>
    obtain⟨v,H',os,bare,un,hok',r',q⟩:=h
    have q':v=.bl true:=q
    subst q'
    obtain rfl:u=Value.bool true:=r'
    refine⟨rfl,OldK.of_keep fun b o e=>?_,os,bare⟩
    cases q:H b with
    | none=>exact un.keep b o e q (by intro z;exact absurd (show b∈([]:List Addr) from z) (by simp)) (by simp)
    | some u=>
     rcases hO b with z | ⟨ob,xs,z⟩
     ·rw[q] at z;cases z
     ·have z2:=un.kM b ob _ z
      obtain⟨e1,_⟩:=hok b _ z
      obtain⟨e2,_⟩:=hok' b _ z2
      rw[e] at e1;cases e1
      exact e2
 cases hk:K.lookup a with
 | some o=>
  have e:=KX a o hk
  rw[ha] at e
  cases e
  refine core (fun _=>none) (fun _=>.inl rfl) (.inr ⟨_,vs.toArray,_,hk,rfl,rfl,rfl,by rw[List.size_toArray,lenV];exact hl,by simpa using rv⟩) (fun b u z=>by have z':(none:Option HO)=some u:=z;cases z') (fun b z=>absurd rfl z) fun z=>absurd rfl z
 | none=>
  refine core (fun b=>if b=a then some (.bN {cls:=.type "list",data:=.seq vs.toArray} (.lst (ns.map V.int))) else none) (fun b=>?_) (.inl (.inr ⟨{cls:=.type "list",data:=.seq vs.toArray},if_pos rfl⟩)) (fun b u z=>?_) (fun b z=>?_) fun _=>hk
  ·by_cases hb:b=a
   ·exact .inr ⟨_,_,if_pos hb⟩
   ·exact .inl (if_neg hb)
  ·by_cases hb:b=a
   ·have z':=(if_pos hb).symm.trans z
    cases z'
    subst hb
    exact⟨ha,by rw[List.length_map];exact hl,vs,_,rv,ha⟩
   ·have z':=(if_neg hb).symm.trans z
    cases z'
  ·by_cases hb:b=a
   ·exact hb
   ·exact absurd (if_neg hb) z
theorem D5 {l:PySem.W.OpenLaw} {n k:Nat} {q:Program} {loose:List Str} {XP:(Str→Option Value)→Heap→Prop} {YP:World→Heap→Prop} {d:DefRec} {K:Params→PySem.W.Frag} {CX:World→mB} {sp:World→Sp} {x:Str}
  (hn:l.most=some n) (hn2:n≤sizeLine) (hdf:d.params.defaults=[]) (hr:aX k callerA)
  (hY:∀(w:World) (h:Heap),YP w h→(K w.params).In h)
  (F:∀(w:World) (mg:Str→Option Value) (fa:Addr) (h:Heap),(K w.params).In h→h.Ns mainGlobals mg→mg d.name=some (.ref fa)→
   ∃fd:FuncData,(∀(s:Shared) (u:Value),BindsTo s fd ⟨[u],[]⟩ [(x,u)])∧
    ∀base:Heap,(K w.params).In base→base.Ns mainGlobals mg→bR l.prog w (K w.params) mg base (CX w) k fa fd [x] (sp w))
  (hsp:∀(w:World) (H:Hp) (a:Addr) (ns:List Int),ns.length≤n→Only H→bp (K w.params) H a (ns.map V.int)→sp w [.ref a] H (fun v _=>v=.bl true) fun _ _ _=>False)
  (Fz:∀(w:World) (H:Hp) (s:Shared) (e:Value) (s':Shared),CX w [] H s (fun _ _ _=>False) e s'→False):
  PySem.W.WalkO q loose XP YP l.row.toRowW d [] (fun f vs=>PySem.call f vs):=by
 refine JT.vC hn hdf fun w s₀ s₁ mg mb fa o pm cd doc a vs ns G Y ho hd hcd hmg hobj hints hlen hg=>?_
 have KX:=hY w _ Y
 obtain⟨fd,hb,hF⟩:=F w mg fa _ KX G.T.g hmg
 exact Br KX G.T.g G.T.b G.T.builtins G.T.nolimit hg hobj hints (Nat.le_trans hlen hn2) hr hF hb (fun H hO hS=>hsp w H a ns hlen hO hS) fun H e s'=>Fz w H s₁ e s'
def aV (s:Stmt):Arguments:=match s with
 | .FunctionDef _ a _ _ _ _ _ _ _ _=>a
 | _=>{posonlyargs:=[],args:=[],vararg:=none,kwonlyargs:=[],kw_defaults:=[],kwarg:=none,defaults:=[]}
def aT (s:Stmt):List Stmt:=match s with
 | .FunctionDef _ _ b _ _ _ _ _ _ _=>b
 | _=>[]
def aq (s:Stmt):Scope:=match s with
 | .FunctionDef _ _ _ _ _ _ sc _ _ _=>sc
 | _=>{kind:=.function,names:=[],isGenerator:=false,isCoroutine:=false}
abbrev dr:mB:=fun _ _ _ _ _ _=>False
abbrev E0:XK:=fun _ _ _=>False
theorem aO {X:Cx}:Passes dr X E0:=fun _ _ _ _ _ _ _ h=>h.elim
structure dw (K:PySem.W.Frag) (x qual:Str) (st:Stmt) (f:Addr) (fd:FuncData):Prop where
 ex:∃(oc:Value) (od:Option Addr) (kV doc pm:Value) (an:Option Addr) (cdv ct:Value) (osl:Array (Option Value)),
  fd=PySem.W.fnOf x qual (aV st) (aT st) (aq st) .none kV doc pm an cdv ct∧K.lookup f=some ⟨oc,od,.func fd,osl⟩∧PySem.W.codeIn K cdv qual=true
 kp:PySem.W.keepIn K (.ref f)=true
section
variable {P:Program} {w:World} {K:PySem.W.Frag} {mg:Str→Option Value} {base:Heap}
theorem dw.ok {x qual:Str} {st:Stmt} {f:Addr} {fd:FuncData} {N ps:List Str} {k:Nat} {sp:Sp} (F:dw K x qual st f fd) (S:aY N ps (aq st)) (len:∀vs H Q E,sp vs H Q E→vs.length=ps.length)
  (hbody:∀(cdv:Value) (A:Around) (outer:List Env) (s:Shared) (H:Hp) (vs:List V) (Q:VK) (E:XK),aX k (A.deeper (envOfC qual (aq st) s.heap.objs.size f cdv))→sp vs H Q E→
   ∃t,km (pZ dr P w K mg base N qual (aq st) f cdv A outer s H E).Cy (aT st) t∧t {nx:=fun _ H'=>Q .non H',rt:=Q} (start N vs) H):bR P w K mg base dr (k+1) f fd ps sp:=by
 obtain⟨oc,od,kV,doc,pm,an,cdv,ct,osl,rfl,lk,hcd⟩:=F.ex
 refine I_ lk hcd S len fun A outer s H vs Q E hr hsp=>?_
 obtain⟨t,h,q⟩:=hbody cdv A outer s H vs Q E hr hsp
 exact⟨t,h.Cy,q⟩
theorem dw.binds {x qual:Str} {st:Stmt} {f:Addr} {fd:FuncData} {ps:List Str} (F:dw K x qual st f fd)
  (h:∀(kV doc pm:Value) (an:Option Addr) (cdv ct:Value) (us:List Value),us.length=ps.length→bindArgs (PySem.W.fnOf x qual (aV st) (aT st) (aq st) .none kV doc pm an cdv ct) ⟨us,[]⟩=pure (ps.zip us)):Binds K fd ps []:=by
 obtain⟨oc,od,kV,doc,pm,an,cdv,ct,osl,rfl,lk,hcd⟩:=F.ex
 exact .all (h kV doc pm an cdv ct)
theorem bC {x qual:Str} {st:Stmt} {f:Addr} {oc:Value} {od an:Option Addr} {osl:Array (Option Value)} {kV doc pm cdv ct:Value} (l:K.lookup f=some ⟨oc,od,.func (PySem.W.fnOf x qual (aV st) (aT st) (aq st) .none kV doc pm an cdv ct),osl⟩)
  (c:PySem.W.codeIn K cdv qual=true) (k:PySem.W.keepIn K (.ref f)=true):dw K x qual st f (PySem.W.fnOf x qual (aV st) (aT st) (aq st) .none kV doc pm an cdv ct):=⟨⟨oc,od,kV,doc,pm,an,cdv,ct,osl,rfl,l,c⟩,k⟩
end
theorem jN {A:Around} {k:Nat} (hr:aX k A):A.units+1<cLine:=Nat.lt_of_le_of_lt (Nat.add_le_add_left (by decide:1≤64) _) hr.units
section
variable {X:Cx}
theorem pv (i:Nat) {x:Str} {pos:Pos} (hN:X.N[i]? =some x:=by rfl) (hv:yI X.env.scope x:=by first | exact Or.inl rfl | exact Or.inr (Or.inl rfl) | exact Or.inr (Or.inr rfl)) (hd:(x == ("__debug__":Str))=false:=by decide)
  (hcd:(x == ("__classdict__":Str))=false:=by decide):PE X (.Name x pos) (E3 i):=E4 hN hv hd hcd
end
theorem cS {A B:Prop} (h:B):if false=true then A else B:=by
 rw[if_neg Bool.false_ne_true]
 exact h
theorem oy {A B:Prop} (h:A):if true=true then A else B:=by
 rw[if_pos rfl]
 exact h
theorem cG {c A B:Prop} [Decidable c] (h1:c→A) (h2:¬c→B):if c then A else B:=by
 by_cases h:c
 ·rw[if_pos h]
  exact h1 h
 ·rw[if_neg h]
  exact h2 h
def Same (H H':Hp):Prop:=∀b o,H b=some o→H' b=some o
theorem Same.refl (H:Hp):Same H H:=fun _ _ h=>h
theorem Same.trans {H H1 H2:Hp} (a:Same H H1) (b:Same H1 H2):Same H H2:=fun c o h=>b c o (a c o h)
theorem Same.free {H H':Hp} (e:Same H H') {l:Addr} (h:H' l=Option.none):H l=Option.none:=by
 cases q:H l with
 | none=>rfl
 | some o=>
  rw[e l o q] at h
  cases h
theorem Same.seq {K:PySem.W.Frag} {H H':Hp} {a:Addr} {xs:List V} (e:Same H H') (h:bp K H a xs):bp K H' a xs:=by
 rcases h with(h | ⟨o,h⟩) | h
 ·exact .inl (.inl (e _ _ h))
 ·exact .inl (.inr ⟨o,e _ _ h⟩)
 ·exact .inr h
section
variable {κ:Type} [DecidableEq κ]
def bW (kvs:List (κ×V)) (k:κ):Option V:=(kvs.find? fun kv=>decide (kv.1=k)).map (·.2)
def putK (kvs:List (κ×V)) (k:κ) (v:V):List (κ×V):=
 if(kvs.any fun kv=>decide (kv.1=k))=true then kvs.map (fun kv=>if kv.1=k then(kv.1,v) else kv) else kvs++[(k,v)]
theorem dh {p:κ×V} {r:List (κ×V)} {k:κ} (e:p.1=k):bW (p::r) k=some p.2:=by simp[bW,List.find?_cons,e]
theorem dj {p:κ×V} {r:List (κ×V)} {k:κ} (e:¬p.1=k):bW (p::r) k=bW r k:=by simp[bW,List.find?_cons,e]
theorem g6 (k:κ):∀kvs:List (κ×V),(kvs.any fun kv=>decide (kv.1=k))=(bW kvs k).isSome
 | []=>rfl
 | p::r=>by
  rw[List.any_cons]
  by_cases e:p.1=k
  ·simp only[dh e,decide_eq_true e,Bool.true_or,Option.isSome_some]
  ·rw[dj e,decide_eq_false e,Bool.false_or];exact g6 k r
theorem tU (k j:κ) (y:V):∀kvs:List (κ×V),bW (kvs.map fun kv=>if kv.1=k then(kv.1,y) else kv) j=(bW kvs j).map fun x=>if j=k then y else x
 | []=>rfl
 | p::r=>by
  have ih:=tU k j y r
  rw[List.map_cons]
  by_cases h:p.1=k
  ·rw[if_pos h]
   by_cases e:p.1=j
   ·rw[dh (p:=(p.1,y)) e,dh e,Option.map_some,if_pos (e.symm.trans h)]
   ·rw[dj (p:=(p.1,y)) e,dj e,ih]
  ·rw[if_neg h]
   by_cases e:p.1=j
   ·rw[dh (p:=p) e,dh e,Option.map_some,if_neg (fun z=>h (e.trans z))]
   ·rw[dj (p:=p) e,dj e,ih]
theorem qS (k j:κ) (y:V):∀kvs:List (κ×V),bW kvs k=none→bW (kvs++[(k,y)]) j=if j=k then some y else bW kvs j
 | [],_=>by
  by_cases e:k=j
  ·rw[if_pos e.symm];exact dh (p:=(k,y)) e
  ·rw[if_neg (fun z=>e z.symm)];exact dj (p:=(k,y)) e
 | p::r,hn=>by
  rw[List.cons_append]
  have hk:¬p.1=k:=fun z=>by rw[dh z] at hn;cases hn
  rw[dj hk] at hn
  have ih:=qS k j y r hn
  by_cases e:p.1=j
  ·rw[dh e,dh e,if_neg (fun z=>hk (e.trans z))]
  ·rw[dj e,dj e,ih]
theorem tV (kvs:List (κ×V)) (k j:κ) (y:V):bW (putK kvs k y) j=if j=k then some y else bW kvs j:=by
 unfold putK
 by_cases a:(kvs.any fun kv=>decide (kv.1=k))=true
 ·rw[if_pos a,tU]
  rw[g6] at a
  by_cases e:j=k
  ·obtain⟨x,hx⟩:=Option.isSome_iff_exists.mp a
   rw[if_pos e,e,hx,Option.map_some,if_pos rfl]
  ·rw[if_neg e]
   cases bW kvs j with
   | none=>rfl
   | some x=>rw[Option.map_some,if_neg e]
 ·rw[if_neg a]
  refine qS k j y kvs ?_
  rw[g6] at a
  cases q:bW kvs k with
  | none=>rfl
  | some x=>rw[q] at a;exact(a rfl).elim
theorem iu (kvs:List (κ×V)) (k:κ) (v:V):(putK kvs k v).length≤kvs.length+1:=by
 unfold putK
 split
 ·rw[List.length_map];omega
 ·rw[List.length_append,List.length_cons,List.length_nil];omega
theorem tW {kvs:List (κ×V)} {k:κ} (v:V) (h:bW kvs k=none):putK kvs k v=kvs++[(k,v)]:=by
 unfold putK
 rw[g6,h]
 exact if_neg (by decide)
theorem jg.iG {o:Option V} {u:Option Value} (r:jg o u):o.isSome=u.isSome:=by
 cases o with
 | none=>cases u with
  | none=>rfl
  | some _=>exact(show False from r).elim
 | some _=>cases u with
  | none=>exact(show False from r).elim
  | some _=>rfl
theorem KV.val {kvs:List (κ×V)} {vs:List (κ×Value)} (r:KV kvs vs) (k:κ):jg (bW kvs k) (valueAt vs k):=by
 unfold KV at r
 induction r with
 | nil=>exact True.intro
 | @cons p q ps qs h t ih=>
  obtain⟨h1,h2⟩:=h
  by_cases e:p.1=k
  ·have e':q.1=k:=h1.symm.trans e
   have b:valueAt (q::qs) k=some q.2:=by simp[valueAt,List.find?_cons,e']
   rw[dh e,b];exact h2
  ·have e':¬q.1=k:=fun z=>e (h1.trans z)
   have b:valueAt (q::qs) k=valueAt qs k:=by simp[valueAt,List.find?_cons,e']
   rw[dj e,b];exact ih
theorem KV.any {kvs:List (κ×V)} {vs:List (κ×Value)} (r:KV kvs vs) (k:κ):(kvs.any fun kv=>decide (kv.1=k))=vs.any fun kv=>decide (kv.1=k):=by
 unfold KV at r
 induction r with
 | nil=>rfl
 | cons h t ih=>rw[List.any_cons,List.any_cons,ih,h.1]
theorem KV.repl {kvs:List (κ×V)} {vs:List (κ×Value)} (r:KV kvs vs) (k:κ) {y:V} {u:Value} (ry:RelV y u):
  KV (kvs.map fun kv=>if kv.1=k then(kv.1,y) else kv) (vs.map fun kv=>if kv.1=k then(kv.1,u) else kv):=by
 unfold KV at r ⊢
 induction r with
 | nil=>exact .nil
 | @cons p q ps qs h t ih=>
  rw[List.map_cons,List.map_cons]
  refine .cons ?_ ih
  obtain⟨h1,h2⟩:=h
  by_cases e:p.1=k
  ·rw[if_pos e,if_pos (h1.symm.trans e)];exact⟨h1,ry⟩
  ·rw[if_neg e,if_neg (fun z=>e (h1.trans z))];exact⟨h1,h2⟩
theorem KV.put {kvs:List (κ×V)} {vs:List (κ×Value)} (r:KV kvs vs) (k:κ) {y:V} {u:Value} (ry:RelV y u):KV (putK kvs k y) (stored vs k u):=by
 unfold putK stored
 rw[r.any k]
 by_cases e:(vs.any fun kv=>decide (kv.1=k))=true
 ·rw[if_pos e,if_pos e];exact r.repl k ry
 ·rw[if_neg e,if_neg e];exact Paired.snoc r ⟨rfl,ry⟩
theorem KV.length {kvs:List (κ×V)} {vs:List (κ×Value)} (r:KV kvs vs):kvs.length=vs.length:=Paired.length r
end
theorem jO {P:Program} {w:World} {k:Key} {u:Value} (r:RelV (kV k) u):(a_ P w).is k u=true:=by
 cases k with
 | inl i=>obtain⟨t,e⟩:=(show ∃t,u=Value.int i t from r);subst e;exact vA P w i t
 | inr x=>obtain⟨t,e⟩:=(show ∃t,u=Value.str x t from r);subst e;exact vB P w x t
theorem qT {P:Program} {w:World}:∀{ks:List Key} {us:List Value},Vals (ks.map kV) us→ItemsAre (a_ P w) ks us
 | [],_,r=>by rw[List.map_nil] at r;cases r;exact .nil
 | k::ks,_,r=>by
  rw[List.map_cons] at r
  cases r with
  | cons h t=>exact .cons (jO h) (qT t)
abbrev KT (H:Hp):List (List Key×V)→List (List Key×Addr×Value)→Prop:=Paired fun p q=>p.1=q.1∧H q.2.1=some (.tup (p.1.map kV))∧RelV p.2 q.2.2
theorem KT.val {H:Hp} {kvs:List (List Key×V)} {xs:List (List Key×Addr×Value)} (r:KT H kvs xs) (k:List Key):jg (bW kvs k) ((atKey xs k).map (·.2)):=by
 induction r with
 | nil=>exact True.intro
 | @cons p q ps qs h t ih=>
  obtain⟨h1,_,h2⟩:=h
  by_cases e:p.1=k
  ·have e':q.1=k:=h1.symm.trans e
   have b:atKey (q::qs) k=some q.2:=by simp[atKey,List.find?_cons,e']
   rw[dh e,b];exact h2
  ·have e':¬q.1=k:=fun z=>e (h1.trans z)
   have b:atKey (q::qs) k=atKey qs k:=by simp[atKey,List.find?_cons,e']
   rw[dj e,b];exact ih
theorem KT.repl {H:Hp} {kvs:List (List Key×V)} {xs:List (List Key×Addr×Value)} (r:KT H kvs xs) (k:List Key) {y:V} {u:Value} (ry:RelV y u):
  KT H (kvs.map fun kv=>if kv.1=k then(kv.1,y) else kv) (xs.map (putAt k u)):=by
 induction r with
 | nil=>exact .nil
 | @cons p q ps qs h t ih=>
  rw[List.map_cons,List.map_cons]
  refine .cons ?_ ih
  obtain⟨h1,h2,h3⟩:=h
  unfold putAt
  by_cases e:p.1=k
  ·rw[if_pos e,if_pos (h1.symm.trans e)];exact⟨h1,h2,ry⟩
  ·rw[if_neg e,if_neg (fun z=>e (h1.trans z))];exact⟨h1,h2,h3⟩
theorem KT.put {H:Hp} {kvs:List (List Key×V)} {xs:List (List Key×Addr×Value)} (r:KT H kvs xs) (k:List Key) {b:Addr} {y:V} {u:Value} (hb:H b=some (.tup (k.map kV))) (ry:RelV y u):
  KT H (putK kvs k y) (storedH xs k b u):=by
 have e:(kvs.any fun kv=>decide (kv.1=k))=(atKey xs k).isSome:=by
  rw[g6,(r.val k).iG,Option.isSome_map]
 unfold putK storedH
 rw[e]
 by_cases q:(atKey xs k).isSome=true
 ·rw[if_pos q,if_pos q];exact r.repl k ry
 ·rw[if_neg q,if_neg q];exact Paired.snoc r ⟨rfl,hb,ry⟩
theorem KT.keeps {H H':Hp} {kvs:List (List Key×V)} {xs:List (List Key×Addr×Value)} (r:KT H kvs xs) (ht:∀b ys,H b=some (.tup ys)→H' b=some (.tup ys)):KT H' kvs xs:=
 Paired.xp r fun _ _ z=>⟨z.1,ht _ _ z.2.1,z.2.2⟩
section
variable {P:Program} {w:World} {H:Hp} {h:Heap} {a:Addr}
theorem CG {u:HO} (ok:dH P w H h) (e:Rd H a u):bK P w H h a u:=e.ok ok
theorem jP {kvs:List (Key×V)} (ok:dH P w H h) (e:Rd H a (.dK kvs)):kvs.length≤sizeLine∧(a == sysModules)=false∧∃vs,KV kvs vs∧h.DictOf (a_ P w) a vs:=
 show bK P w H h a (.dK kvs) from CG ok e
theorem sH {kvs:List (Key×V)} (ok:dH P w H h) (e:H a=some (.dK kvs)):kvs.length≤sizeLine∧(a == sysModules)=false∧∃vs,KV kvs vs∧h.DictOf (a_ P w) a vs:=jP ok (.inl e)
theorem mG {ks:List Key} (ok:dH P w H h) (e:H a=some (.tup (ks.map kV))):(tupleKind (a_ P w)).is h ks a:=by
 obtain⟨_,its,r,o,h1,h2,n,h3⟩:=(show bK P w H h a (.tup (ks.map kV)) from ok a _ e)
 exact⟨o,its.toArray,n,h1,h2,h3,by simpa using qT r⟩
theorem nj {kvs:List (List Key×V)} (ok:dH P w H h) (e:Rd H a (.dT kvs)):kvs.length≤sizeLine∧(a == sysModules)=false∧
  ∃xs,KT H kvs xs∧h.DictOfH (tupleKind (a_ P w)) a xs:=by
 obtain⟨z,y,xs,r,o,es,ep,h1,h2,h3,h4,h5⟩:=(show bK P w H h a (.dT kvs) from CG ok e)
 refine⟨z,y,xs,r,o,es,ep,h1,h2,h3,h4,fun x hx=>?_,h5⟩
 have all:∀{l:List (List Key×V)} {m:List (List Key×Addr×Value)},KT H l m→∀x∈m,(tupleKind (a_ P w)).is h x.1 x.2.1:=by
  intro l m q
  induction q with
  | nil=>intro x hx;exact nomatch hx
  | @cons p q ps qs hq t ih=>
   intro x hx
   rcases List.mem_cons.mp hx with e | hx
   ·subst e
    exact mG ok (by rw[←hq.1];exact hq.2.1)
   ·exact ih x hx
 exact all r x hx
theorem Jd {kvs:List (List Key×V)} (ok:dH P w H h) (e:H a=some (.dT kvs)):kvs.length≤sizeLine∧(a == sysModules)=false∧
  ∃xs,KT H kvs xs∧h.DictOfH (tupleKind (a_ P w)) a xs:=nj ok (.inl e)
end
def g7 (H:Hp) (a:Addr) (y:V) (r:Option V):Prop:=
 (∃kvs k,Rd H a (.dK kvs)∧y=kV k∧r=bW kvs k)∨∃kvs k b,Rd H a (.dT kvs)∧y=.ref b∧H b=some (.tup (k.map kV))∧r=bW kvs k
def j8 (H:Hp) (a:Addr) (y v:V) (H':Hp):Prop:=
 (∃kvs k,H a=some (.dK kvs)∧y=kV k∧kvs.length<sizeLine∧H'=upd H a (.dK (putK kvs k v)))∨
 ∃kvs k b,H a=some (.dT kvs)∧y=.ref b∧H b=some (.tup (k.map kV))∧kvs.length<sizeLine∧H'=upd H a (.dT (putK kvs k v))
theorem g7.t {H:Hp} {a b:Addr} {kvs:List (List Key×V)} {k:List Key} (e:H a=some (.dT kvs)) (eb:H b=some (.tup (k.map kV))):g7 H a (.ref b) (bW kvs k):=.inr ⟨kvs,k,b,.inl e,rfl,eb,rfl⟩
theorem j8.k {H:Hp} {a:Addr} {kvs:List (Key×V)} {k:Key} {v:V} (e:H a=some (.dK kvs)) (hl:kvs.length<sizeLine):j8 H a (kV k) v (upd H a (.dK (putK kvs k v))):=.inl ⟨kvs,k,e,rfl,hl,rfl⟩
theorem j8.t {H:Hp} {a b:Addr} {kvs:List (List Key×V)} {k:List Key} {v:V} (e:H a=some (.dT kvs)) (eb:H b=some (.tup (k.map kV))) (hl:kvs.length<sizeLine):
  j8 H a (.ref b) v (upd H a (.dT (putK kvs k v))):=.inr ⟨kvs,k,b,e,rfl,eb,hl,rfl⟩
section
variable {X:Cx} {pins:List (Addr×Obj)} {σ:St} {H:Hp} {s:Shared} {a:Addr} {y v:V} {u r:Value} {o:Option V} {A:Around} {E:Value→Shared→Prop}
theorem Inv.big (I:Inv X pins σ H s):sysModules<s.heap.objs.size:=by
 have h:mainGlobals<s.heap.objs.size:=(I.mod.glob.keeps I.bk).lt
 exact Nat.lt_trans (by decide) h
theorem y4 {Q:Value→Shared→Prop} (hu:A.units+1<cLine) (I:Inv X pins σ H s) (g:g7 H a y (some v)) (ry:RelV y u) (h:∀w' s',Inv X pins σ H s'→RelV v w'→Q w' s'):
  wpAny (model X.prog X.w) A (getItem (.ref a) u) Q E s:=by
 rcases g with⟨kvs,k,e,ey,l⟩ | ⟨kvs,k,b,e,ey,eb,l⟩
 ·subst ey
  obtain⟨z,hd,vs,rel,dd⟩:=jP I.hok e
  obtain⟨w',hw,mC⟩:=jg.some_of (v:=v) (o:=valueAt vs k) (by rw[l];exact rel.val k)
  exact wpAny_getItem_of (jO ry) dd.mapOf hw (h w' _ (I.tok _) mC)
 ·subst ey
  cases(show u=Value.ref b from ry)
  obtain⟨z,hd,xs,rel,dd⟩:=nj I.hok e
  obtain⟨w',hw,mC⟩:=jg.some_of (v:=v) (o:=(atKey xs k).map (·.2)) (by rw[l];exact rel.val k)
  obtain⟨p,hp,hp2⟩:=Option.map_eq_some_iff.mp hw
  refine wpAny_getItem_heap (tupleKind_room_in1 hu) (mG I.hok eb) dd hp ?_
  rw[hp2]
  exact h w' _ (I.tok _) mC
theorem LZ {Q:Value→Shared→Prop} (hu:A.units+1<cLine) (I:Inv X pins σ H s) (g:g7 H a y o) (ry:RelV y u) (h:∀s',Inv X pins σ H s'→Q (.bool o.isSome) s'):
  wpAny (model X.prog X.w) A (compareOp .In u (.ref a)) Q E s:=by
 rcases g with⟨kvs,k,e,ey,l⟩ | ⟨kvs,k,b,e,ey,eb,l⟩
 ·subst ey
  obtain⟨z,hd,vs,rel,dd⟩:=jP I.hok e
  refine wpAny_in_of (jO ry) hd dd.mapOf ?_
  rw[←(rel.val k).iG,←l]
  exact h _ (I.tok _)
 ·subst ey
  cases(show u=Value.ref b from ry)
  obtain⟨z,hd,xs,rel,dd⟩:=nj I.hok e
  refine wpAny_in_heap (tupleKind_room_in1 hu) (mG I.hok eb) hd dd ?_
  have q:=(rel.val k).iG
  rw[Option.isSome_map] at q
  rw[←q,←l]
  exact h _ (I.tok _)
theorem D6 {Q:Value→Shared→Prop} (hu:A.units+1<cLine) (I:Inv X pins σ H s) (g:g7 H a y o) (ry:RelV y u) (h:∀s',Inv X pins σ H s'→Q (.bool (!o.isSome)) s'):
  wpAny (model X.prog X.w) A (compareOp .NotIn u (.ref a)) Q E s:=by
 rcases g with⟨kvs,k,e,ey,l⟩ | ⟨kvs,k,b,e,ey,eb,l⟩
 ·subst ey
  obtain⟨z,hd,vs,rel,dd⟩:=jP I.hok e
  refine wpAny_notIn_of (jO ry) hd dd.mapOf ?_
  rw[←(rel.val k).iG,←l]
  exact h _ (I.tok _)
 ·subst ey
  cases(show u=Value.ref b from ry)
  obtain⟨z,hd,xs,rel,dd⟩:=nj I.hok e
  refine wpAny_notIn_heap (tupleKind_room_in1 hu) (mG I.hok eb) hd dd ?_
  have q:=(rel.val k).iG
  rw[Option.isSome_map] at q
  rw[←q,←l]
  exact h _ (I.tok _)
theorem nq {h':Heap} {t':Nat} {ob:HO} (I:Inv X pins σ H s) (mu:yG (H a)) (hs:Heap.SameBut a s.heap h') (he:∃q,h'.get? a=some q) (new:bK X.prog X.w (upd H a ob) h' a ob):
  Inv X pins σ (upd H a ob) {s with heap:=h',toks:=t'}:=
 I.write (x:=a) (e:=a) mu (.inl rfl) (fun b q hb z=>(hs.2 b hb).trans z) he new
theorem tX {P:Program} {w:World} {H':Hp} {h':Heap} {kvs:List (Key×V)} {vs:List (Key×Value)} (z:kvs.length≤sizeLine) (hd:(a == sysModules)=false) (rel:KV kvs vs) (dd:h'.DictOf (a_ P w) a vs):
  bK P w H' h' a (.dK kvs):=⟨z,hd,vs,rel,dd⟩
theorem y6 {H':Hp} {Q:Unit→Shared→Prop} (hu:A.units+1<cLine) (I:Inv X pins σ H s) (g:j8 H a y v H') (ry:RelV y u) (rv:RelV v r) (h:∀s',Inv X pins σ H' s'→Q () s'):
  wpAny (model X.prog X.w) A (setItem (.ref a) u r) Q E s:=by
 rcases g with⟨kvs,k,e,ey,l,eH⟩ | ⟨kvs,k,b,e,ey,eb,l,eH⟩
 ·subst ey eH
  obtain⟨z,hd,vs,rel,dd⟩:=sH I.hok e
  have hz:vs.length≤sizeLine:=by rw[←rel.length];exact z
  have hl:(putK kvs k v).length≤sizeLine:=by have:=iu kvs k v;omega
  refine wpAny_setItem_pairs (hsz:=hz) (jO ry) dd fun h' gY hs=>h _ ?_
  have he:∃q,h'.get? a=some q:=let ⟨q,_,_,hq,_⟩:=gY;⟨q,hq⟩
  exact nq I (by rw[e];exact True.intro) hs he (tX hl hd (rel.put k rv) gY)
 ·subst ey eH
  cases(show u=Value.ref b from ry)
  obtain⟨z,hd,xs,rel,dd⟩:=Jd I.hok e
  have hz:xs.length≤sizeLine:=by rw[←Paired.length rel];exact z
  have hl:(putK kvs k v).length≤sizeLine:=by have:=iu kvs k v;omega
  refine wpAny_setItem_heap (hsz:=hz) (tupleKind_room_in1 hu) (mG I.hok eb) dd fun h' gY hs=>h _ ?_
  obtain⟨q,es,ep,hq,h2,h3,h4,_,h5⟩:=gY
  refine nq I (by rw[e];exact True.intro) hs ⟨q,hq⟩ ⟨hl,hd,_,(rel.put k eb rv).keeps fun c ys ec=>?_,q,es,ep,hq,h2,h3,h4,h5⟩
  rw[ao (bF ec e (fun z=>nomatch z))]
  exact ec
end
section
variable {X:Cx} {pins:List (Addr×Obj)} {σ:St} {H:Hp} {s:Shared} {a:Addr} {kvs:List (Key×V)} {k:Key} {u:Value} {A:Around} {E:Value→Shared→Prop}
theorem D7 {Q:Bool→Shared→Prop} (I:Inv X pins σ H s) (e:Rd H a (.dK kvs)) (h:∀s',Inv X pins σ H s'→Q (!kvs.isEmpty) s'):wpAny (model X.prog X.w) A (truthy (.ref a)) Q E s:=by
 obtain⟨z,hd,vs,rel,dd⟩:=jP I.hok e
 refine wpAny_truthy_dict hd dd (by rw[←rel.length];rw[sizeLine_eq] at z;omega) ?_
 have q:kvs.isEmpty=vs.isEmpty:=by cases rel<;>rfl
 rw[←q]
 exact h _ (I.tok _)
end
def FA (i:Expr):Prop:=∀ov iv,subscripted i false ov iv=operate [ov,iv] (getItem ov iv)
theorem D8 {prog:Program} {w:World} {A:Around} {E:Value→Shared→Prop} {s:Shared} {env:Env} {value slice:Expr} {pos:Pos} {T id:String} {Q:Value→Shared→Prop}
  (hl:typeLookup (.type T) "__getitem__"=pure (some (.builtin id))) (hs:FA slice)
  (h:wpAny (model prog w) A (eval value env) (fun o s₁=>wpAny (model prog w) A (eval slice env) (fun i s₂=>s₂.TypeIs o T∧wpAny (model prog w) A (getItem o i) Q E s₂) E s₁) E s):
  wpAny (model prog w) A (eval (.Subscript value slice pos) env) Q E s:=by
 refine Subscript_ (wpAny_mono h (fun o s₁ h₁=>wpAny_mono h₁ (fun i s₂ h₂=>?_) fun _ _ x=>x) fun _ _ x=>x)
 obtain⟨hT,h₂⟩:=h₂
 unfold subscriptTail
 refine wpAny_bind ?_
 rw[getitemInPython_of_ne hT.not_modules]
 refine wpAny_bind (wpAny_specialOf hT hl ?_)
 have fin:wpAny (model prog w) A (subscripted slice false o i) (fun r s₃=>wpAny (model prog w) A (letTemporaryGo value o r >>= fun _=>pure r) Q E s₃) E s₂:=by
  rw[hs o i]
  exact wpAny_operating (wpAny_mono h₂ (fun r s₃ h₃=>wpAny_bind (wpAny_letTemporaryGo (wpAny_pure h₃))) fun _ _ x=>x)
 first
  | exact wpAny_pure (wpAny_bind fin)
  | exact wpAny_bind (wpAny_pure (wpAny_bind fin))
  | exact wpAny_bind fin
theorem vD {X:Cx} {pins:List (Addr×Obj)} {σ:St} {H:Hp} {s:Shared} {a:Addr} {y:V} {o:Option V} (I:Inv X pins σ H s) (g:g7 H a y o):s.TypeIs (.ref a) "dict":=by
 rcases g with⟨kvs,k,e,_,_⟩ | ⟨kvs,k,b,e,_,_,_⟩
 ·obtain⟨_,_,vs,_,dd⟩:=jP I.hok e
  exact dd.typeIs
 ·obtain⟨_,_,xs,_,dd⟩:=nj I.hok e
  exact dd.typeIs
def Je (td ty:TE):TE:=fun σ H Q=>td σ H fun x H1=>ty σ H1 fun y H2=>∃a v,x=.ref a∧g7 H2 a y (some v)∧Q v H2
def L_ (ty td:TE):TE:=fun σ H Q=>ty σ H fun y H1=>td σ H1 fun x H2=>∃a o,x=.ref a∧g7 H2 a y o∧Q (.bl o.isSome) H2
def D9 (ty td:TE):TE:=fun σ H Q=>ty σ H fun y H1=>td σ H1 fun x H2=>∃a o,x=.ref a∧g7 H2 a y o∧Q (.bl (!o.isSome)) H2
def Jf (td ty tv:TE):TS:=fun D σ H=>tv σ H fun v H1=>td σ H1 fun x H2=>ty σ H2 fun y H3=>∃a H4,x=.ref a∧j8 H3 a y v H4∧D.nx σ H4
section
variable {X:Cx} {o i e value:Expr} {pos pos' tpos:Pos} {td ty tv:TE}
theorem wy (hu:X.A.units+1<cLine) (ho:PE X o td) (hi:PE X i ty) (hs:FA i):PE X (.Subscript o i pos) (Je td ty):=by
 intro pins s σ H Q I h
 refine D8 PySem.F.slot_dict_getitem.lookup hs (aN (ho pins s σ H _ I h) fun u s1 ⟨x,H1,I1,rx,q1⟩=>aN (hi pins s1 σ H1 _ I1 q1) fun iv s2 ⟨y,H2,I2,ry,a,v,ex,g,q2⟩=>?_)
 subst ex
 obtain rfl:u=Value.ref a:=rx
 exact⟨vD I2 g,y4 hu I2 g ry fun w' s3 I3 mC=>⟨v,H2,I3,mC,q2⟩⟩
theorem y9 (hu:X.A.units+1<cLine) (hi:PE X i ty) (ho:PE X o td):PC X .In i o (L_ ty td):=by
 intro pins s σ H Q I h
 refine aN (hi pins s σ H _ I h) fun iv s1 ⟨y,H1,I1,ry,q1⟩=>aN (ho pins s1 σ H1 _ I1 q1) fun u s2 ⟨x,H2,I2,rx,a,ov,ex,g,q2⟩=>?_
 subst ex
 obtain rfl:u=Value.ref a:=rx
 exact LZ hu I2 g ry fun s3 I3=>⟨.bl ov.isSome,H2,I3,rfl,q2⟩
theorem y' (hu:X.A.units+1<cLine) (hi:PE X i ty) (ho:PE X o td):PC X .NotIn i o (D9 ty td):=by
 intro pins s σ H Q I h
 refine aN (hi pins s σ H _ I h) fun iv s1 ⟨y,H1,I1,ry,q1⟩=>aN (ho pins s1 σ H1 _ I1 q1) fun u s2 ⟨x,H2,I2,rx,a,ov,ex,g,q2⟩=>?_
 subst ex
 obtain rfl:u=Value.ref a:=rx
 exact D6 hu I2 g ry fun s3 I3=>⟨.bl (!ov.isSome),H2,I3,rfl,q2⟩
theorem qc (hu:X.A.units+1<cLine) (ho:PE X o td) (hi:PE X i ty) (hv:PE X value tv) (hs:swapsWith value (some (.Subscript o i pos')) pos.line X.env=pure false):
  PS X (.Assign [.Subscript o i pos'] value pos) (Jf td ty tv):=by
 intro pins s σ H D I h
 refine wpAny_Assign_Subscript (aN (hv pins s σ H _ I h) fun r s1 ⟨v,H1,I1,rv,q1⟩=>aN (ho pins s1 σ H1 _ I1 q1) fun u s2 ⟨x,H2,I2,rx,q2⟩=>aN (hi pins s2 σ H2 _ I2 q2) fun iv s3 ⟨y,H3,I3,ry,a,H4,ex,g,q3⟩=>?_) hs
 subst ex
 obtain rfl:u=Value.ref a:=rx
 exact y6 hu I3 g ry rv fun s4 I4=>⟨σ,H4,I4,q3⟩
end
theorem tY {P:Program} {w:World} {H:Hp} (h:Heap) (hb:sysModules<h.objs.size):bK P w H (h.push {cls:=.type "dict",data:=.dict #[]}) h.objs.size (.dK []):=
 ⟨Nat.zero_le _,beq_eq_false_iff_ne.mpr (Ne.symm (Nat.ne_of_lt hb)),[],.nil,Heap.DictOf.new h⟩
theorem Bs {P:Program} {w:World} {H:Hp} (h:Heap) (hb:sysModules<h.objs.size):bK P w H (h.push {cls:=.type "dict",data:=.dict #[]}) h.objs.size (.dT []):=
 ⟨Nat.zero_le _,beq_eq_false_iff_ne.mpr (Ne.symm (Nat.ne_of_lt hb)),[],.nil,_, #[],0,Heap.get?_push_size _ rfl,⟨rfl,rfl,rfl⟩,rfl,rfl,List.nodup_nil⟩
def FC:TE:=fun _ H Q=>∀p,H p=none→Q (.ref p) (upd H p (.dK []))
def FD:TE:=fun _ H Q=>∀p,H p=none→Q (.ref p) (upd H p (.dT []))
section
variable {X:Cx} {pos:Pos}
theorem kS:PE X (.Dict [] [] pos) FC:=fun pins s σ H Q I h=>
 wpAny_Dict_empty ⟨.ref s.heap.objs.size,_,I.laid (a:=s.heap.objs.size) (o:=.dK []) (t':=s.toks) (fun _ _ q=>Heap.get?_push_of_some _ q) (Nat.le_refl _) (tY s.heap I.big),rfl,h _ (I.hok.fresh (Nat.le_refl _))⟩
theorem Bt:PE X (.Dict [] [] pos) FD:=fun pins s σ H Q I h=>
 wpAny_Dict_empty ⟨.ref s.heap.objs.size,_,I.laid (a:=s.heap.objs.size) (o:=.dT []) (t':=s.toks) (fun _ _ q=>Heap.get?_push_of_some _ q) (Nat.le_refl _) (Bs s.heap I.big),rfl,h _ (I.hok.fresh (Nat.le_refl _))⟩
end
def tZ:List (TE×TE)→St→Hp→(List (V×V)→Hp→Prop)→Prop
 | [],_,H,Q=>Q [] H
 | (tk,tv)::r,σ,H,Q=>tk σ H fun x H1=>tv σ H1 fun y H2=>tZ r σ H2 fun ps H3=>Q ((x,y)::ps) H3
abbrev VV:List (V×V)→List (Value×Value)→Prop:=Paired fun p q=>RelV p.1 q.1∧RelV p.2 q.2
def CH (X:Cx) (pos:Pos) (keys:List (Option Expr)) (values:List Expr) (o4:List (TE×TE)):Prop:=
 ∀(pins:List (Addr×Obj)) (s:Shared) (σ:St) (H:Hp) (Q:List (V×V)→Hp→Prop),Inv X pins σ H s→tZ o4 σ H Q→
  wpAny (model X.prog X.w) X.A (evalPairs (pairTrees keys values X.env pos)) (fun vs s'=>∃ps H',Inv X pins σ H' s'∧VV ps vs∧Q ps H') X.xe s
theorem wz {X:Cx} {pos:Pos}:CH X pos [] [] []:=fun pins s σ H Q I h=>pairTrees_nil_walk ⟨[],H,I,.nil,h⟩
theorem t_ {X:Cx} {pos:Pos} {k v:Expr} {ks:List (Option Expr)} {vs:List Expr} {tk tv:TE} {o4:List (TE×TE)} (hk:PE X k tk) (hv:PE X v tv) (hr:CH X pos ks vs o4):
  CH X pos (some k::ks) (v::vs) ((tk,tv)::o4):=fun pins s σ H Q I h=>
 pairTrees_cons_walk (aN (hk pins s σ H _ I h) fun u s1 ⟨x,H1,I1,rx,q1⟩=>aN (hv pins s1 σ H1 _ I1 q1) fun w2 s2 ⟨y,H2,I2,ry,q2⟩=>
  aN (hr pins s2 σ H2 _ I2 q2) fun ws s3 ⟨ps,H3,I3,rel,q3⟩=>⟨(x,y)::ps,H3,I3,.cons ⟨rx,ry⟩ rel,q3⟩)
def fe (kvs more:List (Key×V)):List (Key×V):=more.foldl (fun acc kv=>putK acc kv.1 kv.2) kvs
theorem KV.merge:∀{more:List (Key×V)} {rs:List (Key×Value)} {kvs:List (Key×V)} {vs:List (Key×Value)},KV more rs→KV kvs vs→KV (fe kvs more) (merged vs rs):=by
 intro more rs kvs vs r
 unfold KV at r
 induction r generalizing kvs vs with
 | nil=>intro q;exact q
 | @cons p q ps qs h t ih=>
  intro r0
  have e:KV (putK kvs p.1 p.2) (stored vs q.1 q.2):=by
   have:=r0.put p.1 h.2
   rw[←h.1];exact this
  exact ih e
theorem iO:∀(more kvs:List (Key×V)),(fe kvs more).length≤kvs.length+more.length
 | [],kvs=>by show kvs.length≤kvs.length+0;omega
 | p::r,kvs=>by
  have h1:=iO r (putK kvs p.1 p.2)
  have h2:=iu kvs p.1 p.2
  show(fe (putK kvs p.1 p.2) r).length≤_
  rw[List.length_cons];omega
theorem o5 {P:Program} {w:World}:∀{kvs:List (Key×V)} {ws:List (Value×Value)},VV (kvs.map fun kv=>(kV kv.1,kv.2)) ws→∃rs,Carries (a_ P w) ws rs∧KV kvs rs
 | [],_,r=>by rw[List.map_nil] at r;cases r;exact⟨[],True.intro,.nil⟩
 | p::kvs,_,r=>by
  rw[List.map_cons] at r
  cases r with
  | @cons a b as bs h t=>
   obtain⟨rs,c,q⟩:=o5 (P:=P) (w:=w) t
   obtain⟨b1,b2⟩:=b
   exact⟨(p.1,b2)::rs,⟨jO h.1,rfl,c⟩,.cons ⟨rfl,h.2⟩ q⟩
def Jg (o4:List (TE×TE)):TE:=fun σ H Q=>∀p,H p=none→tZ o4 σ (upd H p (.dK [])) fun ps H2=>H2 p=some (.dK [])∧∃kvs:List (Key×V),ps=kvs.map (fun kv=>(kV kv.1,kv.2))∧kvs.length≤15∧Q (.ref p) (upd H2 p (.dK (fe [] kvs)))
theorem wA {X:Cx} {pos:Pos} {keys:List (Option Expr)} {values:List Expr} {o4:List (TE×TE)} (h:CH X pos keys values o4) (hall:keys.all (·.isSome)=true) (hl:keys.length=values.length) (h0:keys≠[])
  (h15:keys.length≤15):PE X (.Dict keys values pos) (Jg o4):=by
 intro pins s σ H Q I q
 have hn:=I.hok.fresh (Nat.le_refl s.heap.objs.size)
 have I1:=I.laid (a:=s.heap.objs.size) (o:=.dK []) (h':=s.heap.push {cls:=.type "dict",data:=.dict #[]}) (t':=s.toks) (fun _ _ q=>Heap.get?_push_of_some _ q) (Nat.le_refl _) (tY s.heap I.big)
 refine wpAny_Dict_walk (knd:=a_ X.prog X.w) hall hl h0 h15 (aN (h pins _ σ _ _ I1 (q _ hn)) fun ws s2 ⟨ps,H2,I2,rel,e,kvs,ep,lk,q2⟩=>?_)
 subst ep
 obtain⟨rs,c,rk⟩:=o5 (P:=X.prog) (w:=X.w) rel
 obtain⟨z,hd,Tr,r0,dd⟩:=sH I2.hok e
 cases r0
 refine⟨rs,c,dd,fun h' gY hs=>⟨.ref s.heap.objs.size,_,?_,rfl,q2⟩⟩
 have hz:(fe [] kvs).length≤sizeLine:=by
  have h1:=iO kvs []
  rw[List.length_nil] at h1
  rw[sizeLine_eq];omega
 have he:∃q,h'.get? s.heap.objs.size=some q:=let ⟨q,_,_,hq,_⟩:=gY;⟨q,hq⟩
 exact nq I2 (by rw[e];exact True.intro) hs he (tX hz hd (rk.merge .nil) gY)
structure M2 (X:Cx) (o:Expr) (m:Str) (apos:Pos) (e f:Expr) (cpos:Pos):Prop where
 base:attributeBase o m X.env (eval o X.env)=eval o X.env
 few:((backTo cpos (starEach [e,f] X.env)).all (fun x=> !x.1)&&(backToKw cpos (keywordEach [] X.env)).all (fun x=>x.1.isSome)
  &&decide (([e,f]:List Expr).length+([]:List Keyword).length+(if([]:List Keyword).isEmpty then 0 else 1)<30))=true
 line:(apos.endLine == cpos.line)=true
 trees:backTo cpos (starEach [e,f] X.env)=[(false,eval e X.env),(false,eval f X.env)]
def JV (H:Hp) (a:Addr):Prop:=(∃kvs,Rd H a (.dK kvs))∨∃kvs,Rd H a (.dT kvs)
theorem FE {X:Cx} {pins:List (Addr×Obj)} {σ:St} {H:Hp} {s:Shared} {a:Addr} (I:Inv X pins σ H s) (d:JV H a):
  s.TypeIs (.ref a) "dict"∧(∀b,Value.ref a=.ref b→∃ob,s.heap.get? b=some ob∧ob.dict=none)∧(a == sysModules)=false:=by
 rcases d with⟨kvs,e⟩ | ⟨kvs,e⟩
 ·obtain⟨_,hd,vs,_,dd⟩:=jP I.hok e
  refine⟨dd.typeIs,fun b q=>?_,hd⟩
  cases q
  obtain⟨ob,_,_,h1,h2,_⟩:=dd
  exact⟨ob,h1,h2.2.1⟩
 ·obtain⟨_,hd,xs,_,dd⟩:=nj I.hok e
  refine⟨dd.typeIs,fun b q=>?_,hd⟩
  cases q
  obtain⟨ob,_,_,h1,h2,_⟩:=dd
  exact⟨ob,h1,h2.2.1⟩
section
variable {X:Cx} {pins:List (Addr×Obj)} {σ:List (Option V)} {H H':Hp} {s:Shared} {h':Heap}
theorem Inv.kT {t':Nat} {ch:List Addr} {p:Addr} {o:HO} (I:Inv X pins σ H s) (hf:∀b∈ch,fX X pins H b)
  (k:∀b u,b ∉ ch→s.heap.get? b=some u→h'.get? b=some u) (hp:s.heap.objs.size≤p) (new:bK X.prog X.w (upd H p o) h' p o):
  Inv X pins σ (upd H p o) {s with heap:=h',toks:=t'}:=by
 have hn:H p=none:=I.hok.fresh hp
 have mq:∀b u,H b=some u→b ∉ ch:=fun b u e z=>by have q:=(hf b z).1;rw[e] at q;cases q
 have old:∀b u,s.heap.get? b=some u→b≠p:=fun b u e=>Nat.ne_of_lt (Nat.lt_of_lt_of_le (Heap.lt_size e) hp)
 have o6:∀b u,H b=some u→upd H p o b=some u:=fun b u e=>by rw[ao (ay e hn)];exact e
 refine I.step (g':=s.gens) (d':=s.drawn) (ch:=ch) (fun b hb=>?_) (fun b o _ _ hc e _=>k b o hc e) (fun b o _ _ hc e _=>⟨o.slots,k b o hc e⟩) (fun b o _ e n=>by rw[ao (old b o e)];exact n)
  (fun b o hc e=>⟨o,k b o hc e⟩) (fun b xs e=>o6 b _ e) (fun b _ _ e=>o6 b _ e) (fun b ps e=>⟨#[],by rw[o6 b _ e];simp⟩) (fun m hm=>?_) (fun b u e=>?_) I.bare
 ·obtain⟨f0,f1,f2,f3,f4,f5⟩:=hf b hb
  exact⟨f3,f1,f4,f5⟩
 ·obtain⟨ob,es,ep,ho,r⟩:=hm
  exact⟨ob,es,ep,k _ ob (fun z=>(hf _ z).2.1 rfl) ho,r⟩
 ·by_cases hb:b=p
  ·subst hb;rw[af] at e;cases e;exact new
  ·rw[ao hb] at e
   refine(I.hok b u e).stay (fun c v hc q=>k c v ?_ q) (fun c q=>o6 c _ q) fun c xs q=>o6 c _ q
   rcases hc with z | z
   ·rw[z];exact mq b u e
   ·exact mq c _ z
end
def wB (K:PySem.W.Frag) (a:Addr):It:=
 ⟨fun i H=>∃xs x,bp K H a xs∧xs[i]? =some x,
  fun i H x H'=>∃y p,(∀xs,bp K H a xs→xs[i]? =some y)∧H p=none∧x=.ref p∧H'=upd H p (.tup [.int i,y]),
  fun i H=>∃xs,bp K H a xs∧xs.length≤i⟩
theorem zb {P:Program} {w:World} {K:PySem.W.Frag} {elts:List Expr} {x1} {tpos:Pos} (a e it:Addr) (hne:e≠it):
  Turn P w K (.Tuple elts x1 tpos) (wB K a) [e,it] e (fun i h=>(∃old,IsEnum h e it i old)∧h.IsListIter it a i) where
 mem:=by simp
 obj:=fun i h st b hb=>by
  obtain⟨⟨old,st1⟩,st2⟩:=st
  rcases List.mem_cons.mp hb with z | z
  ·subst z;exact⟨_,st1,fun v z=>by cases z⟩
  ·have z':b=it:=by simpa using z
   subst z'
   obtain⟨o,e,c,d⟩:=st2
   exact⟨o,e,fun v z=>by rw[d] at z;cases z⟩
 keep:=fun i h h' st k=>by
  obtain⟨⟨old,st1⟩,st2⟩:=st
  exact⟨⟨old,k e (by simp) _ st1⟩,st2.at fun o q=>k it (by simp) o q⟩
 item:=by
  intro X hP hw hK hc i pins s σ H E I hf st hg
  subst hP hw hK
  obtain⟨⟨old,st1⟩,st2⟩:=st
  obtain⟨xs,x,hq,hx⟩:=hg
  obtain⟨its,rv,p,hz⟩:=I.list hq
  obtain⟨u,hu,ru⟩:=rv.get hx
  refine wpAny_pyNext_enum_item st1 st2 p.isList (x:=u) (by simpa using hu) hne fun h1 eo FF ht hsz kk=>?_
  have nn:H s.heap.objs.size=none:=I.hok.fresh (Nat.le_refl _)
  have I1:Inv X pins σ (upd H s.heap.objs.size (.tup [.int i,x])) {s with heap:=h1,toks:=s.toks+1}:=
   I.kT (ch:=[e,it]) hf (fun b o hb q=>kk b o (fun z=>hb (by simp[z])) (fun z=>hb (by simp[z])) q) (Nat.le_refl _)
    ⟨⟨by show 2≤sizeLine;decide,_,ht,rfl⟩,[.int i s.toks,u],.cons ⟨_,rfl⟩ (.cons ru .nil),⟨_,ht,rfl,_,rfl⟩⟩
  have le:e<s.heap.objs.size:=Heap.lt_size st1
  have li:it<s.heap.objs.size:=by obtain⟨o,q,_⟩:=id st2;exact Heap.lt_size q
  refine⟨_,rfl,wpAny_letOwnedTupleGo_enum eo fun h2 e2 sb=>?_⟩
  obtain⟨f0,f1,f2,f3,f4,f5⟩:=hf e (by simp)
  have I2:=I1.turned (h':=h2) (t':=s.toks+1) (it:=e) (fun b o hb q=>(sb.2 b hb).trans q) (by rw[ao (Nat.ne_of_lt le)];exact f0) f1 f3 f4 f5
  refine⟨.ref s.heap.objs.size,_,I2,rfl,⟨x,s.heap.objs.size,fun ys hy=>by rw[I.jj hy hq];exact hx,nn,rfl,rfl⟩,⟨⟨u,by simpa using e2⟩,FF.at fun o q=>(sb.2 it (Ne.symm hne)).trans q⟩,fun b hb=>?_⟩
  rcases List.mem_cons.mp hb with z | z
  ·subst z;rw[ao (Nat.ne_of_lt le)];exact f0
  ·have z':b=it:=by simpa using z
   subst z';rw[ao (Nat.ne_of_lt li)];exact(hf b (by simp)).1
 done:=by
  intro X hP hw hK hc i pins s σ H E I hf st hg
  subst hP hw hK
  obtain⟨⟨old,st1⟩,st2⟩:=st
  obtain⟨xs,hq,hx⟩:=hg
  obtain⟨its,rv,p,hz⟩:=I.list hq
  obtain⟨f0,f1,f2,f3,f4,f5⟩:=hf it (by simp)
  have hl:=rv.length
  exact wpAny_pyNext_enum_end (I.ok.hd hc) st1 st2 p.isList (by simp;omega) fun h' eb=>⟨rfl,I.turned (t':=s.toks) (fun b o hb e=>eb b o hb e) f0 f1 f3 f4 f5⟩
 self:=fun _ _ _ _ _ st h=>by
  obtain⟨⟨old,st1⟩,st2⟩:=st
  exact wpAny_pyIter_enum st1 h
def Jh (K:PySem.W.Frag) (ta:TA):TI:=fun σ H R=>ta σ H fun vs H1=>∃a,vs=[.ref a]∧(∃xs,bp K H1 a xs)∧R (wB K a) H1
theorem nu {X:Cx} {elts:List Expr} {x1} {tpos:Pos} {a:Expr} {ta:TA} {p pos:Pos} (hg:Gl X "enumerate") (hm:X.mg "enumerate"=none) (ha:PA X [a] ta) (hs:starEach [a] X.env=[(false,eval a X.env)]:=by rfl):
  PI X (.Tuple elts x1 tpos) (.Call (.Name "enumerate" p) [a] [] pos) (Jh X.K ta):=by
 intro pins s σ H R I h
 refine Call_ (dP I hg hm boot_enumerate (PyProof.Rows.callWith_type1 (aN (ha pos pins s σ H _ I h) fun us s1 ⟨vs,H1,I1,r1,q1⟩=>?_) hs rfl))
 obtain⟨l,e,⟨xs,hq⟩,q⟩:=q1
 subst e
 cases r1 with
 | cons r rr=>
  cases rr
  cases r
  obtain⟨its,rv,pl,hz⟩:=I1.list hq
  refine call_enumerate_list pl.isList fun h' he hit hsz kk=>?_
  have I2:Inv X pins σ H1 {s1 with heap:=h'}:=I1.kept (t':=s1.toks) kk
  refine wpAny_pyIter_enum he ?_
  refine⟨s1.heap.objs.size+1,[s1.heap.objs.size+1,s1.heap.objs.size],_,_,H1,rfl,I2,zb l _ _ (Nat.succ_ne_self _),⟨⟨_,by simpa using he⟩,hit⟩,fun b hb=>?_,q⟩
  rcases List.mem_cons.mp hb with z | z
  ·subst z;exact I1.gv (Nat.le_succ _) (I1.hok.fresh (Nat.le_succ _))
  ·have z':b=s1.heap.objs.size:=by simpa using z
   subst z';exact I1.gv (Nat.le_refl _) (I1.hok.fresh (Nat.le_refl _))
theorem oz {K:PySem.W.Frag} {a:Addr} {xs:List V} {g:TG} {tb:TS} {D:Ends} {σ:St} {H:Hp} (Pv:Nat→St→Hp→Prop) (h0:Pv 0 σ H) (hl:∀i σ H,i≤xs.length→Pv i σ H→bp K H a xs)
  (hs:∀i x p σ H,xs[i]? =some x→Pv i σ H→H p=none→g (.ref p) σ (upd H p (.tup [.int i,x])) fun σ2 H2=>tb {D with nx:=Pv (i+1),ct:=Pv (i+1),bk:=D.nx} σ2 H2) (hd:∀σ H,Pv xs.length σ H→D.nx σ H):
  ∃W:Nat→Nat→St→Hp→Prop,(∃m,W 0 m σ H)∧∀i m σ H,W i m σ H→
   ((wB K a).stop i H∧D.nx σ H)∨((wB K a).go i H∧∃N:St→Hp→Prop,(∀σ' H',N σ' H'→∃m',m'<m∧W (i+1) m' σ' H')∧∀x H',(wB K a).lI i H x H'→g x σ H' fun σ2 H2=>tb {D with nx:=N,ct:=N,bk:=D.nx} σ2 H2):=by
 refine⟨fun i m σ H=>m=xs.length-i∧i≤xs.length∧Pv i σ H,⟨xs.length,by simp,Nat.zero_le _,h0⟩,?_⟩
 rintro i m σ H ⟨rfl,hi,p⟩
 have q:=hl i σ H hi p
 by_cases hlt:i<xs.length
 ·refine .inr ⟨⟨xs,xs[i],q,by simp[hlt]⟩,Pv (i+1),fun σ' H' p'=>⟨xs.length-(i+1),by omega,rfl,hlt,p'⟩,fun x H' y=>?_⟩
  obtain⟨z,pa,hz,hn,e1,e2⟩:=y
  subst e1 e2
  exact hs i z pa σ H (hz xs q) p hn
 ·have e:i=xs.length:=by omega
  subst e
  exact .inl ⟨⟨xs,q,Nat.le_refl _⟩,hd σ H p⟩
def fY (env:Env):List (Str×NameKind)→List (Str×Addr)→List (Str×Addr)
 | [],cs=>cs
 | (n,k)::r,cs=>fY env r (if k == .free then(n,(env.cells.lookup n).getD 0)::cs else cs)
theorem pb {env:Env}:∀(names:List (Str×NameKind)) (cs:List (Str×Addr)),(∀y∈names,y.2=.free→∃c,env.cells.lookup y.1=some c)→
  (forIn names cs fun(x:Str×NameKind) (r:List (Str×Addr))=>(match x with
   | (name,kind)=>if(kind == NameKind.free)=true then(cellOf env name >>= fun a=>pure (ForInStep.yield ((name,a)::r)):Sem (ForInStep (List (Str×Addr)))) else pure (ForInStep.yield r)))=pure (fY env names cs)
 | [],cs,_=>rfl
 | (n,k)::r,cs,h=>by
  have ih:=fun cs'=>pb r cs' fun y hy=>h y (List.mem_cons_of_mem _ hy)
  rw[List.forIn_cons]
  by_cases hk:k=.free
  ·subst hk
   obtain⟨c,hc⟩:=h (n,.free) List.mem_cons_self rfl
   have e:cellOf env n=pure c:=by unfold cellOf;rw[hc]
   simp only[beq_self_eq_true,if_true,e,pure_bind]
   rw[ih]
   show _=pure (fY env r (if(NameKind.free == NameKind.free)=true then _ else _))
   rw[hc];rfl
  ·have hb:(k == NameKind.free)=false:=by simpa using hk
   simp only[hb,Bool.false_eq_true,if_false,pure_bind]
   rw[ih]
   show _=pure (fY env r (if(k == NameKind.free)=true then _ else _))
   rw[hb];rfl
theorem jQ {env:Env} {scope:Scope} (h:∀y∈scope.names,y.2=.free→∃c,env.cells.lookup y.1=some c):closureFor scope env=pure (fY env scope.names []):=by
 unfold closureFor
 have e:=pb (env:=env) scope.names [] h
 show((forIn scope.names [] _:Sem (List (Str×Addr))) >>= fun cs=>pure cs)=_
 rw[bind_pure]
 refine Eq.trans ?_ e
 first
  | rfl
  | (congr 1;funext x r;obtain⟨n,k⟩:=x;dsimp only;split<;>simp)
theorem t9 {env:Env} {x:Str} {c:Addr}:∀(names:List (Str×NameKind)) (cs:List (Str×Addr)),(x,c)∈fY env names cs→(x,c)∈cs∨((x,NameKind.free)∈names∧c=(env.cells.lookup x).getD 0)
 | [],cs,h=>.inl h
 | (n,k)::r,cs,h=>by
  have h':(x,c)∈fY env r (if(k == NameKind.free)=true then(n,(env.cells.lookup n).getD 0)::cs else cs):=h
  rcases t9 r _ h' with z | ⟨z1,z2⟩
  ·by_cases hk:k=.free
   ·subst hk
    simp only[beq_self_eq_true,if_true,List.mem_cons] at z
    rcases z with z | z
    ·cases z;exact .inr ⟨List.mem_cons_self,rfl⟩
    ·exact .inl z
   ·have hb:(k == NameKind.free)=false:=by simpa using hk
    rw[hb] at z
    exact .inl z
  ·exact .inr ⟨List.mem_cons_of_mem _ z1,z2⟩
theorem qU {env:Env} {p:Str×Addr}:∀(names:List (Str×NameKind)) (cs:List (Str×Addr)),p∈cs→p∈fY env names cs
 | [],cs,h=>h
 | (n,k)::r,cs,h=>by
  show p∈fY env r (if(k == NameKind.free)=true then(n,(env.cells.lookup n).getD 0)::cs else cs)
  refine qU r _ ?_
  split
  ·exact List.mem_cons_of_mem _ h
  ·exact h
theorem ua {env:Env} {x:Str}:∀(names:List (Str×NameKind)) (cs:List (Str×Addr)),(x,NameKind.free)∈names→(x,(env.cells.lookup x).getD 0)∈fY env names cs
 | [],_,h=>by cases h
 | (n,k)::r,cs,h=>by
  show _∈fY env r (if(k == NameKind.free)=true then(n,(env.cells.lookup n).getD 0)::cs else cs)
  rcases List.mem_cons.mp h with z | z
  ·cases z
   exact qU r _ (by simp)
  ·exact ua r _ z
theorem kx {α β:Type} [BEq α] [LawfulBEq α] {x:α} {c:β}:∀{l:List (α×β)},l.lookup x=some c→(x,c)∈l
 | [],h=>by simp at h
 | (n,k)::r,h=>by
  rw[List.lookup_cons] at h
  by_cases e:x=n
  ·subst e;simp at h;subst h;exact List.mem_cons_self
  ·have:(x == n)=false:=by simpa using e
   rw[this] at h
   exact List.mem_cons_of_mem _ (kx h)
theorem ky {α β:Type} [BEq α] [LawfulBEq α] {x:α} {c:β}:∀{l:List (α×β)},(x,c)∈l→∃c',l.lookup x=some c'
 | [],h=>by cases h
 | (n,k)::r,h=>by
  rw[List.lookup_cons]
  by_cases e:x=n
  ·subst e;simp
  ·have q:(x == n)=false:=by simpa using e
   rw[q]
   rcases List.mem_cons.mp h with z | z
   ·cases z;exact absurd rfl e
   ·exact ky z
theorem dS {env:Env} {x:Str} {k':NameKind}:∀{names:List (Str×NameKind)},
  (names.map fun(n,k)=>if(k == NameKind.free&&env.scope.kind == .function&&env.kindOf n == some .cell) then(n,NameKind.cell) else(n,k)).lookup x=some k'→
  (x,k')∈names∨(k'=.cell∧(x,NameKind.free)∈names)
 | [],h=>by simp at h
 | (n,k)::r,h=>by
  rw[List.map_cons,List.lookup_cons] at h
  dsimp only at h
  by_cases e:x=n
  ·subst e
   by_cases hc:(k == NameKind.free&&env.scope.kind == .function&&env.kindOf x == some .cell)=true
   ·rw[if_pos hc] at h
    simp at h
    have hk:k=.free:=by
     simp only[Bool.and_eq_true,beq_iff_eq] at hc
     exact hc.1.1
    subst hk
    exact .inr ⟨h.symm,List.mem_cons_self⟩
   ·rw[if_neg hc] at h
    simp at h
    subst h
    exact .inl List.mem_cons_self
  ·have q:(x == (if(k == NameKind.free&&env.scope.kind == .function&&env.kindOf n == some .cell)=true then(n,NameKind.cell) else(n,k)).1)=false:=by
    split<;>simpa using e
   rw[q] at h
   rcases dS h with z | ⟨z1,z2⟩
   ·exact .inl (List.mem_cons_of_mem _ z)
   ·exact .inr ⟨z1,List.mem_cons_of_mem _ z2⟩
structure aJ (X:Cx) (scope:Scope) (own bu:List Str) (bB:List Nat):Prop where
 cell:∀y∈scope.names,y.2≠.cell
 kind:scope.kind=.function
 names:∀y∈scope.names,y.2=.local→scope.names.lookup y.1=some .local
 free:∀y∈scope.names,y.2=.free→X.env.scope.names.lookup y.1=some .cell∨X.env.scope.names.lookup y.1=some .free
 Pe:bB.length=bu.length
 Pf:∀(i j:Nat),bB[i]? =some j→X.N[j]? =bu[i]?
 Pg:∀x∈bu,(x,NameKind.free)∈scope.names∧scope.names.lookup x=some .free
def fq (X:Cx) (own bu:List Str) (scope:Scope) (C:Addr) (s₃:Shared) (H₃:Hp) (fp:List Addr):Cx:=
 {X with N:=own++bu,s₀:=s₃,H₀:=H₃,env:=compEnvC scope (fY X.env scope.names []) C X.env,outer:=X.stack,stack:=X.stack,ex:=fp,fn:=fun _=>false,pn:=[],xe:=fun _ _=>False}
def ub (own:List Str) (bB:List Nat) (σ:St):St:=List.replicate own.length none++bB.map fun j=>(σ[j]?).join
section
variable {X:Cx} {pins:List (Addr×Obj)} {σ:List (Option V)} {H:Hp} {s:Shared} {scope:Scope} {own bu:List Str} {bB:List Nat}
theorem aJ.cells (sc:aJ X scope own bu bB) (ok:X.Ok):∀y∈scope.names,y.2=.free→∃c,X.env.cells.lookup y.1=some c:=fun y hy hf=>by
 rcases sc.free y hy hf with z | z
 ·exact ok.has y.1 (.inl z)
 ·exact ok.has y.1 (.inr z)
theorem aJ.look (sc:aJ X scope own bu bB) (ok:X.Ok) {x:Str} {c:Addr} (h:(fY X.env scope.names []).lookup x=some c):X.env.cells.lookup x=some c∧(x,NameKind.free)∈scope.names:=by
 rcases t9 _ _ (kx h) with z | ⟨z1,z2⟩
 ·cases z
 ·obtain⟨c',hc⟩:=sc.cells ok (x,.free) z1 rfl
  have hc':X.env.cells.lookup x=some c':=hc
  rw[hc'] at z2
  have z3:c=c':=z2
  subst z3
  exact⟨hc',z1⟩
theorem aJ.CI (sc:aJ X scope own bu bB) (ok:X.Ok) {x:Str} (h:(x,NameKind.free)∈scope.names):∃c,(fY X.env scope.names []).lookup x=some c∧X.env.cells.lookup x=some c:=by
 obtain⟨c,hc⟩:=ky (ua (env:=X.env) scope.names [] h)
 exact⟨c,hc,(sc.look ok hc).1⟩
theorem Inv.block {fp:List Addr} {h₄:Heap} {tk:Nat} (I:Inv X pins σ H s) (sc:aJ X scope own bu bB) (hfp:∀b∈fp,fX X pins H b) (hfl:∀b∈fp,b<s.heap.objs.size)
  (k:∀b o,s.heap.get? b=some o→h₄.get? b=some o) (hn:h₄.Ns s.heap.objs.size fun _=>none):
  Inv (fq X own bu scope s.heap.objs.size s H fp) [] (ub own bB σ) H {s with heap:=h₄,toks:=tk}:=by
 have ok:=I.ok
 refine⟨⟨ok.mod,by show(relabel scope X.env).kind=_;exact sc.kind,ok.glob,ok.blt,Nat.le_refl _,?_,?_,fun x c h=>(nomatch h),ok.hd,ok.frames,.inl rfl,?_,fun b o e=>I.bs b o e,Nat.le_trans ok.qG I.sz,?_,?_,I.stack,I.vZ⟩,rfl,I.bare,Un.kept k,?_,?_,I.fresh,?_,fun p hp=>(nomatch hp),I.hok.kept k,?_⟩
 ·intro x y c e1 e2
  exact ok.inj x y c (sc.look ok e1).1 (sc.look ok e2).1
 ·intro x h
  have mem:(x,NameKind.free)∈scope.names:=by
   rcases h with h | h
   ·rcases dS h with z | ⟨_,z⟩
    ·exact absurd rfl (sc.cell _ z)
    ·exact z
   ·rcases dS h with z | ⟨z,_⟩
    ·exact z
    ·cases z
  obtain⟨c,hc,_⟩:=sc.CI ok mem
  exact⟨c,hc⟩
 ·intro b hb
  obtain⟨f0,f1,f2,f3,f4,f5⟩:=hfp b hb
  exact⟨Nat.ne_of_lt (hfl b hb),fun x c e=>f4 x c (sc.look ok e).1⟩
 ·intro b o e hb
  rcases(hfp b hb).2.2.2.1 with z | z
  ·exact ok.tf b o e z
  ·exact absurd (Nat.lt_of_lt_of_le (Heap.lt_size e) (Nat.le_trans ok.qG z)) (Nat.lt_irrefl _)
 ·intro b hb hfs
  obtain⟨f0,f1,f2,_⟩:=hfp b hb
  rcases List.mem_cons.mp (I.tu b hfs) with z | z
  ·exact f1 z
  ·exact f2 z
 ·refine⟨_,hn,fun i x v e1 e2 e3=>?_⟩
  have e1':(own++bu)[i]? =some x:=e1
  have e2':(List.replicate own.length none++bB.map fun j=>(σ[j]?).join)[i]? =some (some v):=e2
  by_cases hi:i<own.length
  ·rw[List.getElem?_append_left (by simpa using hi)] at e2'
   rw[List.getElem?_replicate] at e2'
   split at e2'<;>cases e2'
  ·rw[List.getElem?_append_right (by simp;omega),List.length_replicate] at e2'
   rw[List.getElem?_append_right (by omega)] at e1'
   rw[List.getElem?_map] at e2'
   cases ej:bB[i-own.length]? with
   | none=>rw[ej] at e2';cases e2'
   | some j=>
    rw[ej] at e2'
    have xE:(σ[j]?).join=some v:=by simpa using e2'
    have e4:σ[j]? =some (some v):=by
     cases q:σ[j]? with
     | none=>rw[q] at xE;cases xE
     | some o=>rw[q] at xE;simpa using xE
    have e5:=(sc.Pf _ j ej).trans e1'
    obtain⟨hm,hlk⟩:=sc.Pg x (List.mem_of_getElem? e1')
    obtain⟨m,Ts,hl⟩:=I.loc
    have hv:yI X.env.scope x:=by
     rcases sc.free (x,.free) hm rfl with z | z
     ·exact .inr (.inl z)
     ·exact .inr (.inr z)
    obtain⟨u,r,lk⟩:=hl j x v e5 e4 hv
    refine⟨u,r,.inr ?_⟩
    obtain⟨c,hc,hc'⟩:=sc.CI ok hm
    have FG:h₄.IsCell c (some u):=by
     rcases lk with⟨z,_⟩ | ⟨_,c',hx,⟨o,ho,hd⟩⟩
     ·exfalso
      have z':X.env.scope.names.lookup x=some .local:=z
      rcases sc.free (x,.free) hm rfl with q | q
      ·rw[show X.env.scope.names.lookup x=some .cell from q] at z';cases z'
      ·rw[show X.env.scope.names.lookup x=some .free from q] at z';cases z'
     ·rw[hc'] at hx;cases hx
      exact⟨o,k _ o ho,hd⟩
    refine⟨?_,c,hc,FG⟩
    have e3':yI (relabel scope X.env) x:=e3
    rcases e3' with z | z | z
    ·exfalso
     rcases dS z with q | ⟨q,_⟩
     ·have:=sc.names _ q rfl
      rw[show scope.names.lookup x=some .local from this] at hlk
      cases hlk
     ·cases q
    ·exact .inl z
    ·exact .inr z
 ·intro x c e
  obtain⟨v,o,ho,hd⟩:=I.cell x c (sc.look ok e).1
  exact⟨v,o,k _ o ho,hd⟩
 ·intro x c e
  exact I.iq x c (sc.look ok e).1
 ·show(List.replicate own.length none++bB.map fun j=>(σ[j]?).join).length=(own++bu).length
  simp[sc.Pe]
end
theorem kU {prog:Program} {w:World} {A:Around} {R:Result→Shared→Prop} {s:Shared} {elt target iter:Expr} {ifs:List Expr} {scope:Scope} {pos:Pos} {it acc:Value} {env:Env} (I:Nat→Shared→Prop)
  (turn:∀n s,I n s→wpAny (model prog w) A (pyNext it) (fun r s₁=>match r with
   | none=>R (.ok .next) s₁
   | some v=>wpAny (model prog w) A (letOwnedTupleGo target it v) (fun _ s₁'=>wpAny (model prog w) A (assign target env v) (fun _ s₂=>
     wpAny (model prog w) A (forIn ifs true fun c r=>if r=true then do let ok ←isTrue c env (eval c env);pure (ForInStep.yield ok) else pure (ForInStep.yield r)) (fun ok s₃=>
      if ok=true then wpAny (model prog w) A (eval elt env) (fun x s₄=>
       wpAny (model prog w) A (call (.builtin "list.append") [acc,x]) (fun _ s₅=>∃m,m<n∧I m s₅) (fun _ _=>False) s₄) (fun _ _=>False) s₃
      else ∃m,m<n∧I m s₃) (fun _ _=>False) s₂) (fun _ _=>False) s₁') (fun _ _=>False) s₁) (fun _ _=>False) s)
  (n:Nat) (h:I n s):
  codeAny (model prog w) A (.compLoop (.ListComp elt [⟨target,iter,ifs,0⟩] scope pos) 0 it acc env) R s:=by
 refine codeAny_loop rfl I (fun n s hI=>?_) n h
 show wpAny _ A ((compTurn (.ListComp elt [⟨target,iter,ifs,0⟩] scope pos) 0 it acc env).onRaise (fun x=>do noteFrame x env;theTreesLotGoes x)) _ _ s
 refine wpAny_noted ?_
 rw[compTurn_list]
 refine wpAny_bind (wpAny_standAt (wpAny_bind (wpAny_mono (turn n s hI) (fun r s₁ h₁=>?_) fun _ _ h'=>h'.elim)))
 cases r with
 | none=>exact wpAny_pure h₁
 | some v=>
  refine wpAny_bind (wpAny_mono h₁ (fun _ s₁' h₁'=>?_) fun _ _ h'=>h'.elim)
  refine wpAny_bind (wpAny_mono h₁' (fun _ s₂ h₂=>wpAny_bind (wpAny_mono h₂ (fun ok s₃ h₃=>?_) fun _ _ h'=>h'.elim)) fun _ _ h'=>h'.elim)
  cases ok with
  | false=>exact wpAny_pure ⟨rfl,h₃⟩
  | true=>
   exact wpAny_bind (wpAny_bind (wpAny_mono h₃ (fun x s₄ h₄=>wpAny_bind (wpAny_mono h₄ (fun _ s₅ h₅=>wpAny_pure (wpAny_pure ⟨rfl,h₅⟩)) fun _ _ h'=>h'.elim)) fun _ _ h'=>h'.elim))
def qd (X:Cx) (ifs:List Expr) (t:TT):Prop:=
 ∀(pins:List (Addr×Obj)) (s:Shared) (σ:St) (H:Hp) (Q:Bool→Hp→Prop),Inv X pins σ H s→t σ H Q→
  wpAny (model X.prog X.w) X.A (forIn ifs true fun c r=>if r=true then do let ok ←isTrue c X.env (eval c X.env);pure (ForInStep.yield ok) else pure (ForInStep.yield r)) (TP X pins σ Q) X.xe s
def Ji:TT:=fun _ H Q=>Q true H
theorem bM {X:Cx}:qd X [] Ji:=fun _ _ _ H _ I h=>wpAny_tests_nil ⟨H,I,h⟩
theorem gx {X:Cx} {c:Expr} {t:TT} (h:PT X c t):qd X [c] t:=fun pins s σ H Q I hq=>wpAny_tests_one (h pins s σ H Q I hq)
def gg (J:It) (g:TG) (tt:TT) (te:TE) (D:Addr) (σ:St) (H:Hp) (R:Hp→Prop):Prop:=
 ∃W:Nat→Nat→St→Hp→Prop,(∃m,W 0 m σ H)∧∀i m σ H,W i m σ H→(J.stop i H∧R H)∨(J.go i H∧∃N:St→Hp→Prop,(∀σ' H',N σ' H'→∃m',m'<m∧W (i+1) m' σ' H')∧
  ∀x H',J.lI i H x H'→g x σ H' fun σ2 H2=>tt σ2 H2 fun b H3=>if b=true then te σ2 H3 fun y H4=>∃ys,H4 D=some (.lst ys)∧ys.length<sizeLine∧N σ2 (upd H4 D (.lst (ys++[y]))) else N σ2 H3)
section
variable {X:Cx} {scope:Scope} {own bu:List Str} {bB:List Nat} {elt tg iter:Expr} {ifs:List Expr} {pos:Pos} {g:TG} {tt:TT} {te:TE}
theorem pd {pins:List (Addr×Obj)} {σ:St} {H:Hp} {s:Shared} {J:It} {fp:List Addr} {it:Addr} {tn:Nat→Heap→Prop} {R:Addr→Hp→Prop} {RR:Value→Addr→Result→Shared→Prop} {E:Value→Shared→Prop}
  (sc:aJ X scope own bu bB) (hc:X.calm=true)
  (hg:∀C s₃ H₃ fp,PG (fq X own bu scope C s₃ H₃ fp) tg g) (ht:∀C s₃ H₃ fp,qd (fq X own bu scope C s₃ H₃ fp) ifs tt) (he:∀C s₃ H₃ fp,PE (fq X own bu scope C s₃ H₃ fp) elt te)
  (I:Inv X pins σ H s) (T:Turn X.prog X.w X.K tg J fp it tn) (st:tn 0 s.heap) (hfp:∀b∈fp,fX X pins H b)
  (h:∀D,H D=none→gg J g tt te D (ub own bB σ) (upd H D (.lst [])) (R D))
  (hRR:∀D C H' s' m,Inv X pins σ H' s'→s.heap.objs.size≤C→s'.heap.Ns C m→H' C=none→R D H'→RR (.ref D) C (.ok .next) s'):
  wpAny (model X.prog X.w) X.A (newList []) (fun acc s₃=>wpAny (model X.prog X.w) X.A (newFunctionEnv scope X.env.globals (fY X.env scope.names []) [] X.env.qual none .none (some X.env)) (fun cenv s₄=>
   codeAny (model X.prog X.w) X.A (.compStart (.ListComp elt [⟨tg,iter,ifs,0⟩] scope pos) 0 (.ref it) acc {cenv with scope:=relabel scope X.env}) (RR acc cenv.locals) s₄) E s₃) E s:=by
 refine wpAny_newObj_type (wpAny_newFunctionEnv sc.cell (by intro y hy;simp at hy) (fun h₁ hns₁ hsb₁=>?_) sc.kind)
 dsimp only at hns₁ hsb₁ ⊢
 have hD:=I.fresh
 have I3:Inv X pins σ (upd H s.heap.objs.size (.lst [])) {s with heap:=s.heap.push {cls:=.type "list",dict:=none,data:=.seq ([]:List Value).toArray}}:=I.Bp (its:=[]) (t':=s.toks) .nil (Nat.zero_le _)
 have hsz:(s.heap.push {cls:=.type "list",dict:=none,data:=.seq ([]:List Value).toArray}).objs.size=s.heap.objs.size+1:=Heap.size_push ..
 generalize hs3:({s with heap:=s.heap.push {cls:=.type "list",dict:=none,data:=.seq ([]:List Value).toArray}}:Shared)=s₃ at I3
 have hh3:s.heap.push {cls:=.type "list",dict:=none,data:=.seq ([]:List Value).toArray}=s₃.heap:=by rw[←hs3]
 rw[hh3] at hns₁ hsb₁ hsz ⊢
 have hfl:∀b∈fp,b<s.heap.objs.size:=fun b hb=>by
  obtain⟨o,e,_⟩:=T.obj 0 _ st b hb
  exact Heap.lt_size e
 have Bu:∀b∈fp,fX X pins (upd H s.heap.objs.size (.lst [])) b:=fun b hb=>by
  obtain⟨f0,f⟩:=hfp b hb
  exact⟨by rw[ao (Nat.ne_of_lt (hfl b hb))];exact f0,f⟩
 have L3:∀b∈fp,b<s₃.heap.objs.size:=fun b hb=>by rw[hsz];exact Nat.lt_succ_of_lt (hfl b hb)
 have k4:∀b o,s₃.heap.get? b=some o→h₁.get? b=some o:=fun b o e=>(hsb₁.2 b (Nat.ne_of_lt (Heap.lt_size e))).trans (Heap.get?_push_of_some _ e)
 have k3:∀b o,s.heap.get? b=some o→s₃.heap.get? b=some o:=fun b o e=>by rw[←hh3];exact Heap.get?_push_of_some _ e
 have hnone:(fun x:Str=>List.lookup x ([]:List (Str×Value)).reverse)=fun _=>none:=by funext x;rfl
 have Jj:h₁.Ns s₃.heap.objs.size fun _=>none:=by
  have q:=hns₁
  first
   | exact q
   | (rw[hnone] at q;exact q)
 have I4:=I3.block (own:=own) (tk:=s.toks+([]:List (Str×Value)).length) sc Bu L3 k4 Jj
 have JW:tn 0 h₁:=T.keep _ _ _ st fun b hb o e=>k4 b o (k3 b o e)
 generalize hX:fq X own bu scope s₃.heap.objs.size s₃ (upd H s.heap.objs.size (.lst [])) fp=X' at I4
 have JX:X'.prog=X.prog:=by rw[←hX];rfl
 have JY:X'.w=X.w:=by rw[←hX];rfl
 have Ph:X'.K=X.K:=by rw[←hX];rfl
 have Pj:X'.A=X.A:=by rw[←hX];rfl
 have JZ:X'.calm=true:=by rw[←hX];exact hc
 have Pk:X'.xe=fun _ _=>False:=by rw[←hX];rfl
 have Pl:X'.env=compEnvC scope (fY X.env scope.names []) s₃.heap.objs.size X.env:=by rw[←hX];rfl
 have hg':PG X' tg g:=by rw[←hX];exact hg _ _ _ _
 have ht':qd X' ifs tt:=by rw[←hX];exact ht _ _ _ _
 have he':PE X' elt te:=by rw[←hX];exact he _ _ _ _
 have Pm:∀{H':Hp} {s':Shared} {σ':St},Inv X' [] σ' H' s'→Inv X pins σ H' s'∧(∃m,s'.heap.Ns s₃.heap.objs.size m)∧H' s₃.heap.objs.size=none:=by
  intro H' s' σ' I'
  subst hX
  refine⟨I3.call' (ch:=fp) I'.os I'.base I'.hok I'.bare fun b hb=>?_,let ⟨m,hn,_⟩:=I'.loc;⟨m,hn⟩,I'.free⟩
  obtain⟨f0,f1,f2,f3,f4,f5⟩:=Bu b hb
  exact⟨f3,f1,f4,f5⟩
 have stat:∀{H':Hp},(∀b∈fp,H' b=none)→∀b∈fp,fX X' [] H' b:=by
  intro H' hn b hb
  subst hX
  obtain⟨a1,a2⟩:=I4.ok.E2 b hb
  exact⟨hn b hb,a1,I4.ok.tj b hb,.inl hb,a2,fun p hp=>by cases hp⟩
 obtain⟨W,⟨m0,w0⟩,turn⟩:=h s.heap.objs.size hD
 have loop:codeAny (model X.prog X.w) X.A (.compLoop (.ListComp elt [⟨tg,iter,ifs,0⟩] scope pos) 0 (.ref it) (.ref s.heap.objs.size) X'.env) (RR (.ref s.heap.objs.size) s₃.heap.objs.size)
   {s₃ with heap:=h₁,toks:=s.toks+([]:List (Str×Value)).length}:=by
  refine kU (fun n s'=>∃i σ' H',Inv X' [] σ' H' s'∧tn i s'.heap∧(∀b∈fp,H' b=none)∧W i n σ' H') ?_ m0 ⟨0,_,_,I4,JW,fun b hb=>(Bu b hb).1,w0⟩
  rintro n s5 ⟨i,σ5,H5,I5,wd,CA,w5⟩
  rw[←JX,←JY,←Pj]
  have CJ:∀{α:Type} {t:Sem α} {Q:α→Shared→Prop} {s:Shared},wpAny (model X'.prog X'.w) X'.A t Q X'.xe s→wpAny (model X'.prog X'.w) X'.A t Q (fun _ _=>False) s:=fun h=>by rw[Pk] at h;exact h
  have T':Turn X'.prog X'.w X'.K tg J fp it tn:=by rw[JX,JY,Ph];exact T
  rcases turn i n σ5 H5 w5 with⟨stop,q⟩ | ⟨go,N,hN,step⟩
  ·refine aN (T'.done X' rfl rfl rfl JZ i [] s5 σ5 H5 _ I5 (stat CA) wd stop) fun r s6 ⟨hr,I6⟩=>?_
   subst hr
   obtain⟨J1,⟨m,J2⟩,J3⟩:=Pm I6
   exact hRR _ _ H5 s6 m J1 (by rw[hsz];exact Nat.le_succ _) J2 J3 q
  ·refine aN (T'.item X' rfl rfl rfl JZ i [] s5 σ5 H5 _ I5 (stat CA) wd go) fun r s6 ⟨u,hr,h6⟩=>?_
   subst hr
   refine aN h6 fun _ s7 ⟨x,H7,I7,r7,y7,FH,Pn⟩=>?_
   have Po:=I7.pinned (stat Pn) (T'.obj _ _ FH)
   have again:∀{s9:Shared} {σ9:St} {H9:Hp},Inv X' ([]++my fp s7.heap) σ9 H9 s9→N σ9 H9→∃m,m<n∧∃i σ' H',Inv X' [] σ' H' s9∧tn i s9.heap∧(∀b∈fp,H' b=none)∧W i m σ' H':=fun {s9 σ9 H9} I9 n9=>by
    obtain⟨m',hm,w9⟩:=hN σ9 H9 n9
    refine⟨m',hm,i+1,σ9,H9,I9.kP,T'.keep _ _ _ FH fun b hb o e=>(I9.pin (b,o) (List.mem_append_right _ (List.mem_append_right _ (i5 hb e)))).1,fun b hb=>?_,w9⟩
    obtain⟨o,e,d⟩:=T'.obj _ _ FH b hb
    exact(I9.pin (b,o) (List.mem_append_right _ (List.mem_append_right _ (i5 hb e)))).2.1
   refine aN (CJ (hg' _ s7 σ5 H7 x u _ Po r7 (step x H7 y7))) fun _ s8 ⟨σ8,H8,I8,q8⟩=>?_
   refine aN (CJ (ht' _ s8 σ8 H8 _ I8 q8)) fun b s9 ⟨H9,I9,q9⟩=>?_
   cases b with
   | false=>exact again I9 (by simpa using q9)
   | true=>
    rw[if_pos rfl] at q9
    refine aN (CJ (he' _ s9 σ8 H9 _ I9 q9)) fun y iY ⟨v,lJ,Pp,r10,Pq⟩=>?_
    obtain⟨ys,e10,z10,n10⟩:=Pq
    refine aN (CJ (bz _ iY σ8 lJ (.ref s.heap.objs.size) [v] (.ref s.heap.objs.size) [y] (fun _ H'=>H'=upd lJ s.heap.objs.size (.lst (ys++[v]))) Pp rfl (.cons r10 .nil) ⟨_,ys,v,rfl,rfl,e10,z10,rfl⟩)) fun u iZ ⟨v',wC,Pr,_,FI⟩=>?_
    subst FI
    exact again Pr n10
 rw[Pl] at loop
 have e4:({s with heap:=h₁,toks:=s.toks+([]:List (Str×Value)).length}:Shared)={s₃ with heap:=h₁,toks:=s.toks+([]:List (Str×Value)).length}:=by rw[←hs3]
 rw[e4]
 exact codeAny_compStart_list loop (T.self _ 0 _ _ _ JW loop)
end
def CK (own:List Str) (bB:List Nat) (wi:TI) (g:TG) (tt:TT) (te:TE):TE:=fun σ H Q=>wi σ H fun J H1=>∀D,H1 D=none→gg J g tt te D (ub own bB σ) (upd H1 D (.lst [])) fun H'=>Q (.ref D) H'
section
variable {X:Cx} {scope:Scope} {own bu:List Str} {bB:List Nat} {elt tg iter:Expr} {ifs:List Expr} {pos:Pos} {wi:TI} {g:TG} {tt:TT} {te:TE}
theorem cg (sc:aJ X scope own bu bB) (hc:X.calm=true) (hi:PI X tg iter wi)
  (hg:∀C s₃ H₃ fp,PG (fq X own bu scope C s₃ H₃ fp) tg g) (ht:∀C s₃ H₃ fp,qd (fq X own bu scope C s₃ H₃ fp) ifs tt) (he:∀C s₃ H₃ fp,PE (fq X own bu scope C s₃ H₃ fp) elt te)
  (hs:∀x,foldedSetIterable iter X.env x=pure x:=by intro _;rfl):PE X (.ListComp elt [⟨tg,iter,ifs,0⟩] scope pos) (CK own bB wi g tt te):=by
 intro pins s σ H Q I h
 rw[eval_ListComp]
 refine wpAny_comprehension_free (use:=none) rfl hs (jQ (sc.cells I.ok)) sc.kind sc.names (aN (hi pins s σ H _ I h) fun v s1 h1=>aN h1 fun itv s2 h2=>?_)
 obtain⟨it,fp,tn,J,H2,e,I2,T,st2,f2,q⟩:=h2
 subst e
 refine pd (RR:=fun acc C=>compPost (model X.prog X.w) X.A X.xe none (EP X pins σ Q) acc C) (R:=fun D H'=>Q (.ref D) H') sc hc hg ht he I2 T st2 f2 q ?_
 intro D C H' s' m I' hC hn hf hq
 refine⟨m,hn,fun h' sb=>?_⟩
 obtain⟨f0,f1,f2,f3,f4,f5⟩:=I2.gv (H':=H') hC hf
 exact⟨.ref D,H',I'.turned (t':=s'.toks) (it:=C) (fun b o hb e=>(sb.2 b hb).trans e) f0 f1 f3 f4 f5,rfl,hq⟩
theorem dU {i:Nat} {y:Str} {py spos:Pos} (sc:aJ X scope own bu bB) (hc:X.calm=true) (hi:PI X tg iter wi)
  (hg:∀C s₃ H₃ fp,PG (fq X own bu scope C s₃ H₃ fp) tg g) (ht:∀C s₃ H₃ fp,qd (fq X own bu scope C s₃ H₃ fp) ifs tt) (he:∀C s₃ H₃ fp,PE (fq X own bu scope C s₃ H₃ fp) elt te)
  (hN:X.N.Nodup) (hi':X.N[i]? =some y) (hx:X.env.scope.names.lookup y=some .local)
  (hsw:swapsWith (.ListComp elt [⟨tg,iter,ifs,0⟩] scope pos) (some (.Name y py)) spos.line X.env=pure true:=by rfl)
  (hs:∀x,foldedSetIterable iter X.env x=pure x:=by intro _;rfl):PS X (.Assign [.Name y py] (.ListComp elt [⟨tg,iter,ifs,0⟩] scope pos) spos) (ou (CK own bB wi g tt te) (aH i)):=by
 intro pins s σ H D I h
 rw[exec_Assign_Name_used _ _ _ _ hsw]
 refine wpAny_bind (wpAny_standAt (wpAny_bind ?_))
 show wpAny _ X.A (do let _ ←comprehension (.ListComp elt [⟨tg,iter,ifs,0⟩] scope pos) scope X.env _ (newList []) false (eval iter X.env) (some (assign (.Name y py) X.env))) _ _ s
 refine wpAny_bind (wpAny_mono (wpAny_comprehension_free (use:=some (assign (.Name y py) X.env)) (Q:=fun _ s'=>SP X pins D .next s') rfl hs (jQ (sc.cells I.ok)) sc.kind sc.names
  (aN (hi pins s σ H _ I h) fun v s1 h1=>aN h1 fun itv s2 h2=>?_)) (fun _ s' hq=>wpAny_pure (wpAny_pure hq)) fun _ _ e=>e)
 obtain⟨it,fp,tn,J,H2,e,I2,T,st2,f2,q⟩:=h2
 subst e
 refine pd (RR:=fun acc C=>compPost (model X.prog X.w) X.A X.xe (some (assign (.Name y py) X.env)) (fun _ s'=>SP X pins D .next s') acc C) (R:=fun E H'=>D.nx (σ.set i (some (.ref E))) H') sc hc hg ht he I2 T st2 f2 q ?_
 intro E C H' s' m I' hC hn hf hq
 show wpAny _ X.A (assign (.Name y py) X.env (.ref E)) _ _ _
 obtain⟨f0,f1,f2,f3,f4,f5⟩:=I2.gv (H':=H') hC hf
 refine wpAny_assign_Name (qH I' hN hi' (.inl hx) (v:=.ref E) (u:=.ref E) rfl (fun s3 I3 ⟨a,sb,ha⟩=>?_) (.inr hx))
 have Pt:C≠a:=by
  rcases ha with z | z
  ·rw[z];exact f1
  ·exact(f4 y a z).symm
 refine⟨m,hn.sameBut sb Pt,fun h' Pu=>?_⟩
 exact⟨_,H',I3.turned (t':=s3.toks) (it:=C) (fun b o hb e=>(Pu.2 b hb).trans e) f0 f1 f3 f4 f5,hq⟩
end
theorem fJ {lo:Int} {n:Nat} {g:TG} {tt:TT} {te:TE} {D:Addr} {σ:St} {H:Hp} {R:Hp→Prop} (Pv:Nat→St→Hp→Prop) (h0:Pv 0 σ H)
  (hs:∀i σ H,i<n→Pv i σ H→g (.int (lo+i)) σ H fun σ2 H2=>tt σ2 H2 fun b H3=>if b=true then te σ2 H3 fun y H4=>∃ys,H4 D=some (.lst ys)∧ys.length<sizeLine∧Pv (i+1) σ2 (upd H4 D (.lst (ys++[y]))) else Pv (i+1) σ2 H3)
  (hd:∀σ H,Pv n σ H→R H):gg (qJ lo n) g tt te D σ H R:=by
 refine⟨fun i m σ H=>m=n-i∧i≤n∧Pv i σ H,⟨n,by simp,Nat.zero_le _,h0⟩,?_⟩
 rintro i m σ H ⟨rfl,hi,p⟩
 by_cases hlt:i<n
 ·refine .inr ⟨hlt,Pv (i+1),fun σ' H' p'=>⟨n-(i+1),by omega,rfl,hlt,p'⟩,fun x H' y=>?_⟩
  obtain⟨e,y⟩:=y
  subst e y
  exact hs i σ _ hlt p
 ·have e:i=n:=by omega
  subst e
  exact .inl ⟨Nat.le_refl _,hd σ H p⟩
theorem ft {K:PySem.W.Frag} {a:Addr} {xs:List V} {g:TG} {tt:TT} {te:TE} {D:Addr} {σ:St} {H:Hp} {R:Hp→Prop} (Pv:Nat→St→Hp→Prop) (h0:Pv 0 σ H) (hl:∀i σ H,i≤xs.length→Pv i σ H→bp K H a xs)
  (hs:∀i x σ H,xs[i]? =some x→Pv i σ H→g x σ H fun σ2 H2=>tt σ2 H2 fun b H3=>if b=true then te σ2 H3 fun y H4=>∃ys,H4 D=some (.lst ys)∧ys.length<sizeLine∧Pv (i+1) σ2 (upd H4 D (.lst (ys++[y]))) else Pv (i+1) σ2 H3)
  (hd:∀σ H,Pv xs.length σ H→R H):gg (tL K a) g tt te D σ H R:=by
 refine⟨fun i m σ H=>m=xs.length-i∧i≤xs.length∧Pv i σ H,⟨xs.length,by simp,Nat.zero_le _,h0⟩,?_⟩
 rintro i m σ H ⟨rfl,hi,p⟩
 have q:=hl i σ H hi p
 by_cases hlt:i<xs.length
 ·refine .inr ⟨⟨xs,xs[i],q,by simp[hlt]⟩,Pv (i+1),fun σ' H' p'=>⟨xs.length-(i+1),by omega,rfl,hlt,p'⟩,fun x H' y=>?_⟩
  obtain⟨e,y⟩:=y
  subst e
  exact hs i x σ _ (y xs q) p
 ·have e:i=xs.length:=by omega
  subst e
  exact .inl ⟨⟨xs,q,Nat.le_refl _⟩,hd σ H p⟩
theorem jl {K:PySem.W.Frag} {a:Addr} {xs:List V} {g:TG} {tt:TT} {te:TE} {D:Addr} {σ:St} {H:Hp} {R:Hp→Prop} (Pv:Nat→St→Hp→Prop) (h0:Pv 0 σ H) (hl:∀i σ H,i≤xs.length→Pv i σ H→bo K H a xs)
  (hs:∀i x σ H,xs[i]? =some x→Pv i σ H→g x σ H fun σ2 H2=>tt σ2 H2 fun b H3=>if b=true then te σ2 H3 fun y H4=>∃ys,H4 D=some (.lst ys)∧ys.length<sizeLine∧Pv (i+1) σ2 (upd H4 D (.lst (ys++[y]))) else Pv (i+1) σ2 H3)
  (hd:∀σ H,Pv xs.length σ H→R H):gg (wc K a) g tt te D σ H R:=by
 refine⟨fun i m σ H=>m=xs.length-i∧i≤xs.length∧Pv i σ H,⟨xs.length,by simp,Nat.zero_le _,h0⟩,?_⟩
 rintro i m σ H ⟨rfl,hi,p⟩
 have q:=hl i σ H hi p
 by_cases hlt:i<xs.length
 ·refine .inr ⟨⟨xs,xs[i],q,by simp[hlt]⟩,Pv (i+1),fun σ' H' p'=>⟨xs.length-(i+1),by omega,rfl,hlt,p'⟩,fun x H' y=>?_⟩
  obtain⟨e,y⟩:=y
  subst e
  exact hs i x σ _ (y xs q) p
 ·have e:i=xs.length:=by omega
  subst e
  exact .inl ⟨⟨xs,q,Nat.le_refl _⟩,hd σ H p⟩
section
variable {X:Cx}
def Jk (i j:Int):Prop:=0<j∧j.natAbs.log2<9000
theorem kW:cY X (binaryOp .FloorDiv) (rI Jk fun i j=>.int (i / j)):=yM fun i j _ _ _ _ _ hc q=>by
 obtain⟨h0,h1⟩:=hc
 refine floordiv_int (by omega) ?_ (.inl (PyProof.noPylong_of_log2 h1))
 rw[Int.fdiv_eq_ediv_of_nonneg _ (by omega)]
 exact q
theorem zc (hc:X.calm=true):cQ X (.builtin "sum") (fun xs H Q=>∃(a:Addr) (ns:List Int),xs=[.ref a]∧bp X.K H a (ns.map V.int)∧Q (.int ns.sum) H):=by
 intro pins s σ H xs us Q I r h
 obtain⟨a,ns,rfl,hq,q⟩:=h
 obtain⟨u,rfl,ru⟩:=vals1 r
 cases ru
 obtain⟨its,rv,p,_⟩:=I.list hq
 have hi:IntsAre its ns:=intsAre_of rv
 have all:=hi.allInts
 obtain⟨ys,hy⟩:=all.items
 have e:(numsOf its.toArray.toList).sum=ns.sum:=by rw[show its.toArray.toList=its from rfl,hi.numsOf]
 have hl:=p.isList
 rw[hy] at hl e
 rw[nums_intItems] at e
 refine sum_intListG (I.ok.hd hc) hl fun h' tk t' k=>⟨.int (preSum (numAt ys) ys.size),H,I.kept k,⟨t',rfl⟩,?_⟩
 rw[preSum_eq,List.take_of_length_le (by simp)]
 first
  | (rw[e];exact q)
  | (simp only[e];exact q)
theorem vE:cQ X (.builtin "isinstance") (fun xs H Q=>∃(x:V) (t:Value) (T:String) (b:Bool),xs=[x,.ty T]∧fk X.K H x t∧PySem.W.kitOne X.K t (.type T)=some b∧Q (.bl b) H):=by
 intro pins s σ H xs us Q I r h
 obtain⟨x,t,T,b,rfl,ty,e,q⟩:=h
 obtain⟨u,w',rfl,rx,rT⟩:=vals2 r
 cases(show w'=Value.type T from rT)
 exact yR I rx ty e fun tk=>⟨.bl b,H,I.tok tk,rfl,q⟩
theorem FJ {K:PySem.W.Frag}:PySem.W.kitOne K (.type "int") (.type "int")=some true:=by rfl
theorem FK {K:PySem.W.Frag}:PySem.W.kitOne K (.type "int") (.type "bool")=some false:=by rfl
theorem FL {K:PySem.W.Frag}:PySem.W.kitOne K (.type "list") (.type "list")=some true:=by rfl
theorem FN {K:PySem.W.Frag}:PySem.W.kitOne K (.type "tuple") (.type "tuple")=some true:=by rfl
theorem wD:cY X (binaryOp .Add) (fun x y H Q=>∃(a b:Addr) (ys:List V),x=.ref a∧y=.ref b∧bo X.K H a []∧bo X.K H b ys∧Q (.ref b) H):=by
 intro pins s σ H x y v u Q I rx ry h
 obtain⟨a,b,ys,rfl,rfl,ha,hb,q⟩:=h
 cases rx
 cases ry
 obtain⟨its,r1,p1,_⟩:=I.tuple ha
 obtain⟨its2,r2,p2,_⟩:=I.tuple hb
 cases r1
 obtain⟨⟨cls,dd,data,sl⟩,ho,hc,n,hd⟩:=id p1
 obtain⟨⟨cls2,dd2,data2,sl2⟩,ho2,hc2,n2,hd2⟩:=id p2
 simp only at hc hd hc2 hd2
 subst hc hd hc2 hd2
 exact concat_meets ⟨_,ho,rfl⟩ ⟨_,ho2,rfl⟩ noFill_tuple_add seq_tuple_add PySem.F.slot_tuple_add PySem.F.entry_tuple_add (PySem.F.args_tuple_add_2 _ _)
  (tuple_addW0 a b #[] its2.toArray n n2 dd dd2 sl sl2 rfl) ⟨ho,ho2,⟨.ref b,H,I,rfl,q⟩⟩
def CL (K:PySem.W.Frag):R2:=fun x y H Q=>∃(a b:Addr) (xs ys:List V),x=.ref a∧y=.ref b∧bo K H a xs∧bo K H b ys∧ys≠[]∧xs.length+ys.length≤sizeLine∧
 (xs=[]→Q (.ref b) H)∧(xs≠[]→∀p,H p=none→Q (.ref p) (upd H p (.tup (xs++ys))))
theorem D':cY X (binaryOp .Add) (CL X.K):=by
 intro pins s σ H x y v u Q I rx ry h
 obtain⟨a,b,xs,ys,rfl,rfl,ha,hb,hy,hz,q1,q2⟩:=h
 by_cases hx:xs=[]
 ·subst hx
  exact wD pins s σ H _ _ v u Q I rx ry ⟨a,b,ys,rfl,rfl,ha,hb,q1 rfl⟩
 ·exact wu pins s σ H _ _ v u Q I rx ry ⟨a,b,xs,ys,rfl,rfl,ha,hb,hx,hz,fun z=>absurd z hy,fun _=>q2 hx⟩
end
def qV (scope esc:Scope) (N own bu:List Str) (bB:List Nat):Bool:=
 scope.names.all (fun y=>y.2 != .cell)&&scope.kind == .function&&scope.names.all (fun y=>y.2 != .local||scope.names.lookup y.1 == some .local)
 &&scope.names.all (fun y=>y.2 != .free||(esc.names.lookup y.1 == some .cell||esc.names.lookup y.1 == some .free))
 &&bB.length == bu.length&&(List.range bB.length).all (fun i=>(bB[i]?).bind (fun j=>N[j]?) == bu[i]?)
 &&bu.all (fun x=>scope.names.contains (x,NameKind.free)&&scope.names.lookup x == some .free)
theorem aJ.mk' {X:Cx} {scope esc:Scope} {N own bu:List Str} {bB:List Nat} (hs:X.env.scope=esc) (hN:X.N=N) (h:qV scope esc N own bu bB=true):aJ X scope own bu bB:=by
 unfold qV at h
 simp only[Bool.and_eq_true,List.all_eq_true,bne_iff_ne,beq_iff_eq,Bool.or_eq_true,List.contains_iff_mem] at h
 obtain⟨⟨⟨⟨⟨⟨h1,h2⟩,h3⟩,h4⟩,h5⟩,h6⟩,h7⟩:=h
 refine⟨h1,h2,fun y hy hl=>?_,fun y hy hf=>?_,h5,fun i j e=>?_,fun x hx=>h7 x hx⟩
 ·rcases h3 y hy with z | z
  ·exact absurd hl z
  ·exact z
 ·rw[hs]
  rcases h4 y hy with z | z
  ·exact absurd hf z
  ·exact z
 ·have hi:i<bB.length:=(List.getElem?_eq_some_iff.mp e).1
  have q:=h6 i (List.mem_range.mpr hi)
  rw[e] at q
  rw[hN]
  exact q
def KB (d:Addr) (H H':Hp):Prop:=∀b o,H b=some o→b≠d→H' b=some o
theorem KB.refl (d:Addr) (H:Hp):KB d H H:=fun _ _ h _=>h
theorem KB.trans {d:Addr} {H H1 H2:Hp} (a:KB d H H1) (b:KB d H1 H2):KB d H H2:=fun c o h n=>b c o (a c o h n) n
theorem KB.write {d:Addr} {H:Hp} {o:HO}:KB d H (upd H d o):=fun b o h n=>by rw[ao n];exact h
theorem Same.kb {d:Addr} {H H':Hp} (s:Same H H'):KB d H H':=fun b o h _=>s b o h
theorem Same.new {H:Hp} {p:Addr} {o:HO} (h:H p=none):Same H (upd H p o):=fun b u e=>by rw[ao (ay e h)];exact e
theorem Same.kbn {d:Addr} {H H1 H2:Hp} (s:Same H H1) (h:H d=none) (k:KB d H1 H2):Same H H2:=fun b o e=>k b o (s b o e) (ay e h)
theorem Same.FO {K:PySem.W.Frag} {H H':Hp} {a:Addr} {xs:List V} (e:Same H H') (h:bo K H a xs):bo K H' a xs:=by
 rcases h with(h | ⟨o,h⟩) | h
 ·exact .inl (.inl (e _ _ h))
 ·exact .inl (.inr ⟨o,e _ _ h⟩)
 ·exact .inr h
def cH (H H':Hp):Prop:=∀b xs,H b=some (.tup xs)→H' b=some (.tup xs)
theorem cH.trans {H H1 H2:Hp} (a:cH H H1) (b:cH H1 H2):cH H H2:=fun c o h=>b c o (a c o h)
theorem Same.kt {H H':Hp} (s:Same H H'):cH H H':=fun b xs h=>s b _ h
theorem cH.lst {H:Hp} {d:Addr} {xs:List V} {o:HO} (h:H d=some (.lst xs)):cH H (upd H d o):=fun b ys e=>by
 rw[ao (bF e h (fun z=>nomatch z))];exact e
theorem cH.kb {d:Addr} {xs:List V} {H H':Hp} (h:H d=some (.lst xs)) (k:KB d H H'):cH H H':=fun b ys e=>k b _ e (bF e h (fun z=>nomatch z))
def bD (H:Hp) (ps:List Addr) (ls:List (List Int)):Prop:=Paired (fun p (l:List Int)=>H p=some (.tup (l.map V.int))) ps ls
theorem bD.keep {H H':Hp} {ps:List Addr} {ls:List (List Int)} (t:bD H ps ls) (k:cH H H'):bD H' ps ls:=Paired.xp t fun _ _ h=>k _ _ h
theorem bD.get {H:Hp}:∀{ps:List Addr} {ls:List (List Int)} {i:Nat} {p:Addr},bD H ps ls→ps[i]? =some p→∃l,ls[i]? =some l∧H p=some (.tup (l.map V.int))
 | _,_,_,_,.nil,e=>by simp at e
 | _,_,0,_,.cons r _,e=>by simp at e;subst e;exact⟨_,rfl,r⟩
 | _,_,i+1,p,.cons _ t,e=>by
  obtain⟨u,h1,h2⟩:=bD.get (i:=i) (p:=p) t (by simpa using e)
  exact⟨u,by simpa using h1,h2⟩
theorem dk {α β:Type} {F:α→β→Prop}:∀{xs ys:List α} {us ws:List β},Paired F xs us→Paired F ys ws→Paired F (xs++ys) (us++ws)
 | _,_,_,_,.nil,s=>s
 | _,_,_,_,.cons r t,s=>.cons r (dk t s)
end L2
namespace L2
open PySem
theorem bP:bootBuiltins "len"=some (.builtin "len"):=by decide+kernel
theorem FP:bootBuiltins "abs"=some (.builtin "abs"):=by decide+kernel
theorem pe:bootBuiltins "sum"=some (.builtin "sum"):=by decide+kernel
theorem FQ:bootBuiltins "min"=some (.builtin "min"):=by decide+kernel
theorem zf:bootBuiltins "max"=some (.builtin "max"):=by decide+kernel
theorem gi:bootBuiltins "isinstance"=some (.builtin "isinstance"):=by decide+kernel
theorem qW:bootBuiltins "sorted"=some (.builtin "sorted"):=by decide+kernel
theorem pf:bootBuiltins "any"=some (.builtin "any"):=by decide+kernel
theorem kz:bootBuiltins "list"=some (.type "list"):=by decide+kernel
theorem eV:bootBuiltins "tuple"=some (.type "tuple"):=by decide+kernel
theorem uc:bootBuiltins "int"=some (.type "int"):=by decide+kernel
theorem Ea:bootBuiltins "bool"=some (.type "bool"):=by decide+kernel
theorem Eb:bootBuiltins "dict"=some (.type "dict"):=by decide+kernel
theorem vF:bootBuiltins "reversed"=some (.type "reversed"):=by decide+kernel
end L2
namespace L2
open PySem PySem.Spec PyProof.Rows
def L4 (K:PySem.W.Frag):List V→Hp→VK→Prop:=fun xs H Q=>∃x n,xs=[x]∧Fj K x H n∧Q (.int n) H
def L5 (K:PySem.W.Frag):List V→Hp→VK→Prop:=fun xs H Q=>∃(a:Addr) (ns:List Int),xs=[.ref a]∧bp K H a (ns.map V.int)∧Q (.int ns.sum) H
def L6 (K:PySem.W.Frag):List V→Hp→VK→Prop:=fun xs H Q=>∃(x:V) (t:Value) (T:String) (b:Bool),xs=[x,.ty T]∧fk K H x t∧PySem.W.kitOne K t (.type T)=some b∧Q (.bl b) H
section
variable {X:Cx}
theorem aW (K:PySem.W.Frag) (hK:X.K=K:=by rfl):cQ X (.builtin "len") (L4 K):=by subst hK;exact Bk
theorem jR (K:PySem.W.Frag) (hc:X.calm=true:=by rfl) (hK:X.K=K:=by rfl):cQ X (.builtin "sum") (L5 K):=by subst hK;exact zc hc
theorem jS (K:PySem.W.Frag) (hK:X.K=K:=by rfl):cQ X (.builtin "isinstance") (L6 K):=by subst hK;exact vE
theorem aM (K:PySem.W.Frag) (hK:X.K=K:=by rfl):tP X (Bn K):=by subst hK;exact D1
theorem aP (K:PySem.W.Frag) (hK:X.K=K:=by rfl):tP X (Bo K):=by subst hK;exact Fq
theorem eB (K:PySem.W.Frag) (hK:X.K=K:=by rfl):wt X (Ft K):=by subst hK;exact D2
theorem Bv (K:PySem.W.Frag) (hK:X.K=K:=by rfl):cY X (binaryOp .Add) (CL K):=by subst hK;exact D'
theorem zg (K:PySem.W.Frag) (hK:X.K=K:=by rfl):cY X (compareOp .In) (JS K false):=by subst hK;exact yY
def FR (_ j:Int):Prop:=0<j
theorem cpos {i j:Int} (h:0<j):FR i j:=h
theorem ja:cY X (binaryOp .Mod) (rI FR fun i j=>.int (i % j)):=mz
end
end L2
namespace L2
theorem Bw {t u:TS} {D:Ends} {σ:St} {H:Hp} (Pv:St→Hp→Prop) (h1:∀σ H,Pv σ H→u D σ H) (h2:(∀σ H,Pv σ H→u D σ H)→t {D with nx:=u D} σ H):tJ t u D σ H:=h2 h1
end L2
namespace L2
open PySem PySem.Spec PyProof.Rows
def zh (K:PySem.W.Frag) (a:Addr) (n:Nat):It:=
 ⟨fun i H=>i<n∧∃xs,bp K H a xs∧xs.length=n,fun i H x H'=>H'=H∧∀xs,bp K H a xs→xs[n-1-i]? =some x,fun i H=>i=n⟩
theorem Bx {P:Program} {w:World} {K:PySem.W.Frag} {tg:Expr} (a it:Addr) (n:Nat):Turn P w K tg (zh K a n) [it] it (fun i h=>i≤n∧h.IsRevIter it a ((n:Int)-1-(i:Int))) where
 mem:=by simp
 obj:=fun i h st b hb=>by
  have e:b=it:=by simpa using hb
  subst e
  obtain⟨_,o,e,c,d⟩:=st
  exact⟨o,e,fun v z=>by rw[d] at z;cases z⟩
 keep:=fun i h h' st k=>⟨st.1,st.2.at fun o e=>k it (by simp) o e⟩
 item:=by
  intro X hP hw hK hc i pins s σ H E I hf st hg
  subst hP hw hK
  obtain⟨hi,xs,hq,hl⟩:=hg
  obtain⟨its,rv,p,hz⟩:=I.list hq
  have hx:xs[n-1-i]? =some (xs[n-1-i]'(by omega)):=List.getElem?_eq_getElem (by omega)
  obtain⟨u,hu,ru⟩:=rv.get hx
  obtain⟨f0,f1,f2,f3,f4,f5⟩:=hf it (by simp)
  have e:(n:Int)-1-(i:Int)=((n-1-i:Nat):Int):=by omega
  have hit:=st.2
  rw[e] at hit
  refine wpAny_pyNext_rev_item hit p.isList (x:=u) (by simpa using hu) fun h' st' sb=>?_
  have I1:Inv X pins σ H {s with heap:=h'}:=I.turned (t':=s.toks) (fun b o hb e=>(sb.2 b hb).trans e) f0 f1 f3 f4 f5
  have e2:((n-1-i:Nat):Int)-1=(n:Int)-1-((i+1:Nat):Int):=by omega
  rw[e2] at st'
  obtain⟨o,e,c,d⟩:=id st'
  exact⟨u,rfl,ni (s:={s with heap:=h'}) e c d (by decide) ⟨_,H,I1,ru,⟨rfl,fun ys hy=>by rw[I.jj hy hq];exact hx⟩,⟨hi,st'⟩,fun b hb=>(hf b hb).1⟩⟩
 done:=by
  intro X hP hw hK hc i pins s σ H E I hf st hg
  subst hP hw hK
  have hg':i=n:=hg
  subst hg'
  obtain⟨f0,f1,f2,f3,f4,f5⟩:=hf it (by simp)
  have hit:=st.2
  rw[show(i:Int)-1-(i:Int)= -1 by omega] at hit
  exact wpAny_pyNext_rev_end (I.ok.hd hc) hit fun h' eb=>⟨rfl,I.turned (t':=s.toks) (fun b o hb e=>eb b o hb e) f0 f1 f3 f4 f5⟩
 self:=fun _ _ _ _ _ st h=>wpAny_pyIter_revIter st.2 h
def L7 (K:PySem.W.Frag) (ta:TA):TI:=fun σ H R=>ta σ H fun vs H1=>∃a xs,vs=[.ref a]∧bp K H1 a xs∧R (zh K a xs.length) H1
theorem zj {X:Cx} {tg a:Expr} {ta:TA} {p pos:Pos} (hg:Gl X "reversed") (hm:X.mg "reversed"=none) (ha:PA X [a] ta) (hs:starEach [a] X.env=[(false,eval a X.env)]:=by rfl):
  PI X tg (.Call (.Name "reversed" p) [a] [] pos) (L7 X.K ta):=by
 intro pins s σ H R I h
 refine Call_ (dP I hg hm vF (PyProof.Rows.callWith_type1 (aN (ha pos pins s σ H _ I h) fun us s1 ⟨vs,H1,I1,r1,q1⟩=>?_) hs rfl))
 obtain⟨l,xs,e,hq,q⟩:=q1
 subst e
 cases r1 with
 | cons r rr=>
  cases rr
  cases r
  obtain⟨its,rv,pl,hz⟩:=I1.list hq
  have hl:=rv.length
  refine call_reversed_list pl.isList ?_
  have hit:(s1.heap.push (revObj l ((its.toArray.size:Int)-1))).IsRevIter s1.heap.objs.size l ((xs.length:Int)-1-((0:Nat):Int)):=by
   refine⟨_,Heap.get?_push_size _ rfl,rfl,?_⟩
   show Data.fields #[.ref l,rawInt ((its.toArray.size:Int)-1)]=_
   rw[show((its.toArray.size:Nat):Int)-1=(xs.length:Int)-1-((0:Nat):Int) by simp;omega]
  refine wpAny_pyIter_revIter (s:={s1 with heap:=s1.heap.push (revObj l ((its.toArray.size:Int)-1))}) hit ?_
  refine⟨s1.heap.objs.size,[s1.heap.objs.size],_,_,H1,rfl,I1.kept (t':=s1.toks) fun b o e=>Heap.get?_push_of_some _ e,Bx l _ _,⟨Nat.zero_le _,hit⟩,fun b hb=>?_,q⟩
  have e:b=s1.heap.objs.size:=by simpa using hb
  subst e
  exact I1.gv (Nat.le_refl _) (I1.hok.fresh (Nat.le_refl _))
theorem wF {K:PySem.W.Frag} {a:Addr} {xs:List V} {g:TG} {tb:TS} {D:Ends} {σ:St} {H:Hp} (Pv:Nat→St→Hp→Prop) (h0:Pv 0 σ H) (hl:∀i σ H,i≤xs.length→Pv i σ H→bp K H a xs)
  (hs:∀i x σ H,i<xs.length→xs[xs.length-1-i]? =some x→Pv i σ H→g x σ H fun σ2 H2=>tb {D with nx:=Pv (i+1),ct:=Pv (i+1),bk:=D.nx} σ2 H2) (hd:∀σ H,Pv xs.length σ H→D.nx σ H):
  ∃W:Nat→Nat→St→Hp→Prop,(∃m,W 0 m σ H)∧∀i m σ H,W i m σ H→
   ((zh K a xs.length).stop i H∧D.nx σ H)∨((zh K a xs.length).go i H∧∃N:St→Hp→Prop,(∀σ' H',N σ' H'→∃m',m'<m∧W (i+1) m' σ' H')∧∀x H',(zh K a xs.length).lI i H x H'→g x σ H' fun σ2 H2=>tb {D with nx:=N,ct:=N,bk:=D.nx} σ2 H2):=by
 refine⟨fun i m σ H=>m=xs.length-i∧i≤xs.length∧Pv i σ H,⟨xs.length,by simp,Nat.zero_le _,h0⟩,?_⟩
 rintro i m σ H ⟨rfl,hi,p⟩
 have q:=hl i σ H hi p
 by_cases hlt:i<xs.length
 ·refine .inr ⟨⟨hlt,xs,q,rfl⟩,Pv (i+1),fun σ' H' p'=>⟨xs.length-(i+1),by omega,rfl,hlt,p'⟩,fun x H' y=>?_⟩
  obtain⟨e,y⟩:=y
  subst e
  exact hs i x σ _ hlt (y xs q) p
 ·have e:i=xs.length:=by omega
  subst e
  exact .inl ⟨rfl,hd σ H p⟩
inductive Dt where
 | non | bl (b:Bool) | int (i:Int) | str (x:Str) | tup (xs:List Dt) | lst (xs:List Dt)
mutual
def Dt.beq:Dt→Dt→Bool
 | .non,.non=>true
 | .bl a,.bl b=>a == b
 | .bl a,.int b=>(if a then 1 else 0) == b
 | .int a,.bl b=>a == (if b then 1 else 0)
 | .int a,.int b=>a == b
 | .str a,.str b=>a == b
 | .tup xs,.tup ys=>Dt.fu xs ys
 | .lst xs,.lst ys=>Dt.fu xs ys
 | _,_=>false
def Dt.fu:List Dt→List Dt→Bool
 | [],[]=>true
 | x::xs,y::ys=>x.beq y&&Dt.fu xs ys
 | _,_=>false
end
mutual
def Dt.dep:Dt→Nat
 | .tup xs=>Dt.deps xs+1
 | .lst xs=>Dt.deps xs+1
 | _=>0
def Dt.deps:List Dt→Nat
 | []=>0
 | x::xs=>max x.dep (Dt.deps xs)
end
mutual
def aB (K:PySem.W.Frag) (H:Hp):V→Dt→Prop
 | x,.non=>x=.non
 | x,.bl b=>x=.bl b
 | x,.int i=>x=.int i
 | x,.str z=>x=.str z
 | x,.tup ds=>∃a xs,x=.ref a∧bo K H a xs∧aQ K H xs ds
 | x,.lst ds=>∃a xs,x=.ref a∧bp K H a xs∧aQ K H xs ds
def aQ (K:PySem.W.Frag) (H:Hp):List V→List Dt→Prop
 | [],[]=>True
 | x::xs,d::ds=>aB K H x d∧aQ K H xs ds
 | _,_=>False
end
theorem Dt.beq_refl (d:Dt):d.beq d=true:=by
 induction d using Dt.rec (motive_2:=fun xs=>Dt.fu xs xs=true) with
 | non=>simp[Dt.beq]
 | bl b=>simp[Dt.beq]
 | int b=>simp[Dt.beq]
 | str b=>simp[Dt.beq]
 | tup xs ih=>simp[Dt.beq,ih]
 | lst xs ih=>simp[Dt.beq,ih]
 | nil=>simp[Dt.fu]
 | cons x xs h1 h2=>simp[Dt.fu,h1,h2]
theorem aQ.length {K:PySem.W.Frag} {H:Hp}:∀{xs:List V} {ds:List Dt},aQ K H xs ds→xs.length=ds.length
 | [],[],_=>rfl
 | [],_::_,h=>by simp[aQ] at h
 | _::_,[],h=>by simp[aQ] at h
 | x::xs,d::ds,h=>by
  rw[aQ] at h
  rw[List.length_cons,List.length_cons,aQ.length h.2]
theorem aQ.get {K:PySem.W.Frag} {H:Hp}:∀{xs:List V} {ds:List Dt} {i:Nat} {x:V},aQ K H xs ds→xs[i]? =some x→∃d,ds[i]? =some d∧aB K H x d
 | [],_,_,_,_,e=>by simp at e
 | _::_,[],_,_,h,_=>by simp[aQ] at h
 | x::xs,d::ds,0,y,h,e=>by
  rw[aQ] at h
  simp at e;subst e
  exact⟨d,rfl,h.1⟩
 | x::xs,d::ds,i+1,y,h,e=>by
  rw[aQ] at h
  obtain⟨d',h1,h2⟩:=aQ.get (i:=i) (x:=y) h.2 (by simpa using e)
  exact⟨d',by simpa using h1,h2⟩
theorem Dt.gy {d:Dt}:∀{ds:List Dt},d∈ds→d.dep≤Dt.deps ds
 | [],h=>by cases h
 | x::xs,h=>by
  rw[Dt.deps]
  rcases List.mem_cons.mp h with rfl | h
  ·exact Nat.le_max_left ..
  ·exact Nat.le_trans (Dt.gy h) (Nat.le_max_right ..)
def sI (xs ys:List Dt) (j:Nat):Bool:=match xs[j]?,ys[j]? with
 | some x,some y=>x.beq y
 | _,_=>false
theorem qe (n:Nat) (e:Nat→Bool):(List.range (n+1)).all e=(e 0&&(List.range n).all fun j=>e (j+1)):=by
 rw[List.range_succ_eq_map,List.all_cons,List.all_map];rfl
theorem jm:∀(xs ys:List Dt),xs.length=ys.length→(List.range xs.length).all (sI xs ys)=Dt.fu xs ys
 | [],[],_=>by simp[Dt.fu]
 | x::xs,y::ys,h=>by
  have h':xs.length=ys.length:=by simpa using h
  rw[List.length_cons,qe,Dt.fu,←jm xs ys h']
  rfl
theorem jn:∀(xs ys:List Dt),xs.length≠ys.length→Dt.fu xs ys=false
 | [],[],h=>absurd rfl h
 | [],_::_,_=>by simp[Dt.fu]
 | _::_,[],_=>by simp[Dt.fu]
 | x::xs,y::ys,h=>by
  have h':xs.length≠ys.length:=fun z=>h (by simp[z])
  rw[Dt.fu,jn xs ys h',Bool.and_false]
section
variable {X:Cx} {pins:List (Addr×Obj)} {σ:St} {H:Hp} {s:Shared}
theorem kA {a:Addr} {xs ys:List V} (I:Inv X pins σ H s) (h1:bp X.K H a xs) (h2:bo X.K H a ys):False:=by
 obtain⟨its,_,p,_⟩:=I.list h1
 obtain⟨its2,_,q,_⟩:=I.tuple h2
 exact SeqAt.ne_of_list_tuple p.isList (show s.heap.IsTuple a its2.toArray from q) rfl
theorem qf (I:Inv X pins σ H s) (d:Dt):∀(x:V) (d':Dt),aB X.K H x d→aB X.K H x d'→d=d':=by
 induction d using Dt.rec (motive_2:=fun ds=>∀(xs:List V) (ds':List Dt),aQ X.K H xs ds→aQ X.K H xs ds'→ds=ds') with
 | non=>intro x d' h h';cases d'<;>simp_all [aB]
 | bl b=>intro x d' h h';cases d'<;>simp_all [aB]
 | int b=>intro x d' h h';cases d'<;>simp_all [aB]
 | str b=>intro x d' h h';cases d'<;>simp_all [aB]
 | tup ds ih=>
  intro x d' h h'
  rw[aB] at h
  obtain⟨a,xs,rfl,hq,hd⟩:=h
  cases d' with
  | tup ds'=>
   rw[aB] at h'
   obtain⟨a',xs',e,hq',hd'⟩:=h'
   cases e
   rw[I.gD hq' hq] at hd'
   rw[ih xs ds' hd hd']
  | lst ds'=>
   rw[aB] at h'
   obtain⟨a',xs',e,hq',hd'⟩:=h'
   cases e
   exact(kA I hq' hq).elim
  | _=>simp[aB] at h'
 | lst ds ih=>
  intro x d' h h'
  rw[aB] at h
  obtain⟨a,xs,rfl,hq,hd⟩:=h
  cases d' with
  | lst ds'=>
   rw[aB] at h'
   obtain⟨a',xs',e,hq',hd'⟩:=h'
   cases e
   rw[I.jj hq' hq] at hd'
   rw[ih xs ds' hd hd']
  | tup ds'=>
   rw[aB] at h'
   obtain⟨a',xs',e,hq',hd'⟩:=h'
   cases e
   exact(kA I hq hq').elim
  | _=>simp[aB] at h'
 | nil=>
  rename_i xs ds' h h'
  cases xs with
  | nil=>cases ds' with
   | nil=>rfl
   | cons _ _=>simp[aQ] at h'
  | cons _ _=>simp[aQ] at h
 | cons d ds h1 h2=>
  rename_i xs ds' h h'
  cases xs with
  | nil=>simp[aQ] at h
  | cons x xs=>cases ds' with
   | nil=>simp[aQ] at h'
   | cons d' ds'=>
    rw[aQ] at h h'
    rw[h1 x d' h.1 h'.1,h2 xs ds' h.2 h'.2]
theorem kX {A:Around} {xs ys:List V} {ds ds':List Dt} {its its2:List Value} (r1:Vals xs its) (r2:Vals ys its2) (h1:aQ X.K H xs ds) (h2:aQ X.K H ys ds')
  (ih:∀d∈ds,∀(d':Dt) (x y:V) (u v:Value),aB X.K H x d→aB X.K H y d'→RelV x u→RelV y v→SeqAt.EqAt A s u v (d.beq d')):
  ∀j (a:j<its.toArray.size) (b:j<its2.toArray.size),SeqAt.EqAt A s its.toArray[j] its2.toArray[j] (sI ds ds' j):=fun j a b=>by
 have a':j<its.length:=by simpa using a
 have b':j<its2.length:=by simpa using b
 have la:=r1.length
 have lb:=r2.length
 have ex:xs[j]? =some (xs[j]'(by omega)):=List.getElem?_eq_getElem (by omega)
 have ey:ys[j]? =some (ys[j]'(by omega)):=List.getElem?_eq_getElem (by omega)
 obtain⟨u,eu,ru⟩:=r1.get ex
 obtain⟨v,ev,rv⟩:=r2.get ey
 obtain⟨d,ed,hd⟩:=h1.get ex
 obtain⟨d',ed',hd'⟩:=h2.get ey
 have e1:its.toArray[j]=u:=by
  rw[List.getElem?_eq_getElem a'] at eu
  simpa using Option.some.inj eu
 have e2:its2.toArray[j]=v:=by
  rw[List.getElem?_eq_getElem b'] at ev
  simpa using Option.some.inj ev
 rw[e1,e2]
 have e3:sI ds ds' j=d.beq d':=by unfold sI;rw[ed,ed']
 rw[e3]
 exact ih d (List.mem_of_getElem? ed) d' _ _ u v hd hd' ru rv
theorem ud {A:Around} {a b:Addr} {xs ys:List V} {ds ds':List Dt} (I:Inv X pins σ H s) (q1:bp X.K H a xs) (q2:bp X.K H b ys) (h1:aQ X.K H xs ds) (h2:aQ X.K H ys ds') (hu:A.units<cLine)
  (ih:∀d∈ds,∀(d':Dt) (x y:V) (u v:Value),aB X.K H x d→aB X.K H y d'→RelV x u→RelV y v→SeqAt.EqAt A.in1 s u v (d.beq d')):SeqAt.RcAt A s (.ref a) (.ref b) (Dt.fu ds ds'):=by
 obtain⟨its,r1,p1,_⟩:=I.list q1
 obtain⟨its2,r2,p2,_⟩:=I.list q2
 have l1:=r1.length
 have l2:=r2.length
 have l3:=h1.length
 have l4:=h2.length
 by_cases hl:ds.length=ds'.length
 ·have:=SeqAt.RcAt.lists p1.isList p2.isList (by simp;omega) hu (kX r1 r2 h1 h2 ih)
  rw[show its.toArray.size=ds.length by simp;omega,jm ds ds' hl] at this
  exact this
 ·rw[jn ds ds' hl]
  exact SeqAt.RcAt.lists_lengths p1.isList p2.isList (by simp;omega) hu
theorem qX {A:Around} {a b:Addr} {xs ys:List V} {ds ds':List Dt} (I:Inv X pins σ H s) (q1:bo X.K H a xs) (q2:bo X.K H b ys) (h1:aQ X.K H xs ds) (h2:aQ X.K H ys ds') (hu:A.units<cLine)
  (ih:∀d∈ds,∀(d':Dt) (x y:V) (u v:Value),aB X.K H x d→aB X.K H y d'→RelV x u→RelV y v→SeqAt.EqAt A.in1 s u v (d.beq d')):SeqAt.RcAt A s (.ref a) (.ref b) (Dt.fu ds ds'):=by
 obtain⟨its,r1,p1,_⟩:=I.tuple q1
 obtain⟨its2,r2,p2,_⟩:=I.tuple q2
 have l1:=r1.length
 have l2:=r2.length
 have l3:=h1.length
 have l4:=h2.length
 have:=SeqAt.RcAt.tuples (show s.heap.IsTuple a its.toArray from p1) (show s.heap.IsTuple b its2.toArray from p2) hu (kX r1 r2 h1 h2 ih)
 by_cases hl:ds.length=ds'.length
 ·rw[show min its.toArray.size its2.toArray.size=ds.length by simp;omega,jm ds ds' hl,show(its.toArray.size == its2.toArray.size)=true by simp;omega,Bool.and_true] at this
  exact this
 ·rw[show(its.toArray.size == its2.toArray.size)=false by simp;omega,Bool.and_false] at this
  rw[jn ds ds' hl]
  exact this
theorem kY (I:Inv X pins σ H s) (d:Dt):∀(A:Around) (d':Dt) (x y:V) (u v:Value),A.units+d.dep<cLine→aB X.K H x d→aB X.K H y d'→RelV x u→RelV y v→SeqAt.EqAt A s u v (d.beq d'):=by
 have flat:∀{A:Around} {d d':Dt} {x y:V} {u v:Value},gJ x=true→gJ y=true→ku x y=d.beq d'→RelV x u→RelV y v→SeqAt.EqAt A s u v (d.beq d'):=fun fx fy e ru rv=>e▸yW ru rv fx fy
 have wG:∀{a:Addr} {xs:List V},bp X.K H a xs→∃its:Array Value,s.heap.IsList a its:=fun q=>let ⟨its,_,p,_⟩:=I.list q;⟨_,p.isList⟩
 have wH:∀{a:Addr} {xs:List V},bo X.K H a xs→∃its:Array Value,s.heap.IsTuple a its:=fun q=>let ⟨its,_,p,_⟩:=I.tuple q;⟨_,p⟩
 have refs:∀{A:Around} {a b:Addr} {d d':Dt},aB X.K H (.ref a) d→aB X.K H (.ref b) d'→SeqAt.RcAt A s (.ref a) (.ref b) (d.beq d')→SeqAt.EqAt A s (.ref a) (.ref b) (d.beq d'):=by
  intro A a b d d' h h' r
  by_cases e:a=b
  ·subst e
   rw[←qf I d _ _ h h',Dt.beq_refl]
   exact SeqAt.EqAt.same _
  ·exact SeqAt.EqAt.of_refs e r
 induction d using Dt.rec (motive_2:=fun ds=>∀d∈ds,∀(A:Around) (d':Dt) (x y:V) (u v:Value),A.units+d.dep<cLine→aB X.K H x d→aB X.K H y d'→RelV x u→RelV y v→SeqAt.EqAt A s u v (d.beq d')) with
 | non=>
  intro A d' x y u v hu h h' ru rv
  rw[aB] at h
  subst h
  have hu':A.units<cLine:=by omega
  cases d' with
  | tup ds'=>
   rw[aB] at h';obtain⟨b,ys,rfl,q,_⟩:=h'
   cases ru;cases rv
   obtain⟨its,p⟩:=wH q
   exact SeqAt.EqAt.none_tuple p hu'
  | lst ds'=>
   rw[aB] at h';obtain⟨b,ys,rfl,q,_⟩:=h'
   cases ru;cases rv
   obtain⟨its,p⟩:=wG q
   exact SeqAt.EqAt.none_list p hu'
  | _=>rw[aB] at h';subst h';exact flat rfl rfl (by simp[Dt.beq,ku]) ru rv
 | bl b0=>
  intro A d' x y u v hu h h' ru rv
  rw[aB] at h
  subst h
  have hu':A.units<cLine:=by omega
  cases d' with
  | tup ds'=>
   rw[aB] at h';obtain⟨b,ys,rfl,q,_⟩:=h'
   cases ru;cases rv
   obtain⟨its,p⟩:=wH q
   exact SeqAt.EqAt.bool_tuple _ p hu'
  | lst ds'=>
   rw[aB] at h';obtain⟨b,ys,rfl,q,_⟩:=h'
   cases ru;cases rv
   obtain⟨its,p⟩:=wG q
   exact SeqAt.EqAt.bool_list _ p hu'
  | _=>rw[aB] at h';subst h';exact flat rfl rfl (by simp[Dt.beq,ku]) ru rv
 | int i0=>
  intro A d' x y u v hu h h' ru rv
  rw[aB] at h
  subst h
  have hu':A.units<cLine:=by omega
  cases d' with
  | tup ds'=>
   rw[aB] at h';obtain⟨b,ys,rfl,q,_⟩:=h'
   obtain⟨t,rfl⟩:=ru;cases rv
   obtain⟨its,p⟩:=wH q
   exact SeqAt.EqAt.int_tuple _ _ p hu'
  | lst ds'=>
   rw[aB] at h';obtain⟨b,ys,rfl,q,_⟩:=h'
   obtain⟨t,rfl⟩:=ru;cases rv
   obtain⟨its,p⟩:=wG q
   exact SeqAt.EqAt.int_list _ _ p hu'
  | _=>rw[aB] at h';subst h';exact flat rfl rfl (by simp[Dt.beq,ku]) ru rv
 | str z0=>
  intro A d' x y u v hu h h' ru rv
  rw[aB] at h
  subst h
  have hu':A.units<cLine:=by omega
  cases d' with
  | tup ds'=>
   rw[aB] at h';obtain⟨b,ys,rfl,q,_⟩:=h'
   obtain⟨t,rfl⟩:=ru;cases rv
   obtain⟨its,p⟩:=wH q
   exact SeqAt.EqAt.str_tuple _ _ p hu'
  | lst ds'=>
   rw[aB] at h';obtain⟨b,ys,rfl,q,_⟩:=h'
   obtain⟨t,rfl⟩:=ru;cases rv
   obtain⟨its,p⟩:=wG q
   exact SeqAt.EqAt.str_list _ _ p hu'
  | _=>rw[aB] at h';subst h';exact flat rfl rfl (by simp[Dt.beq,ku]) ru rv
 | tup ds ih=>
  intro A d' x y u v hu h h' ru rv
  have hD:=h
  have hD':=h'
  rw[aB] at h
  obtain⟨a,xs,rfl,q,hd⟩:=h
  cases ru
  obtain⟨its,p⟩:=wH q
  have hu':A.units<cLine:=by omega
  cases d' with
  | non=>rw[aB] at h';subst h';cases rv;exact SeqAt.EqAt.tuple_none p hu'
  | bl b=>rw[aB] at h';subst h';cases rv;exact SeqAt.EqAt.tuple_bool _ p hu'
  | int b=>rw[aB] at h';subst h';obtain⟨t,rfl⟩:=rv;exact SeqAt.EqAt.tuple_int _ _ p hu'
  | str b=>rw[aB] at h';subst h';obtain⟨t,rfl⟩:=rv;exact SeqAt.EqAt.tuple_str _ _ p hu'
  | lst ds'=>
   rw[aB] at h';obtain⟨b,ys,rfl,q',_⟩:=h'
   cases rv
   obtain⟨its2,p2⟩:=wG q'
   exact SeqAt.EqAt.tuple_list p p2 hu'
  | tup ds'=>
   rw[aB] at h';obtain⟨b,ys,rfl,q',hd'⟩:=h'
   cases rv
   refine refs hD hD' ?_
   have:=qX (A:=A) I q q' hd hd' hu' fun d hm d' x y u v h1 h2 r1 r2=>ih d hm A.in1 d' x y u v (by
    have:=Dt.gy hm
    rw[Dt.dep] at hu
    show A.units+1+d.dep<cLine
    omega) h1 h2 r1 r2
   simpa[Dt.beq] using this
 | lst ds ih=>
  intro A d' x y u v hu h h' ru rv
  have hD:=h
  have hD':=h'
  rw[aB] at h
  obtain⟨a,xs,rfl,q,hd⟩:=h
  cases ru
  obtain⟨its,p⟩:=wG q
  have hu':A.units<cLine:=by omega
  cases d' with
  | non=>rw[aB] at h';subst h';cases rv;exact SeqAt.EqAt.list_none p hu'
  | bl b=>rw[aB] at h';subst h';cases rv;exact SeqAt.EqAt.list_bool _ p hu'
  | int b=>rw[aB] at h';subst h';obtain⟨t,rfl⟩:=rv;exact SeqAt.EqAt.list_int _ _ p hu'
  | str b=>rw[aB] at h';subst h';obtain⟨t,rfl⟩:=rv;exact SeqAt.EqAt.list_str _ _ p hu'
  | tup ds'=>
   rw[aB] at h';obtain⟨b,ys,rfl,q',_⟩:=h'
   cases rv
   obtain⟨its2,p2⟩:=wH q'
   exact SeqAt.EqAt.list_tuple p p2 hu'
  | lst ds'=>
   rw[aB] at h';obtain⟨b,ys,rfl,q',hd'⟩:=h'
   cases rv
   refine refs hD hD' ?_
   have:=ud (A:=A) I q q' hd hd' hu' fun d hm d' x y u v h1 h2 r1 r2=>ih d hm A.in1 d' x y u v (by
    have:=Dt.gy hm
    rw[Dt.dep] at hu
    show A.units+1+d.dep<cLine
    omega) h1 h2 r1 r2
   simpa[Dt.beq] using this
 | nil=>
  rename_i d hd A d' x y u v a1 a2 a3 a4 a5
  cases hd
 | cons d ds h1 h2=>
  rename_i d0 hd A d' x y u v a1 a2 a3 a4 a5
  rcases List.mem_cons.mp hd with e | hd
  ·subst e;exact h1 A d' x y u v a1 a2 a3 a4 a5
  ·exact h2 d0 hd A d' x y u v a1 a2 a3 a4 a5
def Dt.FT:Dt→Bool
 | .tup _=>true
 | .lst _=>true
 | _=>false
def By (K:PySem.W.Frag) (neg:Bool):R2:=fun x y H Q=>∃d d':Dt,aB K H x d∧aB K H y d'∧d.FT=true∧d'.FT=true∧d.dep≤40∧Q (.bl (if neg then !d.beq d' else d.beq d')) H
theorem zk (K:PySem.W.Frag) (hu:X.A.units+64<cLine) (hK:X.K=K:=by rfl):cY X (compareOp .Eq) (By K false):=by
 subst hK
 intro pins s σ H x y v u Q I rx ry h
 obtain⟨d,d',h,h',sq,FU,hd,q⟩:=h
 have hA:∀e:Dt,e.dep≤40→X.A.in1.units+e.dep<cLine:=fun e he=>by show X.A.units+1+e.dep<cLine;omega
 have hu':X.A.units<cLine:=by omega
 cases d with
 | tup ds=>
  rw[aB] at h
  obtain⟨a,xs,rfl,q1,hd1⟩:=h
  cases rx
  have ih:∀d∈ds,∀(d':Dt) (x y:V) (u v:Value),aB X.K H x d→aB X.K H y d'→RelV x u→RelV y v→SeqAt.EqAt X.A.in1 s u v (d.beq d'):=fun d hm d' x y u v h1 h2 r1 r2=>
   kY I d X.A.in1 d' x y u v (hA d (by have:=Dt.gy hm;rw[Dt.dep] at hd;omega)) h1 h2 r1 r2
  cases d' with
  | tup ds'=>
   rw[aB] at h'
   obtain⟨b,ys,rfl,q2,hd2⟩:=h'
   cases ry
   exact qX I q1 q2 hd1 hd2 hu' ih _ _ _ _ ⟨.bl _,H,I,rfl,by simpa[Dt.beq] using q⟩
  | lst ds'=>
   rw[aB] at h'
   obtain⟨b,ys,rfl,q2,hd2⟩:=h'
   cases ry
   obtain⟨its,_,p,_⟩:=I.tuple q1
   obtain⟨its2,_,p2,_⟩:=I.list q2
   exact SeqAt.RcAt.tuple_list (show s.heap.IsTuple a its.toArray from p) p2.isList hu' _ _ _ _ ⟨.bl _,H,I,rfl,by simpa[Dt.beq] using q⟩
  | _=>cases FU
 | lst ds=>
  rw[aB] at h
  obtain⟨a,xs,rfl,q1,hd1⟩:=h
  cases rx
  have ih:∀d∈ds,∀(d':Dt) (x y:V) (u v:Value),aB X.K H x d→aB X.K H y d'→RelV x u→RelV y v→SeqAt.EqAt X.A.in1 s u v (d.beq d'):=fun d hm d' x y u v h1 h2 r1 r2=>
   kY I d X.A.in1 d' x y u v (hA d (by have:=Dt.gy hm;rw[Dt.dep] at hd;omega)) h1 h2 r1 r2
  cases d' with
  | lst ds'=>
   rw[aB] at h'
   obtain⟨b,ys,rfl,q2,hd2⟩:=h'
   cases ry
   exact ud I q1 q2 hd1 hd2 hu' ih _ _ _ _ ⟨.bl _,H,I,rfl,by simpa[Dt.beq] using q⟩
  | tup ds'=>
   rw[aB] at h'
   obtain⟨b,ys,rfl,q2,hd2⟩:=h'
   cases ry
   obtain⟨its,_,p,_⟩:=I.list q1
   obtain⟨its2,_,p2,_⟩:=I.tuple q2
   exact SeqAt.RcAt.list_tuple p.isList (show s.heap.IsTuple b its2.toArray from p2) hu' _ _ _ _ ⟨.bl _,H,I,rfl,by simpa[Dt.beq] using q⟩
  | _=>cases FU
 | _=>cases sq
theorem FV (K:PySem.W.Frag) (hu:X.A.units+64<cLine) (hK:X.K=K:=by rfl):cY X (compareOp .NotEq) (fun x y H Q=>By K true x y H Q∧∃d d':Dt,aB K H x d∧aB K H y d'∧((∃ds ds',d=.tup ds∧d'=.tup ds')∨∃ds ds',d=.lst ds∧d'=.lst ds')):=by
 subst hK
 intro pins s σ H x y v u Q I rx ry h
 obtain⟨⟨d,d',h,h',sq,FU,hd,q⟩,e,e',g,g',hk⟩:=h
 have e1:=qf I d x e h g
 have e2:=qf I d' y e' h' g'
 subst e1 e2
 have hA:∀e:Dt,e.dep≤40→X.A.in1.units+e.dep<cLine:=fun e he=>by show X.A.units+1+e.dep<cLine;omega
 have hu':X.A.units<cLine:=by omega
 rcases hk with⟨ds,ds',rfl,rfl⟩ | ⟨ds,ds',rfl,rfl⟩
 ·rw[aB] at h h'
  obtain⟨a,xs,rfl,q1,h1⟩:=h
  obtain⟨b,ys,rfl,q2,h2⟩:=h'
  cases rx
  cases ry
  have ih:∀d∈ds,∀(d':Dt) (x y:V) (u v:Value),aB X.K H x d→aB X.K H y d'→RelV x u→RelV y v→SeqAt.EqAt X.A.in1 s u v (d.beq d'):=fun d hm d' x y u v h1 h2 r1 r2=>
   kY I d X.A.in1 d' x y u v (hA d (by have:=Dt.gy hm;rw[Dt.dep] at hd;omega)) h1 h2 r1 r2
  obtain⟨its,r1,p1,_⟩:=I.tuple q1
  obtain⟨its2,r2,p2,_⟩:=I.tuple q2
  have l1:=r1.length
  have l2:=r2.length
  have l3:=h1.length
  have l4:=h2.length
  have z:=SeqAt.RcNeAt.tuples (show s.heap.IsTuple a its.toArray from p1) (show s.heap.IsTuple b its2.toArray from p2) hu' (kX r1 r2 h1 h2 ih)
  have fin:SeqAt.RcNeAt X.A s (.ref a) (.ref b) (!Dt.fu ds ds'):=by
   by_cases hl:ds.length=ds'.length
   ·rw[show min its.toArray.size its2.toArray.size=ds.length by simp;omega,jm ds ds' hl,show(its.toArray.size == its2.toArray.size)=true by simp;omega,Bool.and_true] at z
    exact z
   ·rw[show(its.toArray.size == its2.toArray.size)=false by simp;omega,Bool.and_false] at z
    rw[jn ds ds' hl]
    exact z
  exact fin _ _ _ _ ⟨.bl _,H,I,rfl,by simpa[Dt.beq] using q⟩
 ·rw[aB] at h h'
  obtain⟨a,xs,rfl,q1,h1⟩:=h
  obtain⟨b,ys,rfl,q2,h2⟩:=h'
  cases rx
  cases ry
  have ih:∀d∈ds,∀(d':Dt) (x y:V) (u v:Value),aB X.K H x d→aB X.K H y d'→RelV x u→RelV y v→SeqAt.EqAt X.A.in1 s u v (d.beq d'):=fun d hm d' x y u v h1 h2 r1 r2=>
   kY I d X.A.in1 d' x y u v (hA d (by have:=Dt.gy hm;rw[Dt.dep] at hd;omega)) h1 h2 r1 r2
  obtain⟨its,r1,p1,_⟩:=I.list q1
  obtain⟨its2,r2,p2,_⟩:=I.list q2
  have l1:=r1.length
  have l2:=r2.length
  have l3:=h1.length
  have l4:=h2.length
  have fin:SeqAt.RcNeAt X.A s (.ref a) (.ref b) (!Dt.fu ds ds'):=by
   by_cases hl:ds.length=ds'.length
   ·have z:=SeqAt.RcNeAt.lists p1.isList p2.isList (by simp;omega) hu' (kX r1 r2 h1 h2 ih)
    rw[show its.toArray.size=ds.length by simp;omega,jm ds ds' hl] at z
    exact z
   ·rw[jn ds ds' hl]
    exact SeqAt.RcNeAt.lists_lengths p1.isList p2.isList (by simp;omega) hu'
  exact fin _ _ _ _ ⟨.bl _,H,I,rfl,by simpa[Dt.beq] using q⟩
end
theorem iH {K:PySem.W.Frag} {H:Hp}:∀(ns:List Int),aQ K H (ns.map V.int) (ns.map Dt.int)
 | []=>by simp[aQ]
 | n::ns=>by rw[List.map_cons,List.map_cons,aQ];exact⟨by rw[aB],iH ns⟩
theorem jT:∀(ns:List Int),Dt.deps (ns.map Dt.int)=0
 | []=>by simp[Dt.deps]
 | n::ns=>by rw[List.map_cons,Dt.deps,jT ns];simp[Dt.dep]
section
variable {X:Cx}
def Jl (K:PySem.W.Frag):List V→Hp→VK→Prop:=fun xs H Q=>∃(p:Addr) (ys:List V),xs=[.ref p]∧(bp K H p ys∨bo K H p ys)∧∀l,H l=none→Q (.ref l) (upd H l (.lst ys))
theorem ph (K:PySem.W.Frag) (hK:X.K=K:=by rfl):cQ X (.type "list") (Jl K):=by subst hK;exact tR
def FW (K:PySem.W.Frag):List V→Hp→VK→Prop:=fun xs H Q=>∃(p:Addr) (ys:List V),xs=[.ref p]∧((bp K H p ys∧∀l,H l=none→Q (.ref l) (upd H l (.tup ys)))∨(bo K H p ys∧Q (.ref p) H))
theorem dy (K:PySem.W.Frag) (hK:X.K=K:=by rfl):cQ X (.type "tuple") (FW K):=by subst hK;exact rS
def cT (H:Hp) (d:Addr):Prop:=∃ms:List Int,H d=some (.lst (ms.map V.int))∧ms≠[]∧∀m∈ms,0≤m
theorem cT.same {H H':Hp} {d:Addr} (h:cT H d) (s:Same H H'):cT H' d:=let ⟨ms,a,b,c⟩:=h;⟨ms,s _ _ a,b,c⟩
end
end L2
namespace L2
open PySem
theorem Ec {ns:List Int} {i:Nat} {x:V} (h:(ns.map V.int)[i]? =some x):∃f,x=.int f∧ns[i]? =some f:=by
 rw[List.getElem?_map] at h
 cases e:ns[i]? with
 | none=>rw[e] at h;cases h
 | some f=>rw[e] at h;exact⟨f,(Option.some.inj h).symm,rfl⟩
end L2
namespace L2
open PySem PySem.Spec PyProof.Rows
theorem pj {ys:List Str}:∀{us:List Value},Vals (ys.map V.str) us→StrsAre us ys:=by
 induction ys with
 | nil=>intro us r;cases r;exact .nil
 | cons y ys ih=>
  intro us r
  rw[List.map_cons] at r
  cases r with
  | cons a b=>
   obtain⟨t,rfl⟩:=a
   exact .cons y t (ih b)
theorem qY:∀{us:List Value} {ys:List Str},StrsAre us ys→Vals (ys.map V.str) us
 | _,_,.nil=>.nil
 | _,_,.cons y t r=>.cons ⟨t,rfl⟩ (qY r)
theorem Bz (sep:Str) (ys:List Str) (h:(ys.map (·.length)).sum+ys.length*sep.length≤16777216):(Txt.join sep ys).length≤sizeLine:=by
 have hok:=joinOk_of h
 unfold JoinOk at hok
 rw[Bool.not_eq_true'] at hok
 have e:ys=(ys.map fun y=>(y,(0:Tok))).map (·.1):=by rw[List.map_map];exact(List.map_id ys).symm
 rw[e] at hok ⊢
 exact joinFit_length hok
section
variable {X:Cx}
def rJoin (K:PySem.W.Frag):V→List V→Hp→VK→Prop:=fun x vs H Q=>∃(sep:Str) (a:Addr) (ys:List Str),x=.str sep∧vs=[.ref a]∧bp K H a (ys.map V.str)∧(ys.map (·.length)).sum+ys.length*sep.length≤16777216∧∀z:Str,z.length≤sizeLine→z=Txt.join sep ys→Q (.str z) H
theorem BA (K:PySem.W.Frag) (hK:X.K=K:=by rfl):y_ X "str.join" (rJoin K):=by
 subst hK
 intro pins s σ H x vs v us Q I rx rv h
 obtain⟨sep,a,ys,rfl,rfl,hq,hz,q⟩:=h
 obtain⟨t,rfl⟩:=rx
 obtain⟨u,rfl,ru⟩:=rv.one
 cases ru
 obtain⟨its,r,p,_⟩:=I.list hq
 exact join_list p.isList (show StrsAre its.toArray.toList ys from pj r) hz fun t' k=>⟨.str _,H,I.tok k,⟨t',rfl⟩,q _ (Bz sep ys hz) rfl⟩
def FX (K:PySem.W.Frag):List V→Hp→VK→Prop:=fun xs H Q=>∃(a:Addr) (ss:List Str),xs=[.ref a]∧bp K H a (ss.map V.str)∧ss.length<64∧
 ∀(p:Addr) (ss':List Str),H p=none→ss'.Perm ss→PyProof.Rows.sortedS ss'=true→Q (.ref p) (upd H p (.lst (ss'.map V.str)))
theorem vG (K:PySem.W.Frag) (hK:X.K=K:=by rfl):cQ X (.builtin "sorted") (FX K):=by
 subst hK
 intro pins s σ H xs us Q I r h
 obtain⟨a,ss,rfl,hq,hl,q⟩:=h
 obtain⟨u,rfl,ru⟩:=vals1 r
 cases ru
 obtain⟨its,rv,p,hz⟩:=I.list hq
 have hlen:=rv.length
 rw[List.length_map] at hlen
 refine sorted_strs p.isList (pj rv) (by omega) fun out ss' a1 a2 a3=>?_
 obtain⟨e,he⟩:=sortedAll_at s.heap its out
 have hp:s.heap.objs.size≤s.heap.objs.size+1:=Nat.le_succ _
 refine⟨.ref (s.heap.objs.size+1),upd H (s.heap.objs.size+1) (.lst (ss'.map V.str)),?_,rfl,q _ ss' (I.hok.fresh hp) a2 a3⟩
 refine I.laid (t':=s.toks) (h':=sortedAll s.heap its out) (fun _ _=>sortedAll_old) hp ⟨?_,out.toList,e,qY a1,?_⟩
 ·rw[List.length_map,a2.length_eq]
  rw[List.length_map] at hz
  exact hz
 ·rw[he]
  first
   | done
   | rfl
def L8:V→Option Int→Option Int→Hp→VK→Prop:=fun x lo hi H Q=>∃z:Str,x=.str z∧z.length≤sizeLine∧Q (.str (Txt.slice z lo hi)) H
theorem nU {v:Value} {o:Option Int} (p:IsPart v o):∃l:Option (Int×Tok),v=partValue l∧l.map (·.1)=o:=by
 cases p with
 | none=>exact⟨none,rfl,rfl⟩
 | int i t=>exact⟨some (i,t),rfl,rfl⟩
theorem FY:wt X L8:=by
 intro pins s σ H x v vl vu lo hi sl Q I rx hs pl pu h
 obtain⟨z,rfl,hz,q⟩:=h
 obtain⟨t,rfl⟩:=rx
 obtain⟨l,rfl,hl⟩:=nU pl
 obtain⟨u,rfl,hu⟩:=nU pu
 subst hl hu
 obtain⟨o,ho,hc,hd⟩:=hs
 refine⟨"str",_,PySem.F.slot_str_getitem.lookup,typeIs_str _ _ _,wpAny_getItem_str_slice (l:=l) (u:=u) (st:=none) ⟨o,ho,hc,hd⟩ rfl ?_⟩
 exact post_val_or_str ⟨Nat.le_trans (Txt.slice_le z _ _) hz,fun t' k=>⟨.str _,H,I.tok k,⟨t',rfl⟩,q⟩⟩
theorem jb (K:PySem.W.Frag) {es:List Expr} {k:Nat} {t:qI} {n:Nat} {pos:Pos} (hc:X.calm=true) (h:yJ X es t)
  (hn:(assignEach es X.env).length=n:=by rfl) (hst:(assignEach es X.env).findIdx? (·.1)=none:=by rfl) (hK:X.K=K:=by rfl):PG X (.Tuple es k pos) (E9 K n t):=by
 subst hK;exact dQ hc h hn hst
end
mutual
def Dt.Pw:Dt→Bool
 | .lst _=>false
 | .tup xs=>Dt.FZ xs
 | _=>true
def Dt.FZ:List Dt→Bool
 | []=>true
 | x::xs=>x.Pw&&Dt.FZ xs
end
theorem Ed {K:PySem.W.Frag} {H:Hp} {z:Str}:aB K H (.str z) (.str z):=by rw[aB]
theorem gE {K:PySem.W.Frag} {H:Hp} {a:Addr} {xs:List V} {ds:List Dt} (h:bo K H a xs) (d:aQ K H xs ds):aB K H (.ref a) (.tup ds):=by rw[aB];exact⟨a,xs,rfl,h,d⟩
theorem ny {K:PySem.W.Frag} {H:Hp} {a:Addr} {xs:List V} {ds:List Dt} (h:bp K H a xs) (d:aQ K H xs ds):aB K H (.ref a) (.lst ds):=by rw[aB];exact⟨a,xs,rfl,h,d⟩
theorem jo {K:PySem.W.Frag} {H:Hp}:aQ K H [] []:=by simp[aQ]
theorem fw {K:PySem.W.Frag} {H:Hp} {x:V} {xs:List V} {d:Dt} {ds:List Dt} (h:aB K H x d) (t:aQ K H xs ds):aQ K H (x::xs) (d::ds):=by rw[aQ];exact⟨h,t⟩
theorem qZ {K:PySem.W.Frag} {H:Hp}:∀(ys:List Str),aQ K H (ys.map V.str) (ys.map Dt.str)
 | []=>jo
 | y::ys=>fw Ed (qZ ys)
theorem Ee (a d:Value):argsOk "max" ⟨[a],[(Str.ofString "default",d)]⟩:=by unfold argsOk;kernel_rfl
section
variable {prog:Program} {w:World} {A:Around} {R:Result→Shared→Prop} {I:Addr} {fp wr:List Addr} {St:Nat→Heap→Prop} {its:Array Value} {val:Nat→Int} {kw:List (Str×Value)}
theorem Ef (W:Walks prog w A.in1 I fp wr its.size (fun i v=>its[i]? =some v) St) (hv:∀(i:Nat) v,its[i]? =some v→∃t,v=.int (val i) t) (S:Addr) (hSf:S ∉ fp):
  ∀(k j:Nat) (s:Shared) (M:Int) (t:Tok) (c:Nat),its.size-j=k→j≤its.size→St j s.heap→s.heap.get? S=some {cls:=.type "list",dict:=none,data:=.seq #[.int M t,.int M t] c,slots:= #[]}→
  (∃i,i<j∧M=val i)→(∀i,i<j→val i≤M)→
  (∀(m:Int) t' h' tk,(∃i,i<its.size∧m=val i)→(∀i,i<its.size→val i≤m)→(∀b o,b ∉ wr→b≠S→s.heap.get? b=some o→h'.get? b=some o)→R (.ok (.ret (.int m t'))) {s with heap:=h',toks:=tk})→
  codeAny (model prog w) A (.builtin "max.loop" ⟨[.ref I,.none,.ref S],kw⟩) R s:=by
 have hSw:S ∉ wr:=fun z=>hSf (W.sub _ z)
 have nm:(toString "max"++toString ".loop":String)="max.loop":=by decide
 intro k
 induction k with
 | zero=>
  intro j s M t c hk hj st hS hM hx hR
  obtain rfl:j=its.size:=by omega
  (refine codeAny_builtin F.entry_max_loop ?_);rw[Around.under_plainId F.plain_max_loop _]
  (show wpAny _ A.in1 (seqItems? (.ref S) >>= _) _ _ s);refine wpAny_bind (wpAny_seqItems hS rfl ?_)
  (show wpAny _ A.in1 (tryCatch (pyNext (.ref I)) _ >>= _) _ _ s);refine wpAny_bind (wpAny_tryCatch (W.done s _ _ st fun h' tk hk'=>?_))
  have hS':=hk' S _ hSw hS
  (show wpAny _ A.in1 (updateSeq S (fun _=> #[]) >>= _) _ _ _);(refine wpAny_bind ?_)
  refine wpAny_updateSeq hS' rfl (wpAny_bind (wpAny_letGo (wpAny_pure ?_)))
  exact hR M t _ tk hM hx fun b o hb hb' e=>(Heap.get?_update_other _ _ (Ne.symm hb')).trans (hk' b o hb e)
 | succ k ih=>
  intro j s M t c hk hj st hS hM hx hR
  have lt:j<its.size:=by omega
  (refine codeAny_builtin F.entry_max_loop ?_);rw[Around.under_plainId F.plain_max_loop _]
  (show wpAny _ A.in1 (seqItems? (.ref S) >>= _) _ _ s);refine wpAny_bind (wpAny_seqItems hS rfl ?_)
  (show wpAny _ A.in1 (tryCatch (pyNext (.ref I)) _ >>= _) _ _ s);refine wpAny_bind (wpAny_tryCatch (W.item j s _ _ lt st fun v h' tk hP st' hk'=>?_))
  have hS':=hk' S _ hSw hS
  obtain⟨u,rfl⟩:=hv j v hP
  show wpAny _ A.in1 (tryCatch (holding [_,_] (richCompare .Gt (.int (val j) u) (.int M t) >>= _)) _ >>= _) _ _ _
  refine wpAny_bind (wpAny_tryCatch (wpAny_holding (wpAny_bind (richCompare_gives (op:=.Gt) (typeIs_int _ _ u) (typeIs_int _ _ t) F.slot_int_gt F.entry_int_gt (F.args_int_gt_2 _ _) (gives_int_gt _ _ u t) (fun x=>nomatch x) ?_))))
  (refine wpAny_bind (wpAny_holding (wpAny_truthy_bool ?_)));refine wpAny_bind (wpAny_letGo (wpAny_pure ?_))
  by_cases hb:val j>M
  ·rw[if_pos (by simpa using hb)]
   (refine wpAny_bind ?_);refine wpAny_updateSeq hS' rfl (wpAny_bind (wpAny_letGo ?_))
   rw[nm]
   refine wpAny_pure ⟨plainId_quiet F.plain_max_loop _,ih (j+1) _ (val j) u _ (by omega) lt (W.frame _ _ _ st' fun b hbf o e=>(Heap.get?_update_other _ _ (fun z:S=b=>hSf (z▸hbf))).trans e) (Heap.get?_update_self _ hS' rfl) ⟨j,Nat.lt_succ_self _,rfl⟩ (fun i hi=>?_) fun m t' h2 tk2 a1 a2 k2=>?_⟩
   ·by_cases e:i=j
    ·rw[e];exact Int.le_refl _
    ·exact Int.le_trans (hx i (by omega)) (Int.le_of_lt hb)
   ·exact hR m t' h2 tk2 a1 a2 fun b o hb1 hb2 e=>k2 b o hb1 hb2 ((Heap.get?_update_other _ _ (Ne.symm hb2)).trans (hk' b o hb1 e))
  ·rw[if_neg (by simpa using hb)]
   (refine wpAny_bind (wpAny_letGo ?_));rw[nm]
   obtain⟨i0,hi0,e0⟩:=hM
   refine wpAny_pure ⟨plainId_quiet F.plain_max_loop _,ih (j+1) _ M t c (by omega) lt st' hS' ⟨i0,by omega,e0⟩ (fun i hi=>?_) fun m t' h2 tk2 a1 a2 k2=>hR m t' h2 tk2 a1 a2 fun b o hb1 hb2 e=>k2 b o hb1 hb2 (hk' b o hb1 e)⟩
   by_cases e:i=j
   ·rw[e];exact Int.not_lt.mp hb
   ·exact hx i (by omega)
theorem BB (W:Walks prog w A.in1 I fp wr its.size (fun i v=>its[i]? =some v) St) (hv:∀(i:Nat) v,its[i]? =some v→∃t,v=.int (val i) t) (S:Addr) (hSf:S ∉ fp) {s:Shared} {c:Nat} {y:Str} {d:Value} (st:St 0 s.heap)
  (hS:s.heap.get? S=some {cls:=.type "list",dict:=none,data:=.seq #[] c,slots:= #[]})
  (Px:its.size=0→∀h' tk,(∀b o,b ∉ wr→b≠S→s.heap.get? b=some o→h'.get? b=some o)→R (.ok (.ret d)) {s with heap:=h',toks:=tk})
  (hR:∀(m:Int) t' h' tk,(∃i,i<its.size∧m=val i)→(∀i,i<its.size→val i≤m)→(∀b o,b ∉ wr→b≠S→s.heap.get? b=some o→h'.get? b=some o)→R (.ok (.ret (.int m t'))) {s with heap:=h',toks:=tk}):
  codeAny (model prog w) A (.builtin "max.loop" ⟨[.ref I,.none,.ref S],[(y,d)]⟩) R s:=by
 have hSw:S ∉ wr:=fun z=>hSf (W.sub _ z)
 have nm:(toString "max"++toString ".loop":String)="max.loop":=by decide
 (refine codeAny_builtin F.entry_max_loop ?_);rw[Around.under_plainId F.plain_max_loop _]
 (show wpAny _ A.in1 (seqItems? (.ref S) >>= _) _ _ s);refine wpAny_bind (wpAny_seqItems hS rfl ?_)
 (show wpAny _ A.in1 (tryCatch (pyNext (.ref I)) _ >>= _) _ _ s)
 by_cases h0:its.size=0
 ·refine wpAny_bind (wpAny_tryCatch (W.done s _ _ (by rw[h0];exact st) fun h' tk hk'=>?_))
  show wpAny _ A.in1 (rule _ >>= fun _=>ret d) _ _ _
  refine wpAny_bind (wpAny_rule (wpAny_pure ?_))
  exact Px h0 h' tk fun b o hb _ e=>hk' b o hb e
 ·have lt:0<its.size:=by omega
  refine wpAny_bind (wpAny_tryCatch (W.item 0 s _ _ lt st fun v h' tk hP st' hk'=>?_))
  have hS':=hk' S _ hSw hS
  obtain⟨u,rfl⟩:=hv 0 v hP
  (show wpAny _ A.in1 (updateSeq S (fun _=> #[.int (val 0) u,.int (val 0) u]) >>= _) _ _ _);(refine wpAny_bind ?_)
  (refine wpAny_updateSeq hS' rfl ?_);rw[nm]
  refine wpAny_pure ⟨plainId_quiet F.plain_max_loop _,Ef W hv S hSf _ 1 _ (val 0) u _ rfl lt (W.frame _ _ _ st' fun b hbf o e=>(Heap.get?_update_other _ _ (fun z:S=b=>hSf (z▸hbf))).trans e) (Heap.get?_update_self _ hS' rfl) ⟨0,Nat.one_pos,rfl⟩ (fun i hi=>by rw[show i=0 by omega];exact Int.le_refl _) fun m t' h2 tk2 a1 a2 k2=>?_⟩
  exact hR m t' h2 tk2 a1 a2 fun b o hb1 hb2 e=>k2 b o hb1 hb2 ((Heap.get?_update_other _ _ (Ne.symm hb2)).trans (hk' b o hb1 e))
end
section
variable {prog:Program} {w:World} {A:Around} {E:Value→Shared→Prop} {s:Shared}
theorem Eg {id:String} {b:Builtin} {args:List Value} {kw:List (Str×Value)} {Q:Value→Shared→Prop} (hk:builtinKind id=none) (hp:plainId id=true) (hb:entryFor table id=some b) (ha:argsOk id ⟨args,kw⟩)
  (hc:wpAny (model prog w) A.in1 (b ⟨args,kw⟩) (fun fin s'=>match fin with
   | .done f=>(match (Except.ok f:Result) with | .ok (.ret v)=>Q v s' | .ok _=>False | .error e=>E e s')
   | .again c=>c.quiet=true∧codeAny (model prog w) A c (fun r s'=>match r with | .ok (.ret v)=>Q v s' | .ok _=>False | .error e=>E e s') s') E s):
  wpAny (model prog w) A (call (.builtin id) args kw) Q E s:=by
 (refine wpAny_call (codeAny_call_builtin hp hb ?_));simp only[checkBuiltinCall,hk]
 cases hg:Manifest.signature? id with
 | none=>exact wpAny_pure hc
 | some sig=>
  have h2:Bind.checkArgs id sig ⟨args,kw⟩=pure ():=by simpa only[argsOk,hg] using ha
  simp only[h2]
  exact wpAny_pure hc
theorem rV {l:Addr} {its:Array Value} {val:Nat→Int} {d:Value} {Q:Value→Shared→Prop} (hh:A.handled=none) (hl:s.heap.IsList l its) (hv:∀(i:Nat) v,its[i]? =some v→∃t,v=.int (val i) t)
  (h0:its.size=0→∀h' tk,(∀b o,s.heap.get? b=some o→h'.get? b=some o)→Q d {s with heap:=h',toks:=tk})
  (h1:∀(m:Int) t' h' tk,(∃i,i<its.size∧m=val i)→(∀i,i<its.size→val i≤m)→(∀b o,s.heap.get? b=some o→h'.get? b=some o)→Q (.int m t') {s with heap:=h',toks:=tk}):
  wpAny (model prog w) A (call (.builtin "max") [.ref l] [(Str.ofString "default",d)]) Q E s:=by
 have nm:(toString "max"++toString ".loop":String)="max.loop":=by decide
 refine Eg F.kind_max F.plain_max F.entry_max (Ee _ d) ?_
 show wpAny _ A.in1 (Builtin.Builtins.bindParams "max" ["key","default"] 0 ⟨[],[(Str.ofString "default",d)]⟩ >>= _) _ _ s
 refine wpAny_bind (wpAny_of_eq (show Builtin.Builtins.bindParams "max" ["key","default"] 0 ⟨[],[(Str.ofString "default",d)]⟩=pure [none,some d] from by with_unfolding_all rfl) ?_)
 (refine wpAny_bind (wpAny_pure ?_));(refine wpAny_bind ?_)
 have bl:l<s.heap.objs.size:=by obtain⟨o,e,_⟩:=hl;exact Heap.lt_size e
 refine wpAny_pyIter_list hl ?_
 (refine wpAny_bind (wpAny_newObj_type ?_));rw[nm]
 have W:=Walks.list (prog:=prog) (w:=w) (A:=A.in1) hh s.heap.objs.size l (Nat.ne_of_lt bl) its
 have old:∀(h1 h':Heap) (hs:∀b o,s.heap.get? b=some o→h1.get? b=some o),(∀b o,b ∉ [s.heap.objs.size]→b≠s.heap.objs.size+1→h1.get? b=some o→h'.get? b=some o)→∀b o,s.heap.get? b=some o→h'.get? b=some o:=fun h1 h' hs k b o e=>
  k b o (fun z=>Nat.ne_of_lt (Heap.lt_size e) (List.mem_singleton.mp z)) (Nat.ne_of_lt (Nat.lt_succ_of_lt (Heap.lt_size e))) (hs b o e)
 refine wpAny_pure ⟨plainId_quiet F.plain_max_loop _,BB (val:=val) W hv _ (fun hm=>?_) ⟨⟨_,Heap.get?_push_of_some _ (Heap.get?_push_size _ rfl),rfl,rfl⟩,(hl.push _).push _⟩ (Heap.get?_push_size _ rfl) (fun z h' tk k=>h0 z h' tk ?_) fun m t' h' tk a1 a2 k=>h1 m t' h' tk a1 a2 ?_⟩
 ·rw[Heap.size_push] at hm
  rcases List.mem_cons.mp hm with z | z
  ·exact Nat.succ_ne_self _ z
  ·exact Nat.ne_of_lt (Nat.lt_succ_of_lt bl) (List.mem_singleton.mp z).symm
 ·rw[Heap.size_push] at k
  exact old _ h' (fun b o e=>Heap.get?_push_of_some _ (Heap.get?_push_of_some _ e)) k
 ·rw[Heap.size_push] at k
  exact old _ h' (fun b o e=>Heap.get?_push_of_some _ (Heap.get?_push_of_some _ e)) k
end
section
variable {X:Cx}
theorem Eh {ns:List Int} {its:List Value} (r:Vals (ns.map V.int) its) (i:Nat) (v:Value) (e:its.toArray[i]? =some v):∃t,v=.int (ns.getD i 0) t:=by
 rw[List.getElem?_toArray] at e
 have hl:=r.length
 rw[List.length_map] at hl
 have hi:i<its.length:=(List.getElem?_eq_some_iff.mp e).1
 have en:(ns.map V.int)[i]? =some (.int (ns.getD i 0)):=by
  rw[List.getElem?_map,List.getD_eq_getElem?_getD,List.getElem?_eq_getElem (by omega:i<ns.length)]
  rfl
 obtain⟨u,eu,ru⟩:=r.get en
 rw[e] at eu
 cases eu
 exact ru
def Jm (K:PySem.W.Frag) (ta td:TA):TE:=fun σ H Q=>ta σ H fun vs H1=>td σ H1 fun ds H2=>∃(a:Addr) (ns:List Int) (d:V),vs=[.ref a]∧ds=[d]∧bp K H2 a (ns.map V.int)∧(ns=[]→Q d H2)∧∀m:Int,m∈ns→(∀x∈ns,x≤m)→Q (.int m) H2
theorem wI (K:PySem.W.Frag) {a e:Expr} {ta td:TA} {p pos kp:Pos} (hc:X.calm=true) (hg:Gl X "max") (hm:X.mg "max"=none) (ha:PA X [a] ta) (hd:PK X [⟨some (Str.ofString "default"),e,kp⟩] td) (hK:X.K=K:=by rfl)
  (hs:backTo pos (starEach [a] X.env)=(false,eval a X.env)::backTo pos (starEach [] X.env):=by rfl):PE X (.Call (.Name "max" p) [a] [⟨some (Str.ofString "default"),e,kp⟩] pos) (Jm K ta td):=by
 subst hK
 intro pins s σ H Q I h
 refine wpAny_Call_Name_kw (dP I hg hm zf ?_)
 refine PyProof.Rows.callWith_kw (aN (ha pos pins s σ H _ I h) fun us s1 ⟨vs,H1,I1,r1,q1⟩=>aN (hd pos pins s1 σ H1 _ I1 q1) fun ws s2 ⟨ds,H2,I2,r2,q2⟩=>?_) hs (by rw[hs];rfl) rfl rfl
 obtain⟨l,ns,d,rfl,rfl,hq,q0,q⟩:=q2
 obtain⟨u,rfl,ru⟩:=vals1 r1
 cases ru
 obtain⟨u,rfl,rd⟩:=vals1 r2
 obtain⟨its,rv,pl,hz⟩:=I2.list hq
 have hl:=rv.length
 rw[List.length_map] at hl
 refine rV (val:=fun i=>ns.getD i 0) (I2.ok.hd hc) pl.isList (Eh rv) (fun z h' tk k=>?_) fun m t' h' tk a1 a2 k=>?_
 ·refine⟨d,H2,I2.kept k,rd,q0 (List.eq_nil_of_length_eq_zero ?_)⟩
  simp only[List.size_toArray] at z
  omega
 ·simp only[List.size_toArray] at a1 a2
  refine⟨.int m,H2,I2.kept k,⟨t',rfl⟩,q m ?_ fun x hx=>?_⟩
  ·obtain⟨i,hi,e⟩:=a1
   rw[e,List.getD_eq_getElem?_getD,List.getElem?_eq_getElem (by omega:i<ns.length)]
   exact List.getElem_mem _
  ·obtain⟨i,hi,e⟩:=List.getElem_of_mem hx
   have:=a2 i (by omega)
   rw[List.getD_eq_getElem?_getD,List.getElem?_eq_getElem hi] at this
   rw[←e]
   exact this
end
end L2
namespace L2
open PySem PySem.Spec PyProof.Rows
open AutoSeq1 (wpAny_loadPart')
section
variable {prog:Program} {w:World} {A:Around} {E:Value→Shared→Prop} {s:Shared}
theorem fi {it t:Addr} {i:Nat} {items:Array Value} {x:Value} {Q:Value→Shared→Prop} (hit:s.heap.IsTupleIter it t i) (ht:s.heap.IsTuple t items) (hx:items[i]? =some x)
  (hQ:∀h',h'.IsTupleIter it t (i+1)→Heap.SameBut it s.heap h'→Q x {s with heap:=h'}):wpAny (model prog w) A (Builtin.SmallTypes.nextOf (.ref it)) Q E s:=by
 obtain⟨o,ho,hc,hd⟩:=id hit
 obtain⟨ol,hol,_,nl,hdl⟩:=ht
 unfold Builtin.SmallTypes.nextOf
 refine wpAny_bind (wpAny_callSpecial?_slot (name:=Str.ofString "__next__") hit.typeIs F.slot_tuple_iterator_next (wpAny_call_entry F.slot_tuple_iterator_next hit.typeIs F.entry_tuple_iterator_next ?_ (F.args_tuple_iterator_next_1 _)))
 (show wpAny _ _ (field (.ref it) 0 >>= _) _ _ s);(refine wpAny_bind (wpAny_field ho hd (x:=.ref t) rfl ?_))
 (show wpAny _ _ (if(Value.ref t == Value.none)=true then _ else _) _ _ s);rw[if_neg (show ¬((Value.ref t == Value.none)=true) from Bool.false_ne_true)]
 (show wpAny _ _ (field (.ref it) 1 >>= _) _ _ s);(refine wpAny_bind (wpAny_field ho hd (x:=.int i 0) rfl ?_))
 (show wpAny _ _ (seqItems? (.ref t) >>= _) _ _ s);(refine wpAny_bind (wpAny_seqItems hol hdl ?_))
 simp only[Int.toNat_natCast,hx];refine wpAny_bind (wpAny_setField ho hd (by simp) (wpAny_pure ⟨x,rfl,wpAny_pure (hQ _ ?_ (Heap.SameBut.update ..))⟩))
 exact⟨_,Heap.get?_update_self _ ho (Obj.isFreed_of_fields (Obj.data_mapFields hd _)),(Obj.cls_mapFields ..).trans hc,(by rw[Obj.data_mapFields hd];simp[rawInt])⟩
theorem iw {it t:Addr} {i:Nat} {items:Array Value} {Q:Value→Shared→Prop} (hh:A.handled=none) (hit:s.heap.IsTupleIter it t i) (ht:s.heap.IsTuple t items) (hx:items[i]? =none)
  (hE:∀h' e,Heap.ExtBut it s.heap h'→(∃o,h'.get? e=some o∧o.cls=.type "StopIteration")→E (.ref e) {s with heap:=h'}):wpAny (model prog w) A (Builtin.SmallTypes.nextOf (.ref it)) Q E s:=by
 obtain⟨o,ho,hc,hd⟩:=id hit
 obtain⟨ol,hol,_,nl,hdl⟩:=ht
 unfold Builtin.SmallTypes.nextOf
 refine wpAny_bind (wpAny_callSpecial?_slot (name:=Str.ofString "__next__") hit.typeIs F.slot_tuple_iterator_next (wpAny_call_entry F.slot_tuple_iterator_next hit.typeIs F.entry_tuple_iterator_next ?_ (F.args_tuple_iterator_next_1 _)))
 (show wpAny _ _ (field (.ref it) 0 >>= _) _ _ s);(refine wpAny_bind (wpAny_field ho hd (x:=.ref t) rfl ?_))
 (show wpAny _ _ (if(Value.ref t == Value.none)=true then _ else _) _ _ s);rw[if_neg (show ¬((Value.ref t == Value.none)=true) from Bool.false_ne_true)]
 (show wpAny _ _ (field (.ref it) 1 >>= _) _ _ s);(refine wpAny_bind (wpAny_field ho hd (x:=.int i 0) rfl ?_))
 (show wpAny _ _ (seqItems? (.ref t) >>= _) _ _ s);(refine wpAny_bind (wpAny_seqItems hol hdl ?_))
 simp only[Int.toNat_natCast,hx];refine wpAny_bind (wpAny_rule (wpAny_bind (wpAny_setField ho hd (by simp) ?_)))
 (show wpAny _ _ (newExc (.type "StopIteration") [] >>= _) _ _ _);(refine wpAny_bind ?_);simp only[newExc,newTuple]
 (refine wpAny_bind (wpAny_newObj_type ?_ (by size_fits)))
 (refine wpAny_bind (m:=firstArgMember _ _) (wpAny_of_eq (a:=Value.none) (by first | rfl | (simp only[firstArgMember];rfl)) ?_));(refine wpAny_newObj_type ?_ (by size_fits))
 simp only[raiseNew];refine wpAny_bind (wpAny_handled ?_)
 (first | rw[show A.in1.handled=none from hh] | rw[hh]);refine wpAny_bind (wpAny_pure (wpAny_throw ?_))
 exact hE _ _ (((Heap.SameBut.update (a:=it) ..).extBut.push _).push _) ⟨_,Heap.get?_push_size _ rfl,rfl⟩
theorem zm (hh:A.handled=none) (it t:Addr) (hne:t≠it) (items:Array Value):Draws prog w A it [it,t] items.size (fun i v=>items[i]? =some v) (fun i h=>h.IsTupleIter it t i∧h.IsTuple t items) where
 live:=fun _ _ st=>let ⟨o,ho,_⟩:=st.1;⟨o,ho⟩
 frame:=fun _ _ _ st hk=>⟨(let ⟨o,ho,r⟩:=st.1;⟨o,hk it (by simp) o ho,r⟩),(let ⟨o,ho,r⟩:=st.2;⟨o,hk t (by simp) o ho,r⟩)⟩
 item:=fun i s Q E hi st hQ=>fi st.1 st.2 (x:=items[i]) (by simp[hi]) fun h' hit' hs'=>hQ _ h' s.toks (by simp[hi]) ⟨hit',(let ⟨o,ho,r⟩:=st.2;⟨o,(hs'.2 t hne).trans ho,r⟩)⟩ hs'
 done:=fun s Q E st hE=>iw hh st.1 st.2 (by simp) hE
theorem xF (hh:A.handled=none) (it t:Addr) (items:Array Value) (i:Nat) (hx:items[i]? =none):Draws prog w A it [it,t] 0 (fun _ _=>True) (fun _ h=>h.IsTupleIter it t i∧h.IsTuple t items) where
 live:=fun _ _ st=>let ⟨o,ho,_⟩:=st.1;⟨o,ho⟩
 frame:=fun _ _ _ st hk=>⟨(let ⟨o,ho,r⟩:=st.1;⟨o,hk it (by simp) o ho,r⟩),(let ⟨o,ho,r⟩:=st.2;⟨o,hk t (by simp) o ho,r⟩)⟩
 item:=fun i s Q E hi st hQ=>absurd hi (Nat.not_lt_zero _)
 done:=fun s Q E st hE=>iw hh st.1 st.2 hx hE
end
theorem pq (l:Addr) (items:Array Value) (n:Nat) (dct:Option Addr) (sl:Array (Option Value)):
  Meets (Builtin.«enumerate.__new__» ⟨[.type "enumerate",.ref l],[]⟩) (fun _ R s=>s.heap.get? l=some {cls:=.type "tuple",dict:=dct,data:=.seq items n,slots:=sl}∧R (.ok (.ret (.ref (s.heap.push {cls:=.type "tuple_iterator",data:=.fields #[.ref l,.int 0 0]}).objs.size)))
    {s with heap:=(s.heap.push {cls:=.type "tuple_iterator",data:=.fields #[.ref l,.int 0 0]}).push {cls:=.type "enumerate",data:=.fields #[.none,.bool false,.ref s.heap.objs.size,rawInt 0,.none,.none]}}):=
 .of_wp fun prog w A R s h=>by
  obtain⟨hp,g,d,tk,os⟩:=s
  obtain⟨hl,h⟩:=h
  have hsub:=sub_enumerate
  have hL:Heap.IsTuple (Shared.heap ⟨hp,g,d,tk,os⟩) l items:=⟨_,hl,rfl,n,rfl⟩
  wp_walk using wpAny_loadPart' hl
  (refine wpAny_stack_any fun st=>wpAny_pure ?_);split
  ·rename_i c _ _ _ _ _
   cases(c == Value.type "enumerate")
   ·wp_walk using wpAny_loadPart' hl,wpAny_pyIter_tuple hL
    exact⟨_,rfl,h⟩
   ·wp_walk using wpAny_loadPart' hl,wpAny_pyIter_tuple hL
    exact⟨_,rfl,h⟩
  ·wp_walk using wpAny_loadPart' hl,wpAny_pyIter_tuple hL
   exact⟨_,rfl,h⟩
section
variable {prog:Program} {w:World} {A:Around} {E:Value→Shared→Prop} {s:Shared}
theorem rW {l:Addr} {items:Array Value} {Q:Value→Shared→Prop} (hL:s.heap.IsTuple l items)
  (h:∀h',IsEnum h' (s.heap.objs.size+1) s.heap.objs.size 0 .none→h'.IsTupleIter s.heap.objs.size l 0→h'.objs.size=s.heap.objs.size+2→(∀b o,s.heap.get? b=some o→h'.get? b=some o)→Q (.ref (s.heap.objs.size+1)) {s with heap:=h'}):
  wpAny (model prog w) A (call (.type "enumerate") [.ref l]) Q E s:=by
 obtain⟨⟨c,dct,dt,sl⟩,hl,hc,n,hd⟩:=hL
 replace hc:c=.type "tuple":=hc
 replace hd:dt=.seq items n:=hd
 subst hc hd
 refine callType_new F.called_enumerate (by decide) (F.typeCall_enumerate_1 _) (F.newCall_enumerate_1 _) (fun obj=>F.args_object_init_2 obj _) F.entry_enumerate_new (pq l items n dct sl) ⟨hl,?_⟩
 have hz:(s.heap.push {cls:=.type "tuple_iterator",data:=.fields #[.ref l,.int 0 0]}).objs.size=s.heap.objs.size+1:=Heap.size_push ..
 show _∧_
 rw[hz]
 have he:IsEnum ((s.heap.push {cls:=.type "tuple_iterator",data:=.fields #[.ref l,.int 0 0]}).push {cls:=.type "enumerate",data:=.fields #[.none,.bool false,.ref s.heap.objs.size,rawInt 0,.none,.none]}) (s.heap.objs.size+1) s.heap.objs.size 0 .none:=by
  have:=Heap.get?_push_size (s.heap.push {cls:=.type "tuple_iterator",data:=.fields #[.ref l,.int 0 0]}) (o:={cls:=.type "enumerate",data:=.fields #[.none,.bool false,.ref s.heap.objs.size,rawInt 0,.none,.none]}) rfl
  rw[hz] at this;exact this
 exact⟨⟨_,he,rfl⟩,h _ he ⟨_,Heap.get?_push_of_some _ (Heap.get?_push_size _ rfl),rfl,rfl⟩ (by rw[Heap.size_push,hz]) fun b o x=>Heap.get?_push_of_some _ (Heap.get?_push_of_some _ x)⟩
end
def qg (K:PySem.W.Frag) (a:Addr):It:=
 ⟨fun i H=>∃xs x,bo K H a xs∧xs[i]? =some x,
  fun i H x H'=>∃y p,(∀xs,bo K H a xs→xs[i]? =some y)∧H p=none∧x=.ref p∧H'=upd H p (.tup [.int i,y]),
  fun i H=>∃xs,bo K H a xs∧xs.length≤i⟩
theorem xG {P:Program} {w:World} {K:PySem.W.Frag} {elts:List Expr} {x1} {tpos:Pos} (a e it:Addr) (hne:e≠it) (Py:e≠a) (hia:it≠a):
  Turn P w K (.Tuple elts x1 tpos) (qg K a) [e,it] e (fun i h=>(∃old,IsEnum h e it i old)∧h.IsTupleIter it a i) where
 mem:=by simp
 obj:=fun i h st b hb=>by
  obtain⟨⟨old,st1⟩,st2⟩:=st
  rcases List.mem_cons.mp hb with z | z
  ·subst z;exact⟨_,st1,fun v z=>by cases z⟩
  ·have z':b=it:=by simpa using z
   subst z'
   obtain⟨o,e,c,d⟩:=st2
   exact⟨o,e,fun v z=>by rw[d] at z;cases z⟩
 keep:=fun i h h' st k=>by
  obtain⟨⟨old,st1⟩,st2⟩:=st
  exact⟨⟨old,k e (by simp) _ st1⟩,let ⟨o,q,r⟩:=st2;⟨o,k it (by simp) o q,r⟩⟩
 item:=by
  intro X hP hw hK hc i pins s σ H E I hf st hg
  subst hP hw hK
  obtain⟨⟨old,st1⟩,st2⟩:=st
  obtain⟨xs,x,hq,hx⟩:=hg
  obtain⟨its,rv,p,hz⟩:=I.tuple hq
  obtain⟨u,hu,ru⟩:=rv.get hx
  have hlt:i<its.toArray.size:=by
   have:=(List.getElem?_eq_some_iff.mp hu).1
   simpa using this
  have D:=zm (prog:=X.prog) (w:=X.w) (A:=X.A.in1) (I.ok.hd hc) it a (Ne.symm hia) its.toArray
  refine wpAny_pyNext_enum_itemD D st1 ⟨st2,p⟩ hlt hne (by simp[hne,Py]) fun v h1 tk hv eo FF ht hsz kk=>?_
  have ev:v=u:=by
   have:its[i]? =some v:=by simpa using hv
   rw[hu] at this
   exact(Option.some.inj this).symm
  subst ev
  have nn:H s.heap.objs.size=none:=I.hok.fresh (Nat.le_refl _)
  have I1:Inv X pins σ (upd H s.heap.objs.size (.tup [.int i,x])) {s with heap:=h1,toks:=tk+1}:=
   I.kT (ch:=[e,it]) hf (fun b o hb q=>kk b o (fun z=>hb (by simp[z])) (fun z=>hb (by simp[z])) q) (Nat.le_refl _)
    ⟨⟨by show 2≤sizeLine;decide,_,ht,rfl⟩,[.int i tk,v],.cons ⟨_,rfl⟩ (.cons ru .nil),⟨_,ht,rfl,_,rfl⟩⟩
  have le:e<s.heap.objs.size:=Heap.lt_size st1
  have li:it<s.heap.objs.size:=by obtain⟨o,q,_⟩:=id st2;exact Heap.lt_size q
  refine⟨_,rfl,wpAny_letOwnedTupleGo_enum eo fun h2 e2 sb=>?_⟩
  obtain⟨f0,f1,f2,f3,f4,f5⟩:=hf e (by simp)
  have I2:=I1.turned (h':=h2) (t':=tk+1) (it:=e) (fun b o hb q=>(sb.2 b hb).trans q) (by rw[ao (Nat.ne_of_lt le)];exact f0) f1 f3 f4 f5
  refine⟨.ref s.heap.objs.size,_,I2,rfl,⟨x,s.heap.objs.size,fun ys hy=>by rw[I.gD hy hq];exact hx,nn,rfl,rfl⟩,⟨⟨v,by simpa using e2⟩,let ⟨o,q,r⟩:=FF.1;⟨o,(sb.2 it (Ne.symm hne)).trans q,r⟩⟩,fun b hb=>?_⟩
  rcases List.mem_cons.mp hb with z | z
  ·subst z;rw[ao (Nat.ne_of_lt le)];exact f0
  ·have z':b=it:=by simpa using z
   subst z';rw[ao (Nat.ne_of_lt li)];exact(hf b (by simp)).1
 done:=by
  intro X hP hw hK hc i pins s σ H E I hf st hg
  subst hP hw hK
  obtain⟨⟨old,st1⟩,st2⟩:=st
  obtain⟨xs,hq,hx⟩:=hg
  obtain⟨its,rv,p,hz⟩:=I.tuple hq
  obtain⟨f0,f1,f2,f3,f4,f5⟩:=hf it (by simp)
  have hl:=rv.length
  have D:=xF (prog:=X.prog) (w:=X.w) (A:=X.A.in1) (I.ok.hd hc) it a its.toArray i (by simp;omega)
  exact wpAny_pyNext_enum_endD D st1 ⟨st2,p⟩ fun h' eb=>⟨rfl,I.turned (t':=s.toks) (fun b o hb e=>eb b o hb e) f0 f1 f3 f4 f5⟩
 self:=fun _ _ _ _ _ st h=>by
  obtain⟨⟨old,st1⟩,st2⟩:=st
  exact wpAny_pyIter_enum st1 h
def F_ (K:PySem.W.Frag) (ta:TA):TI:=fun σ H R=>ta σ H fun vs H1=>∃a,vs=[.ref a]∧(∃xs,bo K H1 a xs)∧R (qg K a) H1
theorem jq {X:Cx} {elts:List Expr} {x1} {tpos:Pos} {a:Expr} {ta:TA} {p pos:Pos} (hg:Gl X "enumerate") (hm:X.mg "enumerate"=none) (ha:PA X [a] ta) (hs:starEach [a] X.env=[(false,eval a X.env)]:=by rfl):
  PI X (.Tuple elts x1 tpos) (.Call (.Name "enumerate" p) [a] [] pos) (F_ X.K ta):=by
 intro pins s σ H R I h
 refine Call_ (dP I hg hm boot_enumerate (PyProof.Rows.callWith_type1 (aN (ha pos pins s σ H _ I h) fun us s1 ⟨vs,H1,I1,r1,q1⟩=>?_) hs rfl))
 obtain⟨l,e,⟨xs,hq⟩,q⟩:=q1
 subst e
 cases r1 with
 | cons r rr=>
  cases rr
  cases r
  obtain⟨its,rv,pl,hz⟩:=I1.tuple hq
  have bl:l<s1.heap.objs.size:=by obtain⟨o,e,_⟩:=pl;exact Heap.lt_size e
  refine rW pl fun h' he hit hsz kk=>?_
  have I2:Inv X pins σ H1 {s1 with heap:=h'}:=I1.kept (t':=s1.toks) kk
  refine wpAny_pyIter_enum he ?_
  refine⟨s1.heap.objs.size+1,[s1.heap.objs.size+1,s1.heap.objs.size],_,_,H1,rfl,I2,xG l _ _ (Nat.succ_ne_self _) (Nat.ne_of_gt (Nat.lt_succ_of_lt bl)) (Nat.ne_of_gt bl),⟨⟨_,by simpa using he⟩,hit⟩,fun b hb=>?_,q⟩
  rcases List.mem_cons.mp hb with z | z
  ·subst z;exact I1.gv (Nat.le_succ _) (I1.hok.fresh (Nat.le_succ _))
  ·have z':b=s1.heap.objs.size:=by simpa using z
   subst z';exact I1.gv (Nat.le_refl _) (I1.hok.fresh (Nat.le_refl _))
theorem jU {K:PySem.W.Frag} {a:Addr} {xs:List V} {g:TG} {tb:TS} {D:Ends} {σ:St} {H:Hp} (Pv:Nat→St→Hp→Prop) (h0:Pv 0 σ H) (hl:∀i σ H,i≤xs.length→Pv i σ H→bo K H a xs)
  (hs:∀i x p σ H,xs[i]? =some x→Pv i σ H→H p=none→g (.ref p) σ (upd H p (.tup [.int i,x])) fun σ2 H2=>tb {D with nx:=Pv (i+1),ct:=Pv (i+1),bk:=D.nx} σ2 H2) (hd:∀σ H,Pv xs.length σ H→D.nx σ H):
  ∃W:Nat→Nat→St→Hp→Prop,(∃m,W 0 m σ H)∧∀i m σ H,W i m σ H→
   ((qg K a).stop i H∧D.nx σ H)∨((qg K a).go i H∧∃N:St→Hp→Prop,(∀σ' H',N σ' H'→∃m',m'<m∧W (i+1) m' σ' H')∧∀x H',(qg K a).lI i H x H'→g x σ H' fun σ2 H2=>tb {D with nx:=N,ct:=N,bk:=D.nx} σ2 H2):=by
 refine⟨fun i m σ H=>m=xs.length-i∧i≤xs.length∧Pv i σ H,⟨xs.length,by simp,Nat.zero_le _,h0⟩,?_⟩
 rintro i m σ H ⟨rfl,hi,p⟩
 have q:=hl i σ H hi p
 by_cases hlt:i<xs.length
 ·refine .inr ⟨⟨xs,xs[i],q,by simp[hlt]⟩,Pv (i+1),fun σ' H' p'=>⟨xs.length-(i+1),by omega,rfl,hlt,p'⟩,fun x H' y=>?_⟩
  obtain⟨z,pa,hz,hn,e1,e2⟩:=y
  subst e1 e2
  exact hs i z pa σ H (hz xs q) p hn
 ·have e:i=xs.length:=by omega
  subst e
  exact .inl ⟨⟨xs,q,Nat.le_refl _⟩,hd σ H p⟩
end L2
namespace L2
open PySem PySem.Spec PyProof.Rows
section
variable {X:Cx}
theorem xH {bs:List Bool} {its:List Value} (r:Vals (bs.map V.bl) its):its=bs.map Value.bool:=by
 induction bs generalizing its with
 | nil=>cases r;rfl
 | cons b bs ih=>
  cases r with
  | cons r1 r2=>
   rw[List.map_cons,ih r2]
   exact congrArg (· ::_) r1
end
section
variable {X:Cx} {pins:List (Addr×Obj)} {σ:List (Option V)} {H:Hp} {s:Shared}
theorem Inv.freeze {d:Addr} {kvs:List (Key×V)} (I:Inv X pins σ H s) (e:H d=some (.dK kvs)):∃o,Inv X pins σ (upd H d (.bN o (.dK kvs))) s:=by
 obtain⟨hz,lo,vs,rel,dd⟩:=sH I.hok e
 obtain⟨o,es,ep,ho,r⟩:=id dd
 exact⟨o,I.write (x:=d) (e:=d) (o:=.bN o (.dK kvs)) (h':=s.heap) (t':=s.toks) (by rw[e];trivial) (.inl rfl) (fun b u _ q=>q) ⟨o,ho⟩ ⟨ho,hz,lo,vs,rel,dd⟩⟩
theorem Inv.frozen {d:Addr} {kvs:List (Key×V)} {o:Obj} (I:Inv X pins σ H s) (e:H d=some (.bN o (.dK kvs))):∃vs es ep,KV kvs vs∧o.data=.dict es ep∧s.heap.DictAt (a_ X.prog X.w) d vs ep∧(d == sysModules)=false:=by
 obtain⟨ho,hz,lo,vs,rel,dd⟩:=(show bK X.prog X.w H s.heap d (.bN o (.dK kvs)) from I.hok d _ e)
 obtain⟨o2,es,ep,ho2,r1,r2,r3⟩:=id dd
 have:o2=o:=by rw[ho] at ho2;exact(Option.some.inj ho2).symm
 subst this
 exact⟨vs,es,ep,rel,r2,⟨o2,es,ho2,r1,r2,r3⟩,lo⟩
end
theorem F' {k:Key} {v:Value} (h:jK k v=true):RelV (kV k) v:=by
 rcases cj h with⟨i,t,rfl,rfl⟩ | ⟨x,t,rfl,rfl⟩
 ·exact⟨t,rfl⟩
 ·exact⟨t,rfl⟩
theorem Jn {kvs:List (Key×V)} {vs:List (Key×Value)} (r:KV kvs vs) {i:Nat} {k:Key} {v:V} (e:kvs[i]? =some (k,v)):∃u,vs[i]? =some (k,u)∧RelV v u:=by
 unfold KV at r
 induction r generalizing i with
 | nil=>simp at e
 | @cons p q ps qs h t ih=>
  cases i with
  | zero=>
   have e':p=(k,v):=by simpa using e
   subst e'
   obtain⟨q1,q2⟩:=q
   obtain⟨h1,h2⟩:=h
   cases(show k=q1 from h1)
   exact⟨q2,rfl,h2⟩
  | succ i=>exact ih (by simpa using e)
def uf (d:Addr) (o:Obj) (kvs:List (Key×V)):It:=
 ⟨fun i H=>H d=some (.bN o (.dK kvs))∧i<kvs.length,fun i H x H'=>H'=H∧∃k v,kvs[i]? =some (k,v)∧x=kV k,fun i H=>H d=some (.bN o (.dK kvs))∧kvs.length≤i⟩
theorem q_ {P:Program} {w:World} {K:PySem.W.Frag} {tg:Expr} (d it:Addr) (o:Obj) (kvs:List (Key×V)):
  Turn P w K tg (uf d o kvs) [it] it (fun i h=>∃es ep,o.data=.dict es ep∧h.IsKeyIter it d i kvs.length ep) where
 mem:=by simp
 obj:=fun i h st b hb=>by
  have e:b=it:=by simpa using hb
  subst e
  obtain⟨_,_,_,o,e,c,d⟩:=st
  exact⟨o,e,fun v z=>by rw[d] at z;cases z⟩
 keep:=fun i h h' st k=>by
  obtain⟨es,ep,h1,st⟩:=st
  exact⟨es,ep,h1,st.at fun o e=>k it (by simp) o e⟩
 item:=by
  intro X hP hw hK hc i pins s σ H E I hf st hg
  subst hP hw hK
  obtain⟨es,ep,h1,st⟩:=st
  obtain⟨hH,hi⟩:=hg
  obtain⟨vs,es',ep',rel,h2,da,lo⟩:=I.frozen hH
  have ee:ep'=ep:=by rw[h1] at h2;cases h2;rfl
  subst ee
  have hl:kvs.length=vs.length:=rel.length
  obtain⟨⟨k,v⟩,hk⟩:∃p,kvs[i]? =some p:=⟨kvs[i],by simp[hi]⟩
  obtain⟨u,hu,ru⟩:=Jn rel hk
  obtain⟨f0,f1,f2,f3,f4,f5⟩:=hf it (by simp)
  rw[hl] at st
  refine wpAny_pyNext_dict_item st da hu fun key h' hkey st' sb=>?_
  have I1:Inv X pins σ H {s with heap:=h'}:=I.turned (t':=s.toks) (fun b o hb e=>(sb.2 b hb).trans e) f0 f1 f3 f4 f5
  obtain⟨o',e,c,d'⟩:=id st'
  rw[←hl] at st'
  exact⟨key,rfl,ni (s:={s with heap:=h'}) e c d' (by decide) ⟨kV k,H,I1,F' hkey,⟨rfl,k,v,hk,rfl⟩,⟨es,ep',h1,st'⟩,fun b hb=>(hf b hb).1⟩⟩
 done:=by
  intro X hP hw hK hc i pins s σ H E I hf st hg
  subst hP hw hK
  obtain⟨es,ep,h1,st⟩:=st
  obtain⟨hH,hi⟩:=hg
  obtain⟨vs,es',ep',rel,h2,da,lo⟩:=I.frozen hH
  have ee:ep'=ep:=by rw[h1] at h2;cases h2;rfl
  subst ee
  have hl:kvs.length=vs.length:=rel.length
  rw[hl] at st
  obtain⟨f0,f1,f2,f3,f4,f5⟩:=hf it (by simp)
  exact wpAny_pyNext_dict_end (I.ok.hd hc) st da (List.getElem?_eq_none (by omega)) fun h' eb=>⟨rfl,I.turned (t':=s.toks) (fun b o hb e=>eb b o hb e) f0 f1 f3 f4 f5⟩
 self:=fun _ _ _ _ _ st h=>by
  obtain⟨_,_,_,st⟩:=st
  exact wpAny_pyIter_keyiter st h
section
variable {X:Cx} {tg:Expr}
def Ga (tl:TE):TI:=fun σ H R=>tl σ H fun x H1=>∃d kvs,x=.ref d∧H1 d=some (.dK kvs)∧∀o,R (uf d o kvs) (upd H1 d (.bN o (.dK kvs)))
def Gb (tl:TE):TI:=fun σ H R=>tl σ H fun x H1=>∃d kvs o,x=.ref d∧H1 d=some (.bN o (.dK kvs))∧R (uf d o kvs) H1
theorem oA {l:Expr} {tl:TE} (hl:PE X l tl):PI X tg l (Gb tl):=by
 intro pins s σ H R I h
 refine aN (hl pins s σ H _ I h) fun v s1 ⟨x,H1,I1,r1,q1⟩=>?_
 obtain⟨d,kvs,o,e,hd,q⟩:=q1
 subst e
 cases r1
 obtain⟨vs,es,ep,rel,h2,da,lo⟩:=I1.frozen hd
 have hl':kvs.length=vs.length:=rel.length
 refine wpAny_pyIter_dict lo da ?_
 refine⟨s1.heap.objs.size,[s1.heap.objs.size],_,_,H1,rfl,I1.kept (t':=s1.toks) fun b o e=>Heap.get?_push_of_some _ e,q_ d _ o kvs,⟨es,ep,h2,⟨_,Heap.get?_push_size _ rfl,rfl,by rw[hl'];rfl⟩⟩,fun b hb=>?_,q⟩
 have e:b=s1.heap.objs.size:=by simpa using hb
 subst e
 exact I1.gv (Nat.le_refl _) (I1.hok.fresh (Nat.le_refl _))
theorem ug {l:Expr} {tl:TE} (hl:PE X l tl):PI X tg l (Ga tl):=by
 intro pins s σ H R I h
 refine aN (hl pins s σ H _ I h) fun v s1 ⟨x,H0,I0,r1,q1⟩=>?_
 obtain⟨d,kvs,e,hd0,q0⟩:=q1
 subst e
 cases r1
 obtain⟨o,I1⟩:=I0.freeze hd0
 have q:=q0 o
 have hd:(upd H0 d (.bN o (.dK kvs))) d=some (.bN o (.dK kvs)):=af
 generalize upd H0 d (.bN o (.dK kvs))=H1 at I1 q hd
 obtain⟨vs,es,ep,rel,h2,da,lo⟩:=I1.frozen hd
 have hl':kvs.length=vs.length:=rel.length
 refine wpAny_pyIter_dict lo da ?_
 refine⟨s1.heap.objs.size,[s1.heap.objs.size],_,_,H1,rfl,I1.kept (t':=s1.toks) fun b o e=>Heap.get?_push_of_some _ e,q_ d _ o kvs,⟨es,ep,h2,⟨_,Heap.get?_push_size _ rfl,rfl,by rw[hl'];rfl⟩⟩,fun b hb=>?_,q⟩
 have e:b=s1.heap.objs.size:=by simpa using hb
 subst e
 exact I1.gv (Nat.le_refl _) (I1.hok.fresh (Nat.le_refl _))
end
theorem oB {d:Addr} {ob:Obj} {kvs:List (Key×V)} {g:TG} {tb:TS} {D:Ends} {σ:St} {H:Hp} (Pv:Nat→St→Hp→Prop) (h0:Pv 0 σ H) (hl:∀i σ H,i≤kvs.length→Pv i σ H→H d=some (.bN ob (.dK kvs)))
  (hs:∀i k v σ H,kvs[i]? =some (k,v)→Pv i σ H→g (kV k) σ H fun σ2 H2=>tb {D with nx:=Pv (i+1),ct:=Pv (i+1),bk:=D.nx} σ2 H2) (hd:∀σ H,Pv kvs.length σ H→D.nx σ H):
  ∃W:Nat→Nat→St→Hp→Prop,(∃m,W 0 m σ H)∧∀i m σ H,W i m σ H→
   ((uf d ob kvs).stop i H∧D.nx σ H)∨((uf d ob kvs).go i H∧∃N:St→Hp→Prop,(∀σ' H',N σ' H'→∃m',m'<m∧W (i+1) m' σ' H')∧∀x H',(uf d ob kvs).lI i H x H'→g x σ H' fun σ2 H2=>tb {D with nx:=N,ct:=N,bk:=D.nx} σ2 H2):=by
 refine⟨fun i m σ H=>m=kvs.length-i∧i≤kvs.length∧Pv i σ H,⟨kvs.length,by simp,Nat.zero_le _,h0⟩,?_⟩
 rintro i m σ H ⟨rfl,hi,p⟩
 have q:=hl i σ H hi p
 by_cases hlt:i<kvs.length
 ·refine .inr ⟨⟨q,hlt⟩,Pv (i+1),fun σ' H' p'=>⟨kvs.length-(i+1),by omega,rfl,hlt,p'⟩,fun x H' y=>?_⟩
  obtain⟨rfl,k,v,hk,rfl⟩:=y
  exact hs i k v σ H' hk p
 ·have e:i=kvs.length:=by omega
  subst e
  exact .inl ⟨⟨q,Nat.le_refl _⟩,hd σ H p⟩
section
variable {X:Cx} {pins:List (Addr×Obj)} {σ:List (Option V)} {H:Hp} {s:Shared} {h':Heap}
theorem Inv.wJ {t':Nat} {ch:List Addr} (I:Inv X pins σ H s) (hf:∀b∈ch,fX X pins H b) (k:∀b u,b ∉ ch→s.heap.get? b=some u→h'.get? b=some u):Inv X pins σ H {s with heap:=h',toks:=t'}:=by
 have mq:∀b u,H b=some u→b ∉ ch:=fun b u e z=>by have q:=(hf b z).1;rw[e] at q;cases q
 refine I.step (g':=s.gens) (d':=s.drawn) (ch:=ch) (fun b hb=>?_) (fun b o _ _ hc e _=>k b o hc e) (fun b o _ _ hc e _=>⟨o.slots,k b o hc e⟩) (fun _ _ _ _ n=>n)
  (fun b o hc e=>⟨o,k b o hc e⟩) (fun _ _ e=>e) (fun _ _ _ e=>e) (fun b ps e=>⟨#[],by rw[e];simp⟩) (fun m hm=>?_) (fun b u e=>?_) I.bare
 ·obtain⟨f0,f1,f2,f3,f4,f5⟩:=hf b hb
  exact⟨f3,f1,f4,f5⟩
 ·obtain⟨ob,es,ep,ho,r⟩:=hm
  exact⟨ob,es,ep,k _ ob (fun z=>(hf _ z).2.1 rfl) ho,r⟩
 ·refine(I.hok b u e).stay (fun c v hc q=>k c v ?_ q) (fun _ q=>q) fun _ _ q=>q
  rcases hc with z | z
  ·rw[z];exact mq b u e
  ·exact mq c _ z
end
def qh (hi:Int) (n:Nat):It:=⟨fun i _=>i<n,fun i H x H'=>H'=H∧x=.int (hi-i),fun i _=>n≤i⟩
theorem vH {P:Program} {w:World} {K:PySem.W.Frag} {tg:Expr} (it:Addr) (hi:Int) (n:Nat):Turn P w K tg (qh hi n) [it] it (fun i h=>IsRangeIter h it (hi+(i:Nat)*(-1)) ((n:Int)-(i:Nat)) (-1)) where
 mem:=by simp
 obj:=fun i h st b hb=>by
  have e:b=it:=by simpa using hb
  subst e
  exact⟨_,st,fun v z=>by
   have z':Data.fields _=Data.cell v:=z
   cases z'⟩
 keep:=fun i h h' st k=>k it (by simp) _ st
 item:=by
  intro X hP hw hK hc i pins s σ H E I hf st hg
  subst hP hw hK
  obtain⟨f0,f1,f2,f3,f4,f5⟩:=hf it (by simp)
  have W:=Walks.range (prog:=X.prog) (w:=X.w) (I.ok.hd hc) it hi (-1) n
  refine W.item i s _ _ hg st fun v h' tk hv st' kk=>?_
  obtain⟨t,rfl⟩:=hv
  have I1:Inv X pins σ H {s with heap:=h',toks:=tk}:=I.turned (fun b o hb e=>kk b o (by simpa using hb) e) f0 f1 f3 f4 f5
  refine⟨_,rfl,ni (s:={s with heap:=h',toks:=tk}) (n:="range_iterator") st' rfl rfl (by decide) ⟨.int (hi-i),H,I1,⟨t,?_⟩,⟨rfl,rfl⟩,st',fun b hb=>(hf b hb).1⟩⟩
  rw[show hi+(i:Int)*(-1)=hi-(i:Int) by omega]
 done:=by
  intro X hP hw hK hc i pins s σ H E I hf st hg
  subst hP hw hK
  obtain⟨f0,f1,f2,f3,f4,f5⟩:=hf it (by simp)
  exact wpAny_pyNext_range_end (I.ok.hd hc) st (by have:n≤i:=hg;omega) fun h' eb=>⟨rfl,I.turned (t':=s.toks) (fun b o hb e=>eb b o hb e) f0 f1 f3 f4 f5⟩
 self:=fun _ _ _ _ _ st h=>wpAny_pyIter_rangeiter st h
theorem lK (a b:Int):Builtin.Range.rangeSize a b (-1)=if a>b then a-b else 0:=by
 unfold Builtin.Range.rangeSize
 simp only[show ¬((-1:Int)>0) by decide,if_false,Int.neg_neg,Int.ediv_one]
 split<;>omega
theorem zo {a b:Int} (ha: -(2 ^ 62)≤a) (ha':a<2 ^ 62) (hb: -(2 ^ 62)≤b) (hb':b<2 ^ 62):Builtin.Range.small a b (-1)=true:=by
 unfold Builtin.Range.small
 rw[lK]
 simp only[Builtin.Range.rangeFitsLong,Bool.and_eq_true,Bool.or_eq_true,decide_eq_true_eq,beq_iff_eq,show ¬((-1:Int)>0) by decide,if_false]
 split<;>omega
section
variable {X:Cx} {tg:Expr}
theorem zp {pins:List (Addr×Obj)} {σ:St} {H:Hp} {s:Shared} {R:It→Hp→Prop} {E:Value→Shared→Prop} {lo hi:Int} {t u v:Tok} {tk:Nat} (I:Inv X pins σ H s) (h1: -(2 ^ 62)≤lo) (h2:lo<2 ^ 62) (h3: -(2 ^ 62)≤hi) (h4:hi<2 ^ 62)
  (q:R (qh hi (hi-lo).toNat) H):wpAny (model X.prog X.w) X.A (pyIter (.ref s.heap.objs.size)) (PIE X pins σ tg R) E {s with heap:=s.heap.push {cls:=.type "range",data:=.fields #[.int hi t,.int lo u,.int (-1) v]},toks:=tk}:=by
 refine wpAny_pyIter_range (IsRange.new ..) (zo h3 h4 h1 h2) ?_
 have I1:Inv X pins σ H {s with heap:=s.heap.push {cls:=.type "range",data:=.fields #[.int hi t,.int lo u,.int (-1) v]},toks:=tk}:=I.kept fun b o e=>Heap.get?_push_of_some _ e
 refine⟨(s.heap.push {cls:=.type "range",data:=.fields #[.int hi t,.int lo u,.int (-1) v]}).objs.size,[(s.heap.push {cls:=.type "range",data:=.fields #[.int hi t,.int lo u,.int (-1) v]}).objs.size],_,_,H,rfl,
  I1.kept (t':=tk) fun b o e=>Heap.get?_push_of_some _ e,vH _ hi (hi-lo).toNat,?_,fun b hb=>?_,q⟩
 ·have e1:hi+((0:Nat):Int)*(-1)=hi:=by simp
  have e2:(((hi-lo).toNat:Nat):Int)-((0:Nat):Int)=Builtin.Range.rangeSize hi lo (-1):=by rw[lK];split<;>omega
  show IsRangeIter _ _ (hi+((0:Nat):Int)*(-1)) ((((hi-lo).toNat:Nat):Int)-((0:Nat):Int)) (-1)
  rw[e1,e2]
  exact Heap.get?_push_size _ rfl
 ·have e:b=(s.heap.push {cls:=.type "range",data:=.fields #[.int hi t,.int lo u,.int (-1) v]}).objs.size:=by simpa using hb
  subst e
  exact I1.gv (Nat.le_refl _) (I1.hok.fresh (Nat.le_refl _))
def Jo (ta:TA):TI:=fun σ H R=>ta σ H fun vs H1=>∃hi lo:Int,vs=[.int hi,.int lo,.int (-1)]∧(-(2 ^ 62)≤lo∧lo<2 ^ 62∧ -(2 ^ 62)≤hi∧hi<2 ^ 62)∧R (qh hi (hi-lo).toNat) H1
theorem zq {a b c:Expr} {ta:TA} {p pos:Pos} (hg:Gl X "range") (hm:X.mg "range"=none) (ha:PA X [a,b,c] ta) (hs:starEach [a,b,c] X.env=[(false,eval a X.env),(false,eval b X.env),(false,eval c X.env)]:=by rfl)
  (hs2:starEach [b,c] X.env=[(false,eval b X.env),(false,eval c X.env)]:=by rfl):PI X tg (.Call (.Name "range" p) [a,b,c] [] pos) (Jo ta):=by
 intro pins s σ H R I h
 refine Call_ (dP I hg hm boot_range (PyProof.Rows.callWith_type1 (aN (ha pos pins s σ H _ I h) fun us s1 ⟨vs,H1,I1,r1,q1⟩=>?_) (by rw[hs,hs2]) (by rw[hs2];rfl)))
 obtain⟨i,j,e,⟨q1,q2,q3,q4⟩,q⟩:=q1
 subst e
 cases r1 with
 | cons r rr=>
  cases rr with
  | cons r' rr=>
   cases rr with
   | cons r'' rr=>
    cases rr
    obtain⟨t,rfl⟩:=r
    obtain⟨t',rfl⟩:=r'
    obtain⟨t'',rfl⟩:=r''
    exact call_range_3 (by decide) (zp I1 q1 q2 q3 q4 q) (Or.inl (PyProof.noPylong_small (by omega)))
end
theorem xI {hi:Int} {n:Nat} {g:TG} {tb:TS} {D:Ends} {σ:St} {H:Hp} (Pv:Nat→St→Hp→Prop) (h0:Pv 0 σ H)
  (hs:∀i σ H,i<n→Pv i σ H→g (.int (hi-i)) σ H fun σ2 H2=>tb {D with nx:=Pv (i+1),ct:=Pv (i+1),bk:=D.nx} σ2 H2) (hd:∀σ H,Pv n σ H→D.nx σ H):
  ∃W:Nat→Nat→St→Hp→Prop,(∃m,W 0 m σ H)∧∀i m σ H,W i m σ H→
   ((qh hi n).stop i H∧D.nx σ H)∨((qh hi n).go i H∧∃N:St→Hp→Prop,(∀σ' H',N σ' H'→∃m',m'<m∧W (i+1) m' σ' H')∧∀x H',(qh hi n).lI i H x H'→g x σ H' fun σ2 H2=>tb {D with nx:=N,ct:=N,bk:=D.nx} σ2 H2):=by
 refine⟨fun i m σ H=>m=n-i∧i≤n∧Pv i σ H,⟨n,by simp,Nat.zero_le _,h0⟩,?_⟩
 rintro i m σ H ⟨rfl,hi',p⟩
 by_cases hlt:i<n
 ·refine .inr ⟨hlt,Pv (i+1),fun σ' H' p'=>⟨n-(i+1),by omega,rfl,hlt,p'⟩,fun x H' y=>?_⟩
  obtain⟨e,y⟩:=y
  subst e y
  exact hs i σ _ hlt p
 ·have e:i=n:=by omega
  subst e
  exact .inl ⟨Nat.le_refl _,hd σ H p⟩
end L2
namespace L2
open PySem PySem.Spec PyProof.Rows PySem.W PySem.Builtin PySem.Builtin.ObjectAttr
end L2
namespace L2
open PySem PySem.Spec PyProof.Rows
theorem zr (ys:List Str):(Txt.join ("":Str) ys).length≤(ys.map (·.length)).sum:=by
 cases ys with
 | nil=>exact Nat.le_of_eq rfl
 | cons a r=>
  unfold Txt.join
  rw[StrLaws.glued_eq_join,len_join_cons]
  have:(Str.length ("":Str))=0:=rfl
  rw[this]
  omega
end L2
namespace HT
open PySem PySem.Spec PyProof.Rows
section
variable {prog:Program} {w:World} {A:Around} {E:Value→Shared→Prop} {s:Shared}
theorem ml {t sl:Addr} {items:Array Value} {vl vu:Value} {lo hi:Option Int} {Q:Value→Shared→Prop} (ht:IsTup s.heap t items) (hs:s.heap.IsSliceOf sl vl vu .none) (pl:IsPart vl lo) (pu:IsPart vu hi)
  (hw:aU items.size 0 lo=0∧aU items.size items.size hi=items.size) (h:Q (.ref t) s):wpAny (model prog w) A (getItem (.ref t) (.ref sl)) Q E s:=by
 obtain⟨os,hos,hcs,hds⟩:=id hs
 have hTs:s.TypeIs (.ref sl) "slice":=⟨os,hos,hcs⟩
 unfold getItem
 try with_reducible refine wpAny_holding ?_
 first | refine wpAny_bind (wpAny_pure ?_) | skip
 refine wpAny_bind (wpAny_sequenceKey ht.typeIs (by decide) ?_)
 refine wpAny_bind (wpAny_callSpecial?_slot (name:=Str.ofString "__getitem__") ht.typeIs PyProof.Rows.slot_tuple_getitem
  (wpAny_call_entry PyProof.Rows.slot_tuple_getitem ht.typeIs entry_tuple_getitem ?_ (args_tuple_getitem _ _)))
 show wpAny _ _ (Builtin.Tuple.tupleItemsOf (.ref t) >>= _) _ _ s
 refine wpAny_bind (tupleItemsOf_ ht ?_)
 refine wpAny_bind (wpAny_typeOf hTs ?_)
 rw[if_pos (by decide)]
 refine wpAny_bind (jk hs pl pu ?_)
 have hyes:(((aU items.size 0 lo:Nat):Int) == 0&&(1:Int) == 1&&(aU items.size items.size hi-aU items.size 0 lo) == items.size)=true:=by
  rw[hw.1,hw.2];simp
 show wpAny _ _ (if(((aU items.size 0 lo:Nat):Int) == 0&&(1:Int) == 1&&(aU items.size items.size hi-aU items.size 0 lo) == items.size)=true then _ else _) _ _ s
 rw[if_pos hyes]
 refine wpAny_bind ?_
 unfold Builtin.Tuple.tupleIsExact
 refine wpAny_bind (wpAny_typeOf ht.typeIs (wpAny_pure ?_))
 rw[if_pos (by decide)]
 exact wpAny_bind (wpAny_rule (wpAny_pure ⟨_,rfl,wpAny_pure h⟩))
end
end HT
namespace L2
open PySem PySem.Spec PyProof.Rows
section
variable {X:Cx}
def Jp (K:PySem.W.Frag):V→Option Int→Option Int→Hp→VK→Prop:=fun x lo hi H Q=>∃a xs,x=.ref a∧bo K H a xs∧
 ((HT.aU xs.length 0 lo=0∧HT.aU xs.length xs.length hi=xs.length)→Q (.ref a) H)∧
 (¬(HT.aU xs.length 0 lo=0∧HT.aU xs.length xs.length hi=xs.length)→∀p,H p=none→Q (.ref p) (upd H p (.tup (eO xs lo hi))))
theorem Ei (K:PySem.W.Frag) (hK:X.K=K:=by rfl):wt X (Jp K):=by
 subst hK
 intro pins s σ H x v vl vu lo hi sl Q I rx hs pl pu h
 obtain⟨a,xs,rfl,hx,hw,q⟩:=h
 by_cases c:HT.aU xs.length 0 lo=0∧HT.aU xs.length xs.length hi=xs.length
 ·cases rx
  obtain⟨its,r,ht,hz⟩:=I.tuple hx
  have hlen:its.toArray.size=xs.length:=by rw[List.size_toArray];exact r.length.symm
  refine⟨"tuple",_,PyProof.Rows.slot_tuple_getitem.lookup,ht.typeIs,?_⟩
  exact HT.ml ht hs pl pu (by rw[hlen];exact c) ⟨.ref a,H,I,rfl,hw c⟩
 ·exact Fp pins s σ H _ v vl vu lo hi sl Q I rx hs pl pu ⟨a,xs,rfl,hx,c,q c⟩
end
section
open Builtin
theorem gA:fillsNumberSlot (.type "tuple") "mul"=pure false:=
 PySem.fillsNumberSlot_seq (id:="tuple.__mul__") (r:=some (.builtin "tuple.__rmul__")) PySem.F.slot_tuple_mul.lookup (by decide+kernel) PySem.F.slot_tuple_rmul.lookup (by decide+kernel)
theorem jr:seqRepeat? (.type "tuple")=pure (some (.builtin "tuple.__mul__")):=by
 unfold seqRepeat?
 rw[PySem.seqSlot_of (T:="tuple") (name:="__mul__") (id:="tuple.__mul__") PySem.F.slot_tuple_mul.lookup (by decide+kernel),PySem.seqSlot_of (T:="tuple") (name:="__rmul__") (id:="tuple.__rmul__") PySem.F.slot_tuple_rmul.lookup (by decide+kernel)]
 rfl
theorem g8 (a:Int) (t:Tok) (l:Addr) (items:Array Value) (n:Nat) (dd:Option Addr) (sl:Array (Option Value)):
  Meets (Builtin.«int.__rmul__» ⟨[.int a t,.ref l],[]⟩) (fun _ R s=>s.heap.get? l=some {cls:=.type "tuple",dict:=dd,data:=.seq items n,slots:=sl}∧R (.ok (.ret Value.notImplemented)) s):=
 .of_wp fun prog w A R s h=>by obtain⟨hp,g,d,tk,os⟩:=s;obtain⟨hl,h⟩:=h;wp_walk;exact⟨_,rfl,h⟩
theorem zt (l:Addr) (items:Array Value) (n:Nat) (dd:Option Addr) (sl:Array (Option Value)) (x:Int) (u:Tok) (hc0:¬(decide (x< -(2 ^ 63))||decide (x ≥ 2 ^ 63))=true) (hc1:¬(items.isEmpty||x == 1)=true) (hc2:¬(decide (x≤0)||items.isEmpty)=true)
  (hc3:¬((items.size:Int)*x>(2 ^ 63-1) / 8)) (hc4:¬Builtin.Tuple.tupleTooMany ((items.size:Int)*x)=true) (hc5:(List.foldl (fun x1 x2=>x1++x2) #[] (List.replicate x.toNat items)).size≤sizeLine):
  Meets (Builtin.«tuple.__mul__» ⟨[.ref l,.int x u],[]⟩) (fun _ R s=>s.heap.get? l=some {cls:=.type "tuple",dict:=dd,data:=.seq items n,slots:=sl}∧R (.ok (.ret (Value.ref s.heap.objs.size))) {s with heap:=s.heap.push {cls:=Value.type "tuple",data:=Data.seq (List.foldl (fun x1 x2=>x1++x2) #[] (List.replicate x.toNat items))},toks:=s.toks}):=
 .of_wp fun prog w A R s h=>by
  obtain⟨hp,g,d,tk,os⟩:=s;obtain⟨hl,h⟩:=h
  have f1:=AutoSeq1.idx_int
  have ht:IsTup hp l items:=⟨_,hl,rfl,n,rfl⟩
  wp_walk using wpAny_loadPart' hl
  rw[if_neg hc0]
  dsimp only
  refine wpAny_bind (tupleItemsOf_ ht ?_)
  rw[if_neg hc1]
  try dsimp only
  rw[if_neg hc2]
  try dsimp only
  rw[if_neg hc3]
  try dsimp only
  rw[if_neg hc4]
  try dsimp only
  first
   | exact wpAny_bind (m:=Builtin.Tuple.tupleExact _) (wpAny_newObj_type (wpAny_pure ⟨_,rfl,h⟩) hc5)
   | exact wpAny_bind (m:=Builtin.Tuple.tupleExact _) (wpAny_newObj_type (wpAny_pure h) hc5)
   | exact wpAny_bind (m:=Builtin.Tuple.tupleExact _) (wpAny_newObj_type (wpAny_bind (wpAny_pure (wpAny_pure ⟨_,rfl,h⟩))) hc5)
def Jq (K:PySem.W.Frag):R2:=fun x y H Q=>∃(a:Addr) (xs:List V) (k:Nat),x=.ref a∧y=.int (k:Int)∧bo K H a xs∧xs≠[]∧2≤k∧xs.length*k≤100000∧∀p,H p=none→Q (.ref p) (upd H p (.tup (List.replicate k xs).flatten))
theorem BD {X:Cx} (K:PySem.W.Frag) (hK:X.K=K:=by rfl):cY X (binaryOp .Mult) (Jq K):=by
 subst hK
 intro pins s σ H x y v u Q I rx ry h
 obtain⟨a,xs,k,rfl,rfl,ha,hx,hk,hz,q⟩:=h
 cases rx
 obtain⟨t,rfl⟩:=ry
 obtain⟨its,r,p1,_⟩:=I.tuple ha
 obtain⟨⟨cls,dd,data,sl⟩,ho,hc,n,hd⟩:=id p1
 simp only at hc hd
 subst hc hd
 have li:its.length=xs.length:=r.length.symm
 have lp:0<its.length:=by rw[li];exact List.length_pos_iff.mpr hx
 have mk:its.length*k≤100000:=by rw[li];exact hz
 have kk:k≤100000:=Nat.le_trans (Nat.le_mul_of_pos_left k lp) mk
 have e0:its.toArray.isEmpty=false:=by cases its with | nil=>simp at lp | cons _ _=>simp
 have e1:((its.toArray.size:Nat):Int)*(k:Int)=((its.length*k:Nat):Int):=by rw[List.size_toArray,Int.natCast_mul]
 have hnew:List.foldl (fun x1 x2=>x1++x2) #[] (List.replicate (k:Int).toNat its.toArray)=(List.replicate k its).flatten.toArray:=by
  have:=foldl_rep its k []
  rw[List.nil_append] at this
  rw[Int.toNat_natCast]
  exact this
 have lf:(List.replicate k its).flatten.length≤100000:=by rw[len_rep,Nat.mul_comm];exact mk
 have m0:¬(decide ((k:Int)< -(2 ^ 63))||decide ((k:Int) ≥ 2 ^ 63))=true:=by
  rw[decide_eq_false (by omega),decide_eq_false (by omega)];decide
 have m1:¬(its.toArray.isEmpty||(k:Int) == 1)=true:=by
  rw[e0,Bool.false_or]
  intro z
  have:=eq_of_beq z
  omega
 have m2:¬(decide ((k:Int)≤0)||its.toArray.isEmpty)=true:=by rw[e0,decide_eq_false (by omega)];decide
 have m3:¬(((its.toArray.size:Nat):Int)*(k:Int)>(2 ^ 63-1) / 8):=by rw[e1];omega
 have m4:¬Builtin.Tuple.tupleTooMany (((its.toArray.size:Nat):Int)*(k:Int))=true:=by
  rw[e1]
  simp[Builtin.Tuple.tupleTooMany,sizeLine]
  omega
 refine wpAny_binaryOp_repeat_ref (T:="tuple") (U:="int") (by decide) ⟨_,ho,rfl⟩ (fun s'=>typeIs_int s' _ t) gA PySem.F.fills_int_mul PySem.F.slot_int_rmul jr PySem.F.slot_int_index.lookup
  (call_meets PySem.F.slot_int_rmul (typeIs_int s _ t) PySem.F.entry_int_rmul (PySem.F.args_int_rmul_2 _ _) (g8 _ t a its.toArray n dd sl)
   ⟨ho,rfl,⟨_,ho,rfl⟩,call_meets PySem.F.slot_tuple_mul ⟨_,ho,rfl⟩ PySem.F.entry_tuple_mul (PySem.F.args_tuple_mul_2 _ _) (zt a its.toArray n dd sl _ t m0 m1 m2 m3 m4 (by rw[hnew,List.size_toArray];exact Nat.le_trans lf (by decide))) ⟨ho,?_⟩⟩)
 rw[hnew]
 refine⟨.ref _,_,I.laid (t':=s.toks) (o:=.tup (List.replicate k xs).flatten) (fun b ob q=>Heap.get?_push_of_some _ q) (Nat.le_refl _) ?_,rfl,q _ (I.hok.fresh (Nat.le_refl _))⟩
 exact⟨⟨by rw[len_rep,Nat.mul_comm];exact Nat.le_trans hz (by decide),_,Heap.get?_push_size _ rfl,rfl⟩,_,r.rep k,IsTup.new _ _⟩
end
section
variable {X:Cx} {e:Expr} {lo hi:Option Expr} {st:Expr} {te:TE} {tl th tk:TO} {p2 pos:Pos}
def L9 (K:PySem.W.Frag):List V→Hp→VK→Prop:=fun xs H Q=>∃(a:Addr) (bs:List Bool),xs=[.ref a]∧bp K H a (bs.map V.bl)∧Q (.bl (bs.any id)) H
theorem mH (K:PySem.W.Frag) (hc:X.calm=true) (hK:X.K=K:=by rfl):cQ X (.builtin "any") (L9 K):=by
 subst hK
 intro pins s σ H xs us Q I r h
 obtain⟨a,bs,rfl,hq,q⟩:=h
 obtain⟨u,rfl,ru⟩:=vals1 r
 cases ru
 obtain⟨its,rv,p,_⟩:=I.list hq
 have e:=xH rv
 have bl:a<s.heap.objs.size:=by obtain⟨o,e,_⟩:=p.isList;exact Heap.lt_size e
 refine call_any_walk ?_
 refine wpAny_pyIter_list p.isList ?_
 refine⟨s.heap.objs.size,_,_,_,_,_,fun i=>(bs.getD i false),rfl,Walks.list (A:=X.A.in1) (I.ok.hd hc) _ a (Nat.ne_of_lt bl) its.toArray,⟨⟨_,Heap.get?_push_size _ rfl,rfl,rfl⟩,p.isList.push _⟩,?_,fun h' tk k=>?_⟩
 ·intro i v s' Q' E' hv hQ'
  have:v=.bool (bs.getD i false):=by
   rw[List.getElem?_toArray,e,List.getElem?_map] at hv
   rw[List.getD_eq_getElem?_getD]
   cases eb:bs[i]? with
   | none=>rw[eb] at hv;cases hv
   | some b=>rw[eb] at hv;exact(Option.some.inj hv).symm
  rw[this]
  exact wpAny_truthy_bool hQ'
 ·refine⟨.bl (bs.any id),H,I.kept fun b o eo=>k b o (fun z=>Nat.ne_of_lt (Heap.lt_size eo) (List.mem_singleton.mp z)) (Heap.get?_push_of_some _ eo),?_,q⟩
  have hl:its.toArray.size=bs.length:=by simp[e]
  have ea:∀cs:List Bool,(List.range cs.length).any (fun i=>cs.getD i false)=cs.any id:=fun cs=>by
   induction cs with
   | nil=>rfl
   | cons c cs ih=>
    rw[List.length_cons,List.range_succ_eq_map,List.any_cons,List.any_map,List.any_cons,←ih]
    rfl
  show _=Value.bool _
  rw[hl,ea]
end
theorem rb {d:Addr} {ob:Obj} {kvs:List (Key×V)} {g:TG} {tt:TT} {te:TE} {D:Addr} {σ:St} {H:Hp} {R:Hp→Prop} (Pv:Nat→St→Hp→Prop) (h0:Pv 0 σ H) (hl:∀i σ H,i≤kvs.length→Pv i σ H→H d=some (.bN ob (.dK kvs)))
  (hs:∀i k v σ H,kvs[i]? =some (k,v)→Pv i σ H→g (kV k) σ H fun σ2 H2=>tt σ2 H2 fun b H3=>if b=true then te σ2 H3 fun y H4=>∃ys,H4 D=some (.lst ys)∧ys.length<sizeLine∧Pv (i+1) σ2 (upd H4 D (.lst (ys++[y]))) else Pv (i+1) σ2 H3)
  (hd:∀σ H,Pv kvs.length σ H→R H):gg (uf d ob kvs) g tt te D σ H R:=by
 refine⟨fun i m σ H=>m=kvs.length-i∧i≤kvs.length∧Pv i σ H,⟨kvs.length,by simp,Nat.zero_le _,h0⟩,?_⟩
 rintro i m σ H ⟨rfl,hi,p⟩
 have q:=hl i σ H hi p
 by_cases hlt:i<kvs.length
 ·refine .inr ⟨⟨q,hlt⟩,Pv (i+1),fun σ' H' p'=>⟨kvs.length-(i+1),by omega,rfl,hlt,p'⟩,fun x H' y=>?_⟩
  obtain⟨rfl,k,v,hk,rfl⟩:=y
  exact hs i k v σ H' hk p
 ·have e:i=kvs.length:=by omega
  subst e
  exact .inl ⟨⟨q,Nat.le_refl _⟩,hd σ H p⟩
theorem cb {X:Cx} {a:Expr} {ta:TE} (K:PySem.W.Frag) (ha:PE X a ta) (he:∀whole,isTrue a X.env whole=(do let v ←whole;standAt a.pos;holding [v] (truthy v))) (hK:X.K=K:=by rfl):
  PT X a (fun σ H Q=>ta σ H fun x H'=>∃k,Bi K x H' k∧Q k H'):=by subst hK;exact gw ha he
section
variable {prog:Program} {w:World} {A:Around} {E:Value→Shared→Prop} {s:Shared}
theorem bj {h h':Heap} {it t b:Addr} {i:Nat} (x:h.IsTupleIter it t i) (sb:Heap.ExtBut b h h') (n:it≠b):h'.IsTupleIter it t i:=let ⟨o,ho,r⟩:=x;⟨o,sb _ _ n ho,r⟩
theorem cO {h h':Heap} {t b:Addr} {ys:Array Value} (x:h.IsTuple t ys) (sb:Heap.ExtBut b h h') (n:t≠b):h'.IsTuple t ys:=let ⟨o,ho,r⟩:=x;⟨o,sb _ _ n ho,r⟩
theorem zu {z TI TO i1 i2 l1 l2:Addr} {k:Nat} {xs ys:Array Value} {x y a b:Value} {Q:Value→Shared→Prop} (D:ZipApart z TI TO i1 i2 l1 l2) (gz:IsZip s.heap z TI TO .none) (gI:IsPair s.heap TI (.ref i1) (.ref i2)) (gO:IsPair s.heap TO a b)
  (g1:s.heap.IsListIter i1 l1 k) (g2:s.heap.IsTupleIter i2 l2 k) (m1:s.heap.IsList l1 xs) (m2:s.heap.IsTuple l2 ys) (ex:xs[k]? =some x) (ey:ys[k]? =some y)
  (q:∀h',IsZip h' z TI TO (rawInt s.heap.objs.size)→IsPair h' TO x y→h'.IsListIter i1 l1 (k+1)→h'.IsTupleIter i2 l2 (k+1)→IsPair h' s.heap.objs.size x y→h'.objs.size=s.heap.objs.size+1→
   (∀c o,c≠z→c≠TO→c≠i1→c≠i2→s.heap.get? c=some o→h'.get? c=some o)→Q (.ref s.heap.objs.size) {s with heap:=h'}):
  wpAny (model prog w) A (Builtin.«zip.__next__» ⟨[.ref z],[]⟩) (fun fin s'=>∃v,fin=.done (.ret v)∧Q v s') E s:=by
 show wpAny _ _ (field (.ref z) 2 >>= _) _ _ _;refine wpAny_bind (wpAny_field gz rfl (x:=.bool false) rfl ?_)
 show wpAny _ _ (field (.ref z) 3 >>= _) _ _ _;refine wpAny_bind (wpAny_field gz rfl (x:=.ref TI) rfl ?_);refine wpAny_bind (wpAny_seqItems gI rfl ?_)
 show wpAny _ _ (Builtin.SmallTypes.ownedTupleIsFree (.ref z) >>= _) _ _ _;refine wpAny_bind ?_;unfold Builtin.SmallTypes.ownedTupleIsFree
 refine wpAny_bind (wpAny_field gz rfl (x:=.none) rfl (wpAny_pure ?_));simp only[if_true];refine wpAny_bind (wpAny_rule ?_)
 refine wpAny_bind (wpAny_field gz rfl (x:=.ref TO) rfl ?_);refine wpAny_bind (wpAny_setField_rec gz (by simp) fun h1 z1 s1=>?_)
 replace z1:IsZip h1 z TI TO .ellipsis:=z1
 refine wpAny_bind ?_;simp only[List.zipIdx_cons,List.zipIdx_nil,List.forIn_cons,List.forIn_nil];refine wpAny_bind (wpAny_bind (wpAny_onRaise ?_))
 show wpAny _ _ (Builtin.SmallTypes.nextOf (.ref i1) >>= _) _ _ _;refine wpAny_bind (wpAny_nextOf_list_item (g1.extBut s1.extBut D.i1z) (m1.extBut s1.extBut D.l1z) ex fun h2 zv s2=>wpAny_pure ?_)
 have O2:IsPair h2 TO a b:=s2.extBut _ _ D.TOi1 (s1.extBut _ _ D.TOz gO)
 refine wpAny_bind (wpAny_seqItems O2 rfl ?_);refine wpAny_bind (wpAny_updateSeq_pair O2 fun h3 O3 s3=>?_)
 replace O3:IsPair h3 TO x b:=O3
 refine wpAny_bind (wpAny_letGo (wpAny_pure ?_));refine wpAny_bind (wpAny_bind (wpAny_onRaise ?_))
 show wpAny _ _ (Builtin.SmallTypes.nextOf (.ref i2) >>= _) _ _ _;refine wpAny_bind (fi (bj (bj (bj g2 s1.extBut D.i2z) s2.extBut D.i12.symm) s3.extBut D.TOi2.symm) (cO (cO (cO m2 s1.extBut D.l2z) s2.extBut D.l2i1) s3.extBut D.l2TO) ey fun h4 Gd s4=>wpAny_pure ?_)
 have O4:IsPair h4 TO x b:=s4.extBut _ _ D.TOi2 O3
 refine wpAny_bind (wpAny_seqItems O4 rfl ?_);refine wpAny_bind (wpAny_updateSeq_pair O4 fun h5 O5 s5=>?_)
 replace O5:IsPair h5 TO x y:=O5
 refine wpAny_bind (wpAny_letGo (wpAny_pure (wpAny_pure ?_)));refine wpAny_bind (wpAny_seqItems O5 rfl ?_);refine wpAny_bind (wpAny_newTuple ?_)
 have sz:h5.objs.size=s.heap.objs.size:=by rw[s5.1,s4.1,s3.1,s2.1,s1.1]
 have z5:IsZip h5 z TI TO .ellipsis:=s5.extBut _ _ D.TOz.symm (s4.extBut _ _ D.i2z.symm (s3.extBut _ _ D.TOz.symm (s2.extBut _ _ D.i1z.symm z1)))
 have k5:∀c o,c≠z→c≠TO→c≠i1→c≠i2→s.heap.get? c=some o→h5.get? c=some o:=fun c o c1 c2 c3 c4 e=>s5.extBut _ _ c2 (s4.extBut _ _ c4 (s3.extBut _ _ c2 (s2.extBut _ _ c3 (s1.extBut _ _ c1 e))))
 have a5:h5.IsListIter i1 l1 (k+1):=((zv.extBut s3.extBut D.TOi1.symm).extBut s4.extBut D.i12).extBut s5.extBut D.TOi1.symm
 have b5:h5.IsTupleIter i2 l2 (k+1):=bj Gd s5.extBut D.TOi2.symm
 have zx:z<h5.objs.size:=Heap.lt_size z5
 show wpAny _ _ (Builtin.SmallTypes.ownedTupleHandOut (.ref z) (.ref h5.objs.size) >>= _) _ _ _
 refine wpAny_bind ?_;unfold Builtin.SmallTypes.ownedTupleHandOut
 have z6:IsZip (h5.push {cls:=.type "tuple",data:=.seq #[x,y]}) z TI TO .ellipsis:=Heap.get?_push_of_some _ z5
 refine wpAny_bind (wpAny_setField_rec z6 (by simp) fun h7 z7 s7=>?_)
 replace z7:IsZip h7 z TI TO (rawInt h5.objs.size):=z7
 refine wpAny_setField_rec z7 (by simp) fun h8 z8 s8=>?_
 replace z8:IsZip h8 z TI TO (rawInt h5.objs.size):=z8
 have up:∀c o,c≠z→h5.get? c=some o→h8.get? c=some o:=fun c o c1 e=>s8.extBut _ _ c1 (s7.extBut _ _ c1 (Heap.get?_push_of_some _ e))
 have T8:IsPair h8 h5.objs.size x y:=s8.extBut _ _ (Nat.ne_of_gt zx) (s7.extBut _ _ (Nat.ne_of_gt zx) (Heap.get?_push_size _ rfl))
 have e8:h8.objs.size=h5.objs.size+1:=by rw[s8.1,s7.1,Heap.size_push]
 rw[sz] at z8 T8 e8
 refine wpAny_pure ⟨_,rfl,?_⟩;show Q (.ref h5.objs.size) _;rw[sz]
 exact q h8 z8 (up _ _ D.TOz O5) (a5.at fun o e=>up _ o D.i1z e) (let ⟨o,ho,r⟩:=b5;⟨o,up _ _ D.i2z ho,r⟩) T8 e8 fun c o c1 c2 c3 c4 e=>up c o c1 (k5 c o c1 c2 c3 c4 e)
theorem BE {z TI TO i1 i2 l1 l2:Addr} {k:Nat} {xs ys:Array Value} {a b:Value} {Q:Fin→Shared→Prop} (hh:A.handled=none) (D:ZipApart z TI TO i1 i2 l1 l2) (gz:IsZip s.heap z TI TO .none) (gI:IsPair s.heap TI (.ref i1) (.ref i2)) (gO:IsPair s.heap TO a b)
  (g1:s.heap.IsListIter i1 l1 k) (g2:s.heap.IsTupleIter i2 l2 k) (m1:s.heap.IsList l1 xs) (m2:s.heap.IsTuple l2 ys) (ex:xs[k]? =none)
  (q:∀h' e,(∀c o,c≠z→c≠TO→c≠i1→c≠i2→s.heap.get? c=some o→h'.get? c=some o)→(∃o,h'.get? e=some o∧o.cls=.type "StopIteration")→E (.ref e) {s with heap:=h'}):
  wpAny (model prog w) A (Builtin.«zip.__next__» ⟨[.ref z],[]⟩) Q E s:=by
 show wpAny _ _ (field (.ref z) 2 >>= _) _ _ _;refine wpAny_bind (wpAny_field gz rfl (x:=.bool false) rfl ?_)
 show wpAny _ _ (field (.ref z) 3 >>= _) _ _ _;refine wpAny_bind (wpAny_field gz rfl (x:=.ref TI) rfl ?_);refine wpAny_bind (wpAny_seqItems gI rfl ?_)
 show wpAny _ _ (Builtin.SmallTypes.ownedTupleIsFree (.ref z) >>= _) _ _ _;refine wpAny_bind ?_;unfold Builtin.SmallTypes.ownedTupleIsFree
 refine wpAny_bind (wpAny_field gz rfl (x:=.none) rfl (wpAny_pure ?_));simp only[if_true];refine wpAny_bind (wpAny_rule ?_)
 refine wpAny_bind (wpAny_field gz rfl (x:=.ref TO) rfl ?_);refine wpAny_bind (wpAny_setField_rec gz (by simp) fun h1 z1 s1=>?_)
 replace z1:IsZip h1 z TI TO .ellipsis:=z1
 refine wpAny_bind ?_;simp only[List.zipIdx_cons,List.zipIdx_nil,List.forIn_cons,List.forIn_nil];refine wpAny_bind (wpAny_bind (wpAny_onRaise ?_))
 show wpAny _ _ (Builtin.SmallTypes.nextOf (.ref i1) >>= _) _ _ _;refine wpAny_bind (wpAny_nextOf_list_end hh (g1.extBut s1.extBut D.i1z) (m1.extBut s1.extBut D.l1z) ex fun h2 e s2 he=>?_)
 obtain⟨oe,hoe,hce⟩:=he
 have z2:IsZip h2 z TI TO .ellipsis:=s2 _ _ D.i1z.symm z1
 have Ge:e≠z:=fun x=>by subst x;rw[z2] at hoe;cases hoe;simp at hce
 refine wpAny_setField_rec z2 (by simp) fun h3 _ s3=>q h3 e (fun c o c1 _ c3 _ x=>s3.extBut _ _ c1 (s2 _ _ c3 (s1.extBut _ _ c1 x))) ⟨oe,s3.extBut _ _ Ge hoe,hce⟩
theorem zy {z TI TO i1 i2 l1 l2:Addr} {k:Nat} {xs ys:Array Value} {x y a b:Value} {Q:Option Value→Shared→Prop} (D:ZipApart z TI TO i1 i2 l1 l2) (gz:IsZip s.heap z TI TO .none) (gI:IsPair s.heap TI (.ref i1) (.ref i2)) (gO:IsPair s.heap TO a b)
  (g1:s.heap.IsListIter i1 l1 k) (g2:s.heap.IsTupleIter i2 l2 k) (m1:s.heap.IsList l1 xs) (m2:s.heap.IsTuple l2 ys) (ex:xs[k]? =some x) (ey:ys[k]? =some y)
  (q:∀h',IsZip h' z TI TO (rawInt s.heap.objs.size)→IsPair h' TO x y→h'.IsListIter i1 l1 (k+1)→h'.IsTupleIter i2 l2 (k+1)→IsPair h' s.heap.objs.size x y→h'.objs.size=s.heap.objs.size+1→
   (∀c o,c≠z→c≠TO→c≠i1→c≠i2→s.heap.get? c=some o→h'.get? c=some o)→Q (some (.ref s.heap.objs.size)) {s with heap:=h'}):wpAny (model prog w) A (pyNext (.ref z)) Q E s:=by
 have ty:s.TypeIs (.ref z) "zip":=⟨_,gz,rfl⟩
 unfold pyNext
 exact wpAny_bind (wpAny_attempt (wpAny_callSpecial?_slot (name:=Str.ofString "__next__") ty PySem.F.slot_zip_next (wpAny_call_entry PySem.F.slot_zip_next ty PySem.F.entry_zip_next (zu D gz gI gO g1 g2 m1 m2 ex ey fun h' a1 a2 a3 a4 a5 a6 a7=>wpAny_pure (q h' a1 a2 a3 a4 a5 a6 a7)) (PySem.F.args_zip_next_1 _))))
theorem xJ {z TI TO i1 i2 l1 l2:Addr} {k:Nat} {xs ys:Array Value} {a b:Value} {Q:Option Value→Shared→Prop} (hh:A.handled=none) (D:ZipApart z TI TO i1 i2 l1 l2) (gz:IsZip s.heap z TI TO .none) (gI:IsPair s.heap TI (.ref i1) (.ref i2)) (gO:IsPair s.heap TO a b)
  (g1:s.heap.IsListIter i1 l1 k) (g2:s.heap.IsTupleIter i2 l2 k) (m1:s.heap.IsList l1 xs) (m2:s.heap.IsTuple l2 ys) (ex:xs[k]? =none)
  (q:∀h',(∀c o,c≠z→c≠TO→c≠i1→c≠i2→s.heap.get? c=some o→h'.get? c=some o)→Q none {s with heap:=h'}):wpAny (model prog w) A (pyNext (.ref z)) Q E s:=by
 have ty:s.TypeIs (.ref z) "zip":=⟨_,gz,rfl⟩
 unfold pyNext
 refine wpAny_bind (wpAny_attempt (wpAny_callSpecial?_slot (name:=Str.ofString "__next__") ty PySem.F.slot_zip_next (wpAny_call_entry PySem.F.slot_zip_next ty PySem.F.entry_zip_next (BE hh D gz gI gO g1 g2 m1 m2 ex fun h' e hk he=>?_) (PySem.F.args_zip_next_1 _))))
 obtain⟨o,ho,hc⟩:=he
 exact wpAny_bind (wpAny_isInstance (T:="StopIteration") (b:=true) ⟨o,ho,hc⟩ isSubtype_stop (wpAny_pure (q _ hk)))
abbrev zE (l:Addr):Obj:={cls:=.type "list_iterator",data:=.fields #[.ref l,.int 0 0]}
abbrev uh (l:Addr):Obj:={cls:=.type "tuple_iterator",data:=.fields #[.ref l,.int 0 0]}
abbrev zA (h:Heap) (l1 l2:Addr):Heap:=(h.push (zE l1)).push (uh l2)
abbrev zB (h:Heap) (l1 l2:Addr):Heap:=(zA h l1 l2).push {cls:=.type "tuple",data:=.seq #[.ref h.objs.size,.ref (h.push (zE l1)).objs.size]}
abbrev zC (h:Heap) (l1 l2:Addr):Heap:=(zB h l1 l2).push {cls:=.type "tuple",data:=.seq #[.none,.none]}
abbrev zD (h:Heap) (l1 l2:Addr):Heap:=(zC h l1 l2).push {cls:=.type "zip",data:=.fields #[.none,.bool false,.bool false,.ref (zA h l1 l2).objs.size,.ref (zB h l1 l2).objs.size]}
theorem xK (l1 l2:Addr) (xs ys:Array Value):Meets (Builtin.«zip.__new__» ⟨[.type "zip",.ref l1,.ref l2],[]⟩) (fun _ R s=>s.heap.IsList l1 xs∧s.heap.IsTuple l2 ys∧R (.ok (.ret (.ref (zC s.heap l1 l2).objs.size))) {s with heap:=zD s.heap l1 l2}):=
 .of_wp fun prog w A R s h=>by
  obtain⟨hp,g,d,tk,os⟩:=s;obtain⟨m1,m2,h⟩:=h
  have hsub:=PySem.sub_zip
  have L1:Heap.IsList (Shared.heap ⟨hp,g,d,tk,os⟩) l1 xs:=m1
  have L2:Heap.IsTuple (Shared.heap ⟨hp.push (zE l1),g,d,tk,os⟩) l2 ys:=let ⟨o,ho,r⟩:=m2;⟨o,Heap.get?_push_of_some _ ho,r⟩
  wp_walk using wpAny_pyIter_list L1,wpAny_pyIter_tuple L2
  exact⟨_,rfl,h⟩
theorem zF {l1 l2:Addr} {xs ys:Array Value} {Q:Value→Shared→Prop} (m1:s.heap.IsList l1 xs) (m2:s.heap.IsTuple l2 ys)
  (q:∀h',IsZip h' (s.heap.objs.size+4) (s.heap.objs.size+2) (s.heap.objs.size+3) .none→IsPair h' (s.heap.objs.size+2) (.ref s.heap.objs.size) (.ref (s.heap.objs.size+1))→
   IsPair h' (s.heap.objs.size+3) .none .none→h'.IsListIter s.heap.objs.size l1 0→h'.IsTupleIter (s.heap.objs.size+1) l2 0→
   (∀c o,s.heap.get? c=some o→h'.get? c=some o)→Q (.ref (s.heap.objs.size+4)) {s with heap:=h'}):wpAny (model prog w) A (call (.type "zip") [.ref l1,.ref l2]) Q E s:=by
 refine callType_new PySem.F.called_zip (by decide) (PySem.F.typeCall_zip_2 _ _) (PySem.F.newCall_zip_2 _ _) (fun obj=>PySem.F.args_object_init_3 obj _ _) PySem.F.entry_zip_new (xK l1 l2 xs ys) ⟨m1,m2,?_⟩
 have e1:(s.heap.push (zE l1)).objs.size=s.heap.objs.size+1:=Heap.size_push ..
 have e2:(zA s.heap l1 l2).objs.size=s.heap.objs.size+2:=by rw[Heap.size_push,e1]
 have e3:(zB s.heap l1 l2).objs.size=s.heap.objs.size+3:=by rw[Heap.size_push,e2]
 have e4:(zC s.heap l1 l2).objs.size=s.heap.objs.size+4:=by rw[Heap.size_push,e3]
 have p5:(zD s.heap l1 l2).get? (zC s.heap l1 l2).objs.size=some _:=Heap.get?_push_size _ rfl
 have up:∀{c:Addr} {o:Obj},(zC s.heap l1 l2).get? c=some o→(zD s.heap l1 l2).get? c=some o:=fun x=>Heap.get?_push_of_some _ x
 have p4:(zD s.heap l1 l2).get? (zB s.heap l1 l2).objs.size=some _:=up (Heap.get?_push_size _ rfl)
 have p3:(zD s.heap l1 l2).get? (zA s.heap l1 l2).objs.size=some _:=up (Heap.get?_push_of_some _ (Heap.get?_push_size _ rfl))
 have ui:∀{c:Addr} {o:Obj},(zA s.heap l1 l2).get? c=some o→(zD s.heap l1 l2).get? c=some o:=fun x=>up (Heap.get?_push_of_some _ (Heap.get?_push_of_some _ x))
 have p2:(zD s.heap l1 l2).get? (s.heap.push (zE l1)).objs.size=some _:=ui (Heap.get?_push_size _ rfl)
 have p1:(zD s.heap l1 l2).get? s.heap.objs.size=some _:=ui (Heap.get?_push_of_some _ (Heap.get?_push_size _ rfl))
 show _∧_
 rw[e2,e3,e4] at p5
 rw[e1,e2] at p3
 rw[e3] at p4
 rw[e1] at p2
 rw[e4]
 exact⟨⟨_,p5,rfl⟩,q _ p5 p3 p4 ⟨_,p1,rfl,rfl⟩ ⟨_,p2,rfl,rfl⟩ fun c o x=>ui (Heap.get?_push_of_some _ (Heap.get?_push_of_some _ x))⟩
end
def BF (K:PySem.W.Frag) (a b:Addr):It:=
 ⟨fun i H=>∃xs ys x y,bp K H a xs∧bo K H b ys∧xs[i]? =some x∧ys[i]? =some y,
  fun i H v H'=>∃x y p,(∀xs,bp K H a xs→xs[i]? =some x)∧(∀ys,bo K H b ys→ys[i]? =some y)∧H p=none∧v=.ref p∧H'=upd H p (.tup [x,y]),
  fun i H=>∃xs ys,bp K H a xs∧bo K H b ys∧xs.length≤i⟩
theorem zG {P:Program} {w:World} {K:PySem.W.Frag} {elts:List Expr} {x1} {tpos:Pos} (a b z TI TO i1 i2:Addr) (D:ZipApart z TI TO i1 i2 a b):
  Turn P w K (.Tuple elts x1 tpos) (BF K a b) [z,TO,i1,i2,TI] z (fun i h=>IsZip h z TI TO .none∧IsPair h TI (.ref i1) (.ref i2)∧(∃x y,IsPair h TO x y)∧h.IsListIter i1 a i∧h.IsTupleIter i2 b i) where
 mem:=by simp
 obj:=fun i h st c hc=>by
  obtain⟨hz,hTI,⟨x,y,hTO⟩,h1,h2⟩:=st
  have hc':c=z∨c=TO∨c=i1∨c=i2∨c=TI:=by simpa using hc
  rcases hc' with q | q | q | q | q
  ·subst q;exact⟨_,hz,fun v e=>nomatch e⟩
  ·subst q;exact⟨_,hTO,fun v e=>nomatch e⟩
  ·subst q
   obtain⟨o,e,_,d⟩:=h1
   exact⟨o,e,fun v q=>by rw[d] at q;cases q⟩
  ·subst q
   obtain⟨o,e,_,d⟩:=h2
   exact⟨o,e,fun v q=>by rw[d] at q;cases q⟩
  ·subst q;exact⟨_,hTI,fun v e=>nomatch e⟩
 keep:=fun i h h' st k=>by
  obtain⟨hz,hTI,⟨x,y,hTO⟩,h1,h2⟩:=st
  exact⟨k z (by simp) _ hz,k TI (by simp) _ hTI,⟨x,y,k TO (by simp) _ hTO⟩,h1.at fun o q=>k i1 (by simp) o q,let ⟨o,ho,r⟩:=h2;⟨o,k i2 (by simp) o ho,r⟩⟩
 item:=by
  intro X hP hw hK hc i pins s σ H E I hf st hg
  subst hP hw hK
  obtain⟨hz,hTI,⟨u1,u2,hTO⟩,h1,h2⟩:=st
  obtain⟨xs,ys,x,y,hq,hq2,hx,hy⟩:=hg
  obtain⟨its,rv,p,_⟩:=I.list hq
  obtain⟨its2,px,p2,_⟩:=I.tuple hq2
  obtain⟨u,hu,ru⟩:=rv.get hx
  obtain⟨v,hv,rv'⟩:=px.get hy
  refine zy D hz hTI hTO h1 h2 p.isList (show s.heap.IsTuple b its2.toArray from p2) (x:=u) (y:=v) (by simpa using hu) (by simpa using hv) fun h1' a1 a2 a3 a4 a5 a6 kk=>?_
  have nn:H s.heap.objs.size=none:=I.hok.fresh (Nat.le_refl _)
  have uj:∀c∈[z,TO,i1,i2],fX X pins H c:=fun c hc=>hf c (by
   have hc':c=z∨c=TO∨c=i1∨c=i2:=by simpa using hc
   rcases hc' with q | q | q | q<;>simp[q])
  have I1:Inv X pins σ (upd H s.heap.objs.size (.tup [x,y])) {s with heap:=h1',toks:=s.toks}:=
   I.kT (ch:=[z,TO,i1,i2]) uj (fun c o hc q=>kk c o (fun e=>hc (by simp[e])) (fun e=>hc (by simp[e])) (fun e=>hc (by simp[e])) (fun e=>hc (by simp[e])) q) (Nat.le_refl _)
    ⟨⟨by show 2≤sizeLine;decide,_,a5,rfl⟩,[u,v],.cons ru (.cons rv' .nil),⟨_,a5,rfl,_,rfl⟩⟩
  have lz:z<s.heap.objs.size:=Heap.lt_size hz
  have Gf:TI<s.heap.objs.size:=Heap.lt_size hTI
  have Gg:TO<s.heap.objs.size:=Heap.lt_size hTO
  have l1:i1<s.heap.objs.size:=by obtain⟨o,q,_⟩:=id h1;exact Heap.lt_size q
  have l2:i2<s.heap.objs.size:=by obtain⟨o,q,_⟩:=id h2;exact Heap.lt_size q
  refine⟨_,rfl,wpAny_letOwnedTupleGo_zip a1 fun h2' e2 sb=>?_⟩
  obtain⟨f0,f1,f2,f3,f4,f5⟩:=hf z (by simp)
  have I2:=I1.turned (h':=h2') (t':=s.toks) (it:=z) (fun c o hc q=>(sb.2 c hc).trans q) (by rw[ao (Nat.ne_of_lt lz)];exact f0) f1 f3 f4 f5
  refine⟨.ref s.heap.objs.size,_,I2,rfl,⟨x,y,s.heap.objs.size,fun zs hy=>by rw[I.jj hy hq];exact hx,fun zs hz'=>by rw[I.gD hz' hq2];exact hy,nn,rfl,rfl⟩,
   ⟨e2,(sb.2 TI D.TIz).trans (kk _ _ D.TIz D.TITO D.TIi1 D.TIi2 hTI),⟨_,_,(sb.2 TO D.TOz).trans a2⟩,a3.at fun o q=>(sb.2 i1 D.i1z).trans q,let ⟨o,ho,r⟩:=a4;⟨o,(sb.2 i2 D.i2z).trans ho,r⟩⟩,fun c hc=>?_⟩
  have hlt:c<s.heap.objs.size:=by
   have hc':c=z∨c=TO∨c=i1∨c=i2∨c=TI:=by simpa using hc
   rcases hc' with q | q | q | q | q
   ·rw[q];exact lz
   ·rw[q];exact Gg
   ·rw[q];exact l1
   ·rw[q];exact l2
   ·rw[q];exact Gf
  rw[ao (Nat.ne_of_lt hlt)]
  exact(hf c hc).1
 done:=by
  intro X hP hw hK hc i pins s σ H E I hf st hg
  subst hP hw hK
  obtain⟨hz,hTI,⟨u1,u2,hTO⟩,h1,h2⟩:=st
  obtain⟨xs,ys,hq,hq2,hx⟩:=hg
  obtain⟨its,rv,p,_⟩:=I.list hq
  obtain⟨its2,px,p2,_⟩:=I.tuple hq2
  have hl:=rv.length
  have uj:∀c∈[z,TO,i1,i2],fX X pins H c:=fun c hc=>hf c (by
   have hc':c=z∨c=TO∨c=i1∨c=i2:=by simpa using hc
   rcases hc' with q | q | q | q<;>simp[q])
  exact xJ (I.ok.hd hc) D hz hTI hTO h1 h2 p.isList (show s.heap.IsTuple b its2.toArray from p2) (by simp;omega) fun h' kk=>
   ⟨rfl,I.wJ (t':=s.toks) (ch:=[z,TO,i1,i2]) uj (fun c o hc q=>kk c o (fun e=>hc (by simp[e])) (fun e=>hc (by simp[e])) (fun e=>hc (by simp[e])) (fun e=>hc (by simp[e])) q)⟩
 self:=fun _ _ _ _ _ st h=>wpAny_pyIter_zip st.1 h
def CM (K:PySem.W.Frag) (ta:TA):TI:=fun σ H R=>ta σ H fun vs H1=>∃a b,vs=[.ref a,.ref b]∧(∃xs,bp K H1 a xs)∧(∃ys,bo K H1 b ys)∧R (BF K a b) H1
theorem qi {X:Cx} {elts:List Expr} {x1} {tpos:Pos} {a b:Expr} {ta:TA} {p pos:Pos} (hg:Gl X "zip") (hm:X.mg "zip"=none) (ha:PA X [a,b] ta)
  (hs:starEach [a,b] X.env=[(false,eval a X.env),(false,eval b X.env)]:=by rfl) (hs2:starEach [b] X.env=[(false,eval b X.env)]:=by rfl):
  PI X (.Tuple elts x1 tpos) (.Call (.Name "zip" p) [a,b] [] pos) (CM X.K ta):=by
 intro pins s σ H R I h
 refine Call_ (dP I hg hm boot_zip (PyProof.Rows.callWith_type1 (aN (ha pos pins s σ H _ I h) fun us s1 ⟨vs,H1,I1,r1,q1⟩=>?_) (by rw[hs,hs2]) (by rw[hs2];rfl)))
 obtain⟨l1,l2,e,⟨xs,hq⟩,⟨ys,hq2⟩,q⟩:=q1
 subst e
 cases r1 with
 | cons r rr=>
  cases rr with
  | cons r' rr=>
   cases rr
   cases r
   cases r'
   obtain⟨its,rv,pl,_⟩:=I1.list hq
   obtain⟨its2,px,zH,_⟩:=I1.tuple hq2
   have a1:l1<s1.heap.objs.size:=by obtain⟨_,e,_⟩:=pl.isList;exact Heap.lt_size e
   have a2:l2<s1.heap.objs.size:=by obtain⟨_,e,_⟩:=(show s1.heap.IsTuple l2 its2.toArray from zH);exact Heap.lt_size e
   refine zF pl.isList (show s1.heap.IsTuple l2 its2.toArray from zH) fun h' hz hTI hTO hi1 hi2 kk=>?_
   have I2:Inv X pins σ H1 {s1 with heap:=h'}:=I1.kept (t':=s1.toks) kk
   refine wpAny_pyIter_zip hz ?_
   refine⟨s1.heap.objs.size+4,[s1.heap.objs.size+4,s1.heap.objs.size+3,s1.heap.objs.size,s1.heap.objs.size+1,s1.heap.objs.size+2],_,_,H1,rfl,I2,zG l1 l2 _ _ _ _ _ (zipApart_new a1 a2),⟨hz,hTI,⟨_,_,hTO⟩,hi1,hi2⟩,fun c hc=>?_,q⟩
   have hle:s1.heap.objs.size≤c:=by
    have hc':c=s1.heap.objs.size+4∨c=s1.heap.objs.size+3∨c=s1.heap.objs.size∨c=s1.heap.objs.size+1∨c=s1.heap.objs.size+2:=by simpa using hc
    rcases hc' with q | q | q | q | q<;>(rw[q];first | exact Nat.le_add_right _ _ | exact Nat.le_refl _)
   exact I1.gv hle (I1.hok.fresh hle)
theorem mI {K:PySem.W.Frag} {a b:Addr} {xs ys:List V} {g:TG} {tt:TT} {te:TE} {D:Addr} {σ:St} {H:Hp} {R:Hp→Prop} (Pv:Nat→St→Hp→Prop) (hlen:xs.length=ys.length) (h0:Pv 0 σ H) (hl:∀i σ H,i≤xs.length→Pv i σ H→bp K H a xs∧bo K H b ys)
  (hs:∀i x y p σ H,xs[i]? =some x→ys[i]? =some y→Pv i σ H→H p=none→g (.ref p) σ (upd H p (.tup [x,y])) fun σ2 H2=>tt σ2 H2 fun b H3=>if b=true then te σ2 H3 fun y H4=>∃ys,H4 D=some (.lst ys)∧ys.length<sizeLine∧Pv (i+1) σ2 (upd H4 D (.lst (ys++[y]))) else Pv (i+1) σ2 H3)
  (hd:∀σ H,Pv xs.length σ H→R H):gg (BF K a b) g tt te D σ H R:=by
 refine⟨fun i m σ H=>m=xs.length-i∧i≤xs.length∧Pv i σ H,⟨xs.length,by simp,Nat.zero_le _,h0⟩,?_⟩
 rintro i m σ H ⟨rfl,hi,p⟩
 obtain⟨q1,q2⟩:=hl i σ H hi p
 by_cases hlt:i<xs.length
 ·refine .inr ⟨⟨xs,ys,xs[i],ys[i]'(by omega),q1,q2,by simp[hlt],by simp[hlen▸hlt]⟩,Pv (i+1),fun σ' H' p'=>⟨xs.length-(i+1),by omega,rfl,hlt,p'⟩,fun v H' y=>?_⟩
  obtain⟨x,y,p',e1,e2,e3,rfl,rfl⟩:=y
  exact hs i x y p' σ H (e1 xs q1) (e2 ys q2) p e3
 ·have e:i=xs.length:=by omega
  subst e
  exact .inl ⟨⟨xs,ys,q1,q2,Nat.le_refl _⟩,hd σ H p⟩
theorem dW {α β:Type} {F:α→β→Prop}:∀{l:List α} {m:List β} {i:Nat} {a:α},Paired F l m→l[i]? =some a→∃b,m[i]? =some b∧F a b
 | _,_,_,_,.nil,h=>by simp at h
 | _,_,0,_,.cons r _,h=>by simp at h;subst h;exact⟨_,rfl,r⟩
 | _,_,i+1,_,.cons _ t,h=>by
  simp only[List.getElem?_cons_succ] at h ⊢
  exact dW t h
theorem kB:typeLookup (.type "list") "keys"=pure none:=by rw[typeLookup_type,builtinLookup_eq_fast];kernel_rfl
section
variable {P:Program} {w:World} {A:Around} {E:Value→Shared→Prop} {s:Shared}
theorem uk {a:Addr} {xs:Array Value} {k:Nat} {Q:Option Value→Shared→Prop} (hx:s.heap.get? a=some {cls:=.type "list",data:=.seq xs k}) (hA:A.handled=none)
  (h:∀h' tk,(∀b o,s.heap.get? b=some o→h'.get? b=some o)→Q none {s with heap:=h',toks:=tk}):wpAny (model P w) A (getAttr? (.ref a) "keys") Q E s:=by
 obtain⟨hp,g,d,tk,os⟩:=s
 have hT:∀tk',(⟨hp,g,d,tk',os⟩:Shared).TypeIs (.ref a) "list":=fun _=>⟨_,hx,rfl⟩
 have f1:=sub_AttributeError
 have f3:=F.slot_list_getattribute.lookup
 have f4:=F.slot_list_getattribute.bind (.ref a)
 have f5:=am_list_getattr_none
 have f6:=kB
 unfold getAttr? getAttrBy? getAttrBy
 repeat (any_goals (first | assumption | exact hT _ | ((with_reducible show wpAny _ _ (call (Value.builtin "list.__getattribute__") _ _) _ _ _);refine call_meets F.slot_list_getattribute (hT _) am_entry_list_getattribute (F.args_list_getattribute_2 _ _) (meets_getattribute_miss_list a xs k #[] "keys" _ kB (by decide+kernel) (by size_fits)) ⟨hx,hA,fun h' tk' e hx'=>?_⟩) | wp_step))
 obtain⟨t',u',he⟩:=hx'.there
 show wpAny _ _ (getattributeRaised _ _ _ _ _ _ _) _ _ _
 unfold getattributeRaised
 repeat (any_goals (first | assumption | wp_step))
 exact h _ _ hx'.keeps
end
theorem i_:entryFor table "dict.update.loop"=some Builtin.«dict.update.loop» :=entryFor_of_tree (by kernel_rfl)
theorem eL:plainId "dict.update.loop"=true:=by decide+kernel
section
variable {P:Program} {w:World} {A:Around} {R:Result→Shared→Prop} {I D:Addr} {fp wr:List Addr} {G:Array GenState→Array GenState→Prop} {n:Nat} {Pv:Nat→Value→Prop} {St:Nat→Shared→Prop}
def de (P:Program) (w:World) (h:Heap) (D:Addr) (wr:List Addr) (Pv:Nat→Value→Prop) (more:List (Key×Value)):Prop:=∀i v,Pv i v→∃p k key u o m,v=.ref p∧more[i]? =some (k,u)∧(a_ P w).is k key=true∧h.get? p=some o∧o.cls=.type "tuple"∧o.data=.seq #[key,u] m∧p≠D∧p ∉ wr
theorem zI (W:WalksS P w A.in1 I fp wr G n Pv St) (hDf:D ∉ fp) (more:List (Key×Value)) (hml:more.length=n) (hb:n<sizeLine):
  ∀(k i:Nat) (j:Int) (s:Shared),n-i=k→i≤n→St i s→de P w s.heap D wr Pv more→s.heap.DictOf (a_ P w) D (merged [] (more.take i))→
   (∀s',Moved (D::wr) G s s'→s'.heap.DictOf (a_ P w) D (merged [] more)→R (.ok (.ret .none)) s')→
   codeAny (model P w) A (.builtin "dict.update.loop" ⟨[.ref D,.ref I,rawInt j,.none],[]⟩) R s:=by
 have hDw:D ∉ wr:=fun z=>hDf (W.sub _ z)
 have sub:∀b∈wr,b∈D::wr:=fun b z=>List.mem_cons_of_mem _ z
 intro k
 induction k with
 | zero=>
  intro i j s hk hi st hp hd hR
  have e:i=n:=by omega
  subst e
  refine codeAny_builtin i_ ?_
  rw[Around.under_plainId eL]
  show wpAny (model P w) A.in1 (pyNext (.ref I) >>= _) _ _ s
  refine wpAny_bind (W.done s _ _ st fun s' mv=>?_)
  show wpAny (model P w) A.in1 (Builtin.Dict.addKeywords D [] >>= _) _ _ s'
  refine wpAny_bind (wpAny_pure ?_)
  refine wpAny_pure (hR s' (mv.mono sub) ?_)
  obtain⟨o,es,ep,ho,r⟩:=hd
  rw[List.take_of_length_le (by omega)] at r
  exact⟨o,es,ep,mv.heap D o hDw ho,r⟩
 | succ k ih=>
  intro i j s hk hi st hp hd hR
  have lt:i<n:=by omega
  refine codeAny_builtin i_ ?_
  rw[Around.under_plainId eL]
  show wpAny (model P w) A.in1 (pyNext (.ref I) >>= _) _ _ s
  refine wpAny_bind (W.item i s _ _ lt st fun v s' hv st' mv=>?_)
  obtain⟨p,kk,key,u,o,m,rfl,em,hkey,ho,hc,hdat,pD,pw⟩:=hp i v hv
  have ho':=mv.heap p o pw ho
  have hd':s'.heap.DictOf (a_ P w) D (merged [] (more.take i)):=by
   obtain⟨od,es,ep,hod,r⟩:=hd
   exact⟨od,es,ep,mv.heap D od hDw hod,r⟩
  have hT:s'.TypeIs (.ref p) "tuple":=⟨o,ho',hc⟩
  have hl:(merged [] (more.take i)).length≤sizeLine:=by
   have:=merged_length_le ([]:List (Key×Value)) (more.take i)
   rw[List.length_take] at this
   simp at this
   omega
  refine wpAny_bind (wpAny_holding ?_)
  refine wpAny_bind (wpAny_tryCatch ?_)
  unfold Builtin.Dict.pairItems
  refine wpAny_bind (wpAny_typeOf hT ?_)
  show wpAny _ _ (seqItems? (.ref p) >>= _) _ _ _
  refine wpAny_bind (wpAny_seqItems ho' hdat (wpAny_pure ?_))
  show wpAny _ _ (holding [key,u] (dictSet D key u)) _ _ _
  refine wpAny_holding (wpAny_dictSet_pairs (hsz:=hl) hkey hd' fun h' hd2 hs=>?_)
  refine wpAny_pure ⟨plainId_quiet eL _,ih (i+1) (j+1) _ (by omega) lt (W.frame _ s' h' _ st' (Nat.le_succ _) fun b hb o q=>(hs.2 b (fun z=>hDf (z▸hb))).trans q) (fun i2 v2 hv2=>?_) ?_ fun s2 mv2 d2=>?_⟩
  ·obtain⟨p2,k2,key2,u2,o2,m2,e1,e2,e3,e4,e5,e6,e7,e8⟩:=hp i2 v2 hv2
   exact⟨p2,k2,key2,u2,o2,m2,e1,e2,e3,(hs.2 p2 e7).trans (mv.heap p2 o2 e8 e4),e5,e6,e7,e8⟩
  ·show h'.DictOf (a_ P w) D (merged [] (more.take (i+1)))
   rw[merged_take_succ [] more i (kk,u) em]
   exact hd2
  ·exact hR s2 (Moved.trans W.gtrans ((mv.mono sub).then_heap (Nat.le_succ _) fun b o hb q=>(hs.2 b (fun z=>hb (z▸List.mem_cons_self))).trans q) mv2) d2
end
section
variable {P:Program} {w:World} {A:Around} {E:Value→Shared→Prop} {s:Shared}
theorem rX {l:Addr} {its:Array Value} {nl:Nat} {more:List (Key×Value)} {Q:Value→Shared→Prop} (hh:A.handled=none) (hl:s.heap.get? l=some {cls:=.type "list",data:=.seq its nl})
  (hp:∀(i:Nat) (v:Value),its[i]? =some v→∃p k key u o m,v=.ref p∧more[i]? =some (k,u)∧(a_ P w).is k key=true∧s.heap.get? p=some o∧o.cls=.type "tuple"∧o.data=.seq #[key,u] m) (hml:more.length=its.size) (hb:its.size<sizeLine)
  (h:∀h' tk,h'.DictOf (a_ P w) s.heap.objs.size (merged [] more)→(∀b o,s.heap.get? b=some o→h'.get? b=some o)→Q (.ref s.heap.objs.size) {s with heap:=h',toks:=tk}):
  wpAny (model P w) A (call (.type "dict") [.ref l]) Q E s:=by
 refine callType_codes (Q₁:=fun obj s₁=>obj=.ref s.heap.objs.size∧s₁={s with heap:=s.heap.push {cls:=.type "dict",data:=.dict #[]}}) F.kt_called_dict (F.kt_typeCall_dict_1 _) F.entry_dict_init (kt_code_dict_new _ ⟨rfl,rfl⟩) ?_
 rintro obj s₁ ⟨rfl,rfl⟩
 have hnew:(s.heap.push {cls:=.type "dict",data:=.dict #[]}).DictOf (a_ P w) s.heap.objs.size []:=Heap.DictOf.new s.heap
 have hl1:(s.heap.push {cls:=.type "dict",data:=.dict #[]}).get? l=some {cls:=.type "list",data:=.seq its nl}:=Heap.get?_push_of_some _ hl
 have lS:l<s.heap.objs.size:=Heap.lt_size hl
 refine⟨hnew.typeIs,F.args_dict_init_2 _ _,?_⟩
 unfold Builtin.«dict.__init__»
 refine wpAny_bind ?_
 unfold Builtin.Dict.selfAndRest
 refine wpAny_bind (wpAny_notOrdered_dict hnew.typeIs ?_)
 show wpAny _ _ (pure (s.heap.objs.size,[Value.ref l])) _ _ _
 refine wpAny_pure ?_
 show wpAny _ _ (Builtin.Dict.updateFrom "dict.__init__" s.heap.objs.size (.ref l) [] .none) _ _ _
 unfold Builtin.Dict.updateFrom
 refine wpAny_bind (wpAny_typeOf (show Shared.TypeIs {s with heap:=s.heap.push {cls:=.type "dict",data:=.dict #[]}} (.ref l) "list" from⟨_,hl1,rfl⟩) ?_)
 rw[if_pos (by decide)]
 refine wpAny_bind (uk hl1 (by simp[hh]) fun h1 tk1 k1=>?_)
 rw[show(none:Option Value).isNone=true from rfl,if_pos rfl]
 refine wpAny_bind (wpAny_rule ?_)
 have hl2:h1.IsList l its:=⟨_,k1 _ _ hl1,rfl,nl,rfl⟩
 refine wpAny_bind (wpAny_pyIter_list hl2 ?_)
 refine wpAny_pure ⟨plainId_quiet eL _,?_⟩
 have Pz:l<h1.objs.size:=Heap.lt_size (k1 _ _ hl1)
 have PB:l≠h1.objs.size:=Nat.ne_of_lt Pz
 have Gh:s.heap.objs.size<h1.objs.size:=by
  obtain⟨o,es,ep,ho,_⟩:=hnew
  exact Heap.lt_size (k1 _ _ ho)
 have nf:s.heap.objs.size ∉ [h1.objs.size,l]:=by
  simp only[List.mem_cons,List.not_mem_nil,or_false,not_or]
  exact⟨Nat.ne_of_lt Gh,Nat.ne_of_gt lS⟩
 have hh3:A.in1.in1.handled=none:=by simp[hh]
 refine zI ((Walks.list hh3 _ l PB its).toS) nf more hml hb (its.size-0) 0 0 _ (by omega) (Nat.zero_le _) ⟨⟨_,Heap.get?_push_size _ rfl,rfl,rfl⟩,hl2.push _⟩ (fun i v hv=>?_) ?_ fun s' mv hd=>?_
 ·obtain⟨p,k,key,u,o,m,e1,e2,e3,e4,e5,e6⟩:=hp i v hv
  have lp:=Heap.lt_size e4
  refine⟨p,k,key,u,o,m,e1,e2,e3,Heap.get?_push_of_some _ (k1 _ _ (Heap.get?_push_of_some _ e4)),e5,e6,Nat.ne_of_lt lp,fun z=>?_⟩
  have e9:p=h1.objs.size:=List.mem_singleton.mp z
  rw[e9] at lp
  exact absurd (Nat.lt_trans lp Gh) (Nat.lt_irrefl _)
 ·show Heap.DictOf _ _ _ (merged [] (more.take 0))
  obtain⟨o,es,ep,ho,r⟩:=hnew
  exact⟨o,es,ep,Heap.get?_push_of_some _ (k1 _ _ ho),r⟩
 ·obtain⟨h',g',d',tk',os'⟩:=s'
  have eg:g'=s.gens:=mv.gens
  have ed:d'=s.drawn:=mv.drawn
  have eo:os'=s.os:=mv.os
  subst eg ed eo
  refine⟨rfl,h h' tk' hd fun b o e=>mv.heap b o (fun z=>?_) (Heap.get?_push_of_some _ (k1 _ _ (Heap.get?_push_of_some _ e)))⟩
  have lb:=Heap.lt_size e
  simp only[List.mem_cons,List.not_mem_nil,or_false] at z
  rcases z with z | z
  ·rw[z] at lb;exact Nat.lt_irrefl _ lb
  ·rw[z] at lb;exact Nat.lt_irrefl _ (Nat.lt_trans lb Gh)
end
section
variable {X:Cx}
def Gi:List V→Hp→VK→Prop:=fun vs H Q=>∃(l:Addr) (ps:List Addr) (kvs:List (Key×V)),vs=[.ref l]∧H l=some (.lst (ps.map V.ref))∧Paired (fun(p:Addr) (q:Key×V)=>H p=some (.tup [kV q.1,q.2])) ps kvs∧kvs.length<sizeLine∧∀D,H D=none→Q (.ref D) (upd H D (.dK (fe [] kvs)))
theorem xM (hA:X.A.handled=none):cQ X (.type "dict") Gi:=by
 intro pins s σ H xs us Q I r h
 obtain⟨l,ps,kvs,rfl,hl,hp,hb,q⟩:=h
 obtain⟨u,rfl,ru⟩:=vals1 r
 cases ru
 obtain⟨z,its,n,rv,e⟩:=I.hok l _ hl
 have key:∀(ps:List Addr) (kvs:List (Key×V)) (its:List Value),Paired (fun(p:Addr) (q:Key×V)=>H p=some (.tup [kV q.1,q.2])) ps kvs→Vals (ps.map V.ref) its→
   ∃more:List (Key×Value),KV kvs more∧∀(i:Nat) (v:Value),its[i]? =some v→∃p k key u o m,v=.ref p∧more[i]? =some (k,u)∧(a_ X.prog X.w).is k key=true∧s.heap.get? p=some o∧o.cls=.type "tuple"∧o.data=.seq #[key,u] m:=by
  intro ps kvs its a
  induction a generalizing its with
  | nil=>intro b;cases b;exact⟨[],.nil,fun i v hv=>by simp at hv⟩
  | @cons p q ps kvs h t ih=>
   intro b
   cases b with
   | cons rp rt=>
    obtain⟨more,m1,m2⟩:=ih _ rt
    obtain⟨z2,its2,px,o,ho,hc,m,hd⟩:=I.hok p _ h
    cases px with
    | cons r1 r2=>
     cases r2 with
     | cons r2 r3=>
      cases r3
      cases(show _=Value.ref p from rp)
      refine⟨(q.1,_)::more,.cons ⟨rfl,r2⟩ m1,fun i v hv=>?_⟩
      cases i with
      | zero=>
       have e:Value.ref p=v:=by simpa using hv
       exact⟨p,q.1,_,_,o,m,e.symm,rfl,jO r1,ho,hc,hd⟩
      | succ i=>exact m2 i v (by simpa using hv)
 obtain⟨more,m1,m2⟩:=key ps kvs its hp rv
 have len1:more.length=its.length:=by rw[←Paired.length m1,←Paired.length hp,←rv.length,List.length_map]
 have len2:its.length=kvs.length:=by rw[←len1,←Paired.length m1]
 refine rX (nl:=n) (its:=its.toArray) (more:=more) hA e (fun i v hv=>m2 i v (by simpa using hv)) (by simpa using len1) (by rw[List.size_toArray,len2];exact hb) fun h' tk dd kp=>?_
 have bg:(s.heap.objs.size == sysModules)=false:=beq_eq_false_iff_ne.mpr (Ne.symm (Nat.ne_of_lt I.big))
 have hz:(fe [] kvs).length≤sizeLine:=by
  have h1:=iO kvs []
  rw[List.length_nil] at h1
  omega
 exact⟨.ref s.heap.objs.size,_,I.laid (a:=s.heap.objs.size) (o:=.dK (fe [] kvs)) (t':=tk) kp (Nat.le_refl _) ⟨hz,bg,_,m1.merge .nil,dd⟩,rfl,q _ (I.hok.fresh (Nat.le_refl _))⟩
end
section
variable {P:Program} {w:World} {A:Around} {E:Value→Shared→Prop} {s:Shared} {K:Type} [DecidableEq K] {knd:KeyKind P w K}
theorem oC {d:Addr} {kvs:List (K×Value)} {k:K} {key dflt:Value} {Q:Value→Shared→Prop} (hkey:knd.is k key=true) (hm:s.heap.DictOf knd d kvs) (hsz:kvs.length≤sizeLine)
  (hthere:∀v,valueAt kvs k=some v→Q v {s with toks:=s.toks+1})
  (hnew:valueAt kvs k=none→∀h',h'.DictOf knd d (stored kvs k dflt)→Heap.SameBut d s.heap h'→Q dflt {s with heap:=h',toks:=s.toks+1}):
  wpAny (model P w) A (dictSetDefault d key dflt) Q E s:=by
 obtain⟨f,hf⟩:∃f,f=valueAt kvs:=⟨_,rfl⟩
 have hmap:=hm.mapOf
 obtain⟨o,es,ep,ho,hc,hd,hk,hp,hn⟩:=hm
 have hes:es.size≤sizeLine:=by
  have e1:=hp.length
  have e2:es.toList.length=es.size:=by simp
  omega
 have hidx:(es.findIdx? fun e=>knd.is k e.key)=kvs.findIdx? fun kv=>decide (kv.1=k):=by
  rw[←hp.findIdx k];obtain⟨l⟩:=es;simp
 have hfind:=hp.find k
 unfold dictSetDefault
 try with_reducible refine wpAny_holding ?_
 refine wpAny_bind (knd.pyHash hkey ?_)
 refine wpAny_bind (wpAny_dictFind_of (s:={s with toks:=s.toks+1}) hkey ho hd hk ?_)
 cases hi:es.findIdx? fun e=>knd.is k e.key with
 | some i=>
  have hfk:valueAt kvs k=(es[i]?).map (·.val):=by
   obtain⟨o',es',ep',ho',hc',hd',hk',hf'⟩:=hmap
   rw[ho] at ho';cases ho'
   rw[hd] at hd';cases hd'
   rw[←hf' k,findBy_of_findIdx?,hi]
  refine wpAny_bind (wpAny_dictEntries (s:={s with toks:=s.toks+1}) ho hd ?_)
  cases he:es[i]? with
  | none=>
   exfalso
   have:=Array.findIdx?_eq_some_iff_findIdx_eq.mp hi
   have hlt:i<es.size:=this.1
   rw[Array.getElem?_eq_getElem hlt] at he
   exact nomatch he
  | some e=>
   rw[he] at hfk
   exact wpAny_bind (wpAny_rule (wpAny_pure (hthere e.val hfk)))
 | none=>
  have hfk:valueAt kvs k=none:=by
   obtain⟨o',es',ep',ho',hc',hd',hk',hf'⟩:=hmap
   rw[ho] at ho';cases ho'
   rw[hd] at hd';cases hd'
   rw[←hf' k,findBy_of_findIdx?,hi]
  have hnot:k ∉ kvs.map (·.1):=not_mem_of_findIdx_none (hidx▸hi)
  have hany:¬(kvs.any fun kv=>decide (kv.1=k))=true:=by
   rw[List.any_eq_true];rintro⟨kv,hkv,he⟩
   exact hnot (List.mem_map.mpr ⟨kv,hkv,of_decide_eq_true he⟩)
  refine wpAny_bind (wpAny_rule (wpAny_bind (wpAny_updateDictKeys (hz:=hes) (s:={s with toks:=s.toks+1}) ho hd (wpAny_pure (hnew hfk _ ⟨_,_,ep+1,Heap.get?_update_self _ ho (Obj.isFreed_of_dict (Obj.data_mapDictKeys hd _)),
   hc.mapDictKeys _,Obj.data_mapDictKeys hd _,hk.push hkey _,?_,?_⟩ (Heap.SameBut.update ..))))))
  ·rw[stored,if_neg hany]
   have:=hp.append hkey (knd.hash k) dflt
   obtain⟨l⟩:=es
   simpa using this
  ·rw[stored,if_neg hany,List.map_append,List.nodup_append]
   refine⟨hn,by simp,?_⟩
   intro a ha b hb
   simp only[List.map_cons,List.map_nil,List.mem_singleton] at hb
   subst hb
   exact fun e=>hnot (e▸ha)
theorem oD (knd:KeyKind P w K) {d:Addr} {k:K} {key dflt:Value} (hkey:knd.is k key=true) (hd:(d == sysModules)=false):
  MeetsIn P w (Builtin.«dict.setdefault» ⟨[.ref d,key,dflt],[]⟩) (fun _ R s=>∃kvs,s.heap.DictOf knd d kvs∧kvs.length≤sizeLine∧
   (∀v,valueAt kvs k=some v→R (.ok (.ret v)) {s with toks:=s.toks+1})∧
   (valueAt kvs k=none→∀h',h'.DictOf knd d (stored kvs k dflt)→Heap.SameBut d s.heap h'→R (.ok (.ret dflt)) {s with heap:=h',toks:=s.toks+1})):=
 .of_wp fun A R s ⟨kvs,hm,hz,h1,h2⟩=>by
  unfold Builtin.«dict.setdefault»
  refine wpAny_bind ?_
  unfold Builtin.Dict.keyAndDefault
  refine wpAny_bind (wpAny_notOrdered_dict hm.typeIs ?_)
  show wpAny _ _ (pure (d,key,some dflt)) _ _ s
  refine wpAny_pure ?_
  show wpAny _ _ (if(d == sysModules)=true then _ else(dictSetDefault d key dflt >>= _)) _ _ s
  rw[if_neg (by rw[hd];exact Bool.false_ne_true)]
  exact wpAny_bind (oC hkey hm hz (fun v hv=>wpAny_pure ⟨v,rfl,h1 v hv⟩) fun hn h' hm' hs'=>wpAny_pure ⟨dflt,rfl,h2 hn h' hm' hs'⟩)
end
section
variable {X:Cx} {o e f:Expr} {apos cpos:Pos} {td ty tx:TE}
def Gj (td ty tx:TE):TE:=fun σ H Q=>td σ H fun x H1=>∃a,x=.ref a∧JV H1 a∧ty σ H1 fun y H2=>tx σ H2 fun z H3=>∃kvs k,H3 a=some (.dK kvs)∧y=kV k∧kvs.length<sizeLine∧
 (∀v,bW kvs k=some v→Q v H3)∧(bW kvs k=none→Q z (upd H3 a (.dK (putK kvs k z))))
theorem BG (ho:PE X o td) (he:PE X e ty) (hf:PE X f tx) (m:M2 X o "setdefault" apos e f cpos):PE X (.Call (.Attribute o "setdefault" apos) [e,f] [] cpos) (Gj td ty tx):=by
 intro pins s σ H Q I h
 refine wpAny_Call_method m.base m.few m.line PySem.F.plainAttrs_dict PySem.F.slot_dict_setdefault PySem.F.type_dict_setdefault (aN (ho pins s σ H _ I h) fun u s1 ⟨x,H1,I1,rx,a,ex,d,q1⟩=>?_)
 subst ex
 obtain rfl:u=Value.ref a:=rx
 obtain⟨t1,t2,_⟩:=FE I1 d
 refine⟨t1,t2,?_⟩
 rw[m.trees]
 refine Calls.callWith_builtin rfl (Calls.evalArgs_plain (Calls.spliced_cons (aN (he pins s1 σ H1 _ I1 q1) fun iv s2 ⟨y,H2,I2,ry,q2⟩=>
  Calls.spliced_cons (aN (hf pins s2 σ H2 _ I2 q2) fun fv s3 ⟨z,H3,I3,rz,kvs,k,ek,ey,hl,q3,q4⟩=>Calls.spliced_nil ?_))))
 subst ey
 obtain⟨hz,hd,vs,rel,dd⟩:=jP I3.hok (.inl ek)
 have lv:vs.length≤sizeLine:=by rw[←rel.length];exact hz
 refine call_meetsIn PySem.F.slot_dict_setdefault dd.typeIs PySem.F.entry_dict_setdefault (PySem.F.args_dict_setdefault_3 _ _ _) (oD (a_ X.prog X.w) (jO ry) hd) ⟨vs,dd,lv,fun v hv=>?_,fun hv h' gY hs=>?_⟩
 ·have rr:=rel.val k
  rw[hv] at rr
  cases hq:bW kvs k with
  | none=>rw[hq] at rr;exact rr.elim
  | some x=>rw[hq] at rr;exact⟨x,H3,I3.tok _,rr,q3 x hq⟩
 ·have rr:=rel.val k
  rw[hv] at rr
  cases hq:bW kvs k with
  | some x=>rw[hq] at rr;exact rr.elim
  | none=>
   have hl2:(putK kvs k z).length≤sizeLine:=by have:=iu kvs k z;omega
   have he':∃q,h'.get? a=some q:=let ⟨q,_,_,hq,_⟩:=gY;⟨q,hq⟩
   exact⟨z,_,nq I3 (by rw[ek];exact True.intro) hs he' (tX hl2 hd (rel.put k rz) gY),rz,q4 hq⟩
def Gk (K:PySem.W.Frag):List V→Hp→VK→Prop:=fun xs H Q=>∃(a:Addr) (ns:List Int),xs=[.ref a]∧bp K H a (ns.map V.int)∧ns.length<64∧
 ∀(p:Addr) (ns':List Int),H p=none→ns'.Perm ns→ns'.Pairwise (· ≤ ·)→Q (.ref p) (upd H p (.lst (ns'.map V.int)))
theorem vI (K:PySem.W.Frag) (hK:X.K=K:=by rfl):cQ X (.builtin "sorted") (Gk K):=by
 subst hK
 intro pins s σ H xs us Q I r h
 obtain⟨a,ss,rfl,hq,hl,q⟩:=h
 obtain⟨u,rfl,ru⟩:=vals1 r
 cases ru
 obtain⟨its,rv,p,hz⟩:=I.list hq
 have hlen:=rv.length
 rw[List.length_map] at hlen
 refine sorted_ints p.isList (intsAre_of rv) (by omega) fun out ss' a1 a2 a3=>?_
 obtain⟨e,he⟩:=sortedAll_at s.heap its out
 have hp:s.heap.objs.size≤s.heap.objs.size+1:=Nat.le_succ _
 refine⟨.ref (s.heap.objs.size+1),upd H (s.heap.objs.size+1) (.lst (ss'.map V.int)),?_,rfl,q _ ss' (I.hok.fresh hp) a2 a3⟩
 refine I.laid (t':=s.toks) (h':=sortedAll s.heap its out) (fun _ _=>sortedAll_old) hp ⟨?_,out.toList,e,mF a1,?_⟩
 ·rw[List.length_map,a2.length_eq]
  rw[List.length_map] at hz
  exact hz
 ·rw[he]
  first
   | done
   | rfl
end
section
variable {X:Cx}
theorem xN {lo:Int} {n:Nat} {acc:Array Value} (h:ItemsOf (fun i v=>∃t,v=.int (lo+i*1) t) acc n):Vals ((List.range n).map fun(i:Nat)=>V.int (lo+i)) acc.toList:=by
 obtain⟨hs,hv⟩:=h
 have key:∀(l:List Value) (m:Nat),(∀(j:Nat) (v:Value),l[j]? =some v→∃t,v=.int (lo+((m+j:Nat):Int)) t)→Vals ((List.range' m l.length).map fun(i:Nat)=>V.int (lo+i)) l:=by
  intro l
  induction l with
  | nil=>intro m _;exact .nil
  | cons v l ih=>
   intro m hq
   rw[List.length_cons,List.range'_succ,List.map_cons]
   refine .cons ?_ (ih (m+1) fun j u hu=>?_)
   ·obtain⟨t,e⟩:=hq 0 v rfl
    exact⟨t,by simpa using e⟩
   ·obtain⟨t,e⟩:=hq (j+1) u (by simpa using hu)
    exact⟨t,by rw[e,show m+(j+1)=m+1+j by omega]⟩
 have:=key acc.toList 0 fun j v hj=>by
  obtain⟨t,e⟩:=hv j v (by rw[←Array.getElem?_toList];exact hj)
  exact⟨t,by rw[e];simp⟩
 rw[Array.length_toList,hs,←List.range_eq_range'] at this
 exact this
end
theorem zJ {K:PySem.W.Frag} {a:Addr} {xs:List V} {g:TG} {tt:TT} {te:TE} {D:Addr} {σ:St} {H:Hp} {R:Hp→Prop} (Pv:Nat→St→Hp→Prop) (h0:Pv 0 σ H) (hl:∀i σ H,i≤xs.length→Pv i σ H→bp K H a xs)
  (hs:∀i x p σ H,xs[i]? =some x→Pv i σ H→H p=none→g (.ref p) σ (upd H p (.tup [.int i,x])) fun σ2 H2=>tt σ2 H2 fun b H3=>if b=true then te σ2 H3 fun y H4=>∃ys,H4 D=some (.lst ys)∧ys.length<sizeLine∧Pv (i+1) σ2 (upd H4 D (.lst (ys++[y]))) else Pv (i+1) σ2 H3)
  (hd:∀σ H,Pv xs.length σ H→R H):gg (wB K a) g tt te D σ H R:=by
 refine⟨fun i m σ H=>m=xs.length-i∧i≤xs.length∧Pv i σ H,⟨xs.length,by simp,Nat.zero_le _,h0⟩,?_⟩
 rintro i m σ H ⟨rfl,hi,p⟩
 have q:=hl i σ H hi p
 by_cases hlt:i<xs.length
 ·refine .inr ⟨⟨xs,xs[i],q,by simp[hlt]⟩,Pv (i+1),fun σ' H' p'=>⟨xs.length-(i+1),by omega,rfl,hlt,p'⟩,fun x H' y=>?_⟩
  obtain⟨z,pa,hz,hn,rfl,rfl⟩:=y
  exact hs i z pa σ H (hz xs q) p hn
 ·have e:i=xs.length:=by omega
  subst e
  exact .inl ⟨⟨xs,q,Nat.le_refl _⟩,hd σ H p⟩
theorem xO {K:PySem.W.Frag} {a:Addr} {xs:List V} {g:TG} {tt:TT} {te:TE} {D:Addr} {σ:St} {H:Hp} {R:Hp→Prop} (Pv:Nat→St→Hp→Prop) (h0:Pv 0 σ H) (hl:∀i σ H,i≤xs.length→Pv i σ H→bo K H a xs)
  (hs:∀i x p σ H,xs[i]? =some x→Pv i σ H→H p=none→g (.ref p) σ (upd H p (.tup [.int i,x])) fun σ2 H2=>tt σ2 H2 fun b H3=>if b=true then te σ2 H3 fun y H4=>∃ys,H4 D=some (.lst ys)∧ys.length<sizeLine∧Pv (i+1) σ2 (upd H4 D (.lst (ys++[y]))) else Pv (i+1) σ2 H3)
  (hd:∀σ H,Pv xs.length σ H→R H):gg (qg K a) g tt te D σ H R:=by
 refine⟨fun i m σ H=>m=xs.length-i∧i≤xs.length∧Pv i σ H,⟨xs.length,by simp,Nat.zero_le _,h0⟩,?_⟩
 rintro i m σ H ⟨rfl,hi,p⟩
 have q:=hl i σ H hi p
 by_cases hlt:i<xs.length
 ·refine .inr ⟨⟨xs,xs[i],q,by simp[hlt]⟩,Pv (i+1),fun σ' H' p'=>⟨xs.length-(i+1),by omega,rfl,hlt,p'⟩,fun x H' y=>?_⟩
  obtain⟨z,pa,hz,hn,rfl,rfl⟩:=y
  exact hs i z pa σ H (hz xs q) p hn
 ·have e:i=xs.length:=by omega
  subst e
  exact .inl ⟨⟨xs,q,Nat.le_refl _⟩,hd σ H p⟩
theorem Gm {c:TT} {tb:TS} {D:Ends} {σ:St} {H:Hp} (W:Nat→St→Hp→Prop) (h0:∃m,W m σ H)
  (hs:∀m σ H,W m σ H→c σ H fun b H1=>if b=true then tb {D with nx:=fun σ' H'=>∃m',m'<m∧W m' σ' H',ct:=fun σ' H'=>∃m',m'<m∧W m' σ' H',bk:=D.nx} σ H1 else D.nx σ H1)
  (mono:∀σ H Q Q',(∀b H1,Q b H1→Q' b H1)→c σ H Q→c σ H Q'):tK c tb D σ H:=by
 refine⟨W,h0,fun m σ H w=>mono σ H _ _ (fun b H1 q=>?_) (hs m σ H w)⟩
 cases b with
 | true=>exact⟨_,fun σ' H' p=>p,q⟩
 | false=>exact q
section
variable {X:Cx}
def L' (ta:TA):TE:=fun σ H Q=>ta σ H fun vs H1=>∃n:Nat,vs=[.int n]∧n≤100000∧∀l,H1 l=none→Q (.ref l) (upd H1 l (.lst ((List.range n).map fun(i:Nat)=>V.int i)))
theorem rY {a:Expr} {ta:TA} {p p' pos pos':Pos} (hc:X.A.handled=none) (hg:Gl X "list") (hm:X.mg "list"=none) (hg':Gl X "range") (hm':X.mg "range"=none) (ha:PA X [a] ta)
  (hs:starEach [a] X.env=[(false,eval a X.env)]:=by rfl):PE X (.Call (.Name "list" p) [.Call (.Name "range" p') [a] [] pos'] [] pos) (L' ta):=by
 intro pins s σ H Q I h
 refine wpAny_Call_Name_kw (dP I hg hm kz ?_)
 refine PyProof.Rows.callWith_type1 ?_ rfl rfl
 rw[show starEach [.Call (.Name "range" p') [a] [] pos'] X.env=[(false,eval (.Call (.Name "range" p') [a] [] pos') X.env)] from rfl]
 show wpAny _ _ (spliced [(false,eval (.Call (.Name "range" p') [a] [] pos') X.env)]) _ _ s
 refine Calls.spliced_cons ?_
 refine Call_ (dP I hg' hm' boot_range (PyProof.Rows.callWith_type1 (aN (ha pos' pins s σ H _ I h) fun us s1 ⟨vs,H1,I1,r1,q1⟩=>?_) (by rw[hs];rfl) (by rfl)))
 obtain⟨n,e,hz,q⟩:=q1
 subst e
 cases r1 with
 | cons r rr=>
  cases rr
  obtain⟨t,rfl⟩:=r
  refine call_range_1 (Calls.spliced_nil ?_)
  have e2:Builtin.Range.rangeSize 0 (n:Int) 1=((n:Nat):Int):=by rw[rangeSize_one];split<;>omega
  refine call_list_range (n:=n) hc (IsRange.new ..) (small_one (by decide) (by decide) (by omega) (by omega)) e2 (by omega) fun h' tk acc c k e it=>?_
  have kp:∀b u,s1.heap.get? b=some u→h'.get? b=some u:=fun b u e=>k b u (Heap.get?_push_of_some _ e)
  simp only[Heap.size_push] at e
  have hp:s1.heap.objs.size≤s1.heap.objs.size+1:=Nat.le_succ _
  have sl:(100000:Nat)≤sizeLine:=by decide
  have vi:=xN (lo:=0) it
  rw[show(fun(i:Nat)=>V.int (0+(i:Int)))=fun(i:Nat)=>V.int i from funext fun i=>by rw[Int.zero_add]] at vi
  refine⟨.ref (s1.heap.objs.size+1),_,I1.laid (t':=tk) kp hp (show bK X.prog X.w _ h' _ (.lst ((List.range n).map fun(i:Nat)=>V.int i)) from⟨by rw[List.length_map,List.length_range];omega,acc.toList,c,vi,e⟩),?_,q _ (I1.hok.fresh hp)⟩
  show RelV (.ref _) _
  simp only[Heap.size_push]
  rfl
theorem pz:∀{vs:List Value} {ss:List Int},vs.length=ss.length→(∀(i:Nat) (v:Value) (x:Int),vs[i]? =some v→ss[i]? =some x→∃t,v=.int x t)→IntsAre vs ss
 | [],[],_,_=>.nil
 | [],_::_,h,_=>by cases h
 | _::_,[],h,_=>by cases h
 | v::vs,x::ss,h,k=>by
  obtain⟨t,rfl⟩:=k 0 v x rfl rfl
  exact .cons x t (pz (Nat.succ.inj h) fun i v y e1 e2=>k (i+1) v y e1 e2)
def Jr (K:PySem.W.Frag):List V→Hp→VK→Prop:=fun xs H Q=>∃(a:Addr) (ns:List Int),xs=[.ref a]∧bp K H a (ns.map V.int)∧ns≠[]∧∀m:Int,m∈ns→(∀x∈ns,m≤x)→Q (.int m) H
theorem zK (K:PySem.W.Frag) (hc:X.calm=true) (hK:X.K=K:=by rfl):cQ X (.builtin "min") (Jr K):=by
 subst hK
 intro pins s σ H xs us Q I r h
 obtain⟨a,ns,rfl,hq,hne,q⟩:=h
 obtain⟨u,rfl,ru⟩:=vals1 r
 cases ru
 obtain⟨its,rv,p,_⟩:=I.list hq
 have hi:IntsAre its ns:=intsAre_of rv
 obtain⟨xs,e⟩:=hi.allInts.items
 have hns:ns=xs.toList.map (·.1):=by rw[←hi.numsOf,←nums_intItems,←e]
 have hsz:0<xs.size:=by
  rcases Nat.eq_zero_or_pos xs.size with z | z
  ·have:xs.toList=[]:=List.eq_nil_of_length_eq_zero (by rw[Array.length_toList];exact z)
   exact absurd (by rw[hns,this];rfl) hne
  ·exact z
 have hl:=p.isList
 rw[e] at hl
 refine min_intList (I.ok.hd hc) hl hsz fun v h' tk hv hk=>?_
 obtain⟨t,rfl⟩:=intItems_at hv
 obtain⟨h1,h2⟩:=argBest_lt (numAt xs) (xs.size-1)
 have na:∀j,j<xs.size→ns[j]? =some (numAt xs j):=fun j hj=>by
  rw[hns,List.getElem?_map,Array.getElem?_toList,numAt,Array.getElem?_eq_getElem hj]
  rfl
 refine⟨.int _,H,I.kept hk,⟨t,rfl⟩,q _ (List.mem_of_getElem? (na _ (by omega))) fun x hx=>?_⟩
 obtain⟨i,hi'⟩:=List.getElem?_of_mem hx
 have hlt:i<xs.size:=by
  have:=(List.getElem?_eq_some_iff.mp hi').1
  rw[hns,List.length_map,Array.length_toList] at this
  exact this
 rw[na i hlt] at hi'
 have e3:=Option.some.inj hi'
 rw[←e3]
 exact h2 i (by omega)
end
abbrev cR (h:Heap) (z TI TO:Addr) (f0:Value) (fl:Bool):Prop:=h.get? z=some {cls:=.type "zip",dict:=none,data:=.fields #[f0,.bool fl,.bool false,.ref TI,.ref TO],slots:= #[]}
section
variable {prog:Program} {w:World} {A:Around} {E:Value→Shared→Prop} {s:Shared}
theorem rf {z TI TO i1 i2 l1 l2:Addr} {k:Nat} {f0:Value} {fl:Bool} {xs ys:Array Value} {x y a b:Value} {Q:Value→Shared→Prop} (D:ZipApart z TI TO i1 i2 l1 l2) (gz:cR s.heap z TI TO f0 fl) (hfree:∀Q':Bool→Shared→Prop,Q' true s→wpAny (model prog w) A (Builtin.SmallTypes.ownedTupleIsFree (.ref z)) Q' E s) (gI:IsPair s.heap TI (.ref i1) (.ref i2)) (gO:IsPair s.heap TO a b)
  (g1:s.heap.IsTupleIter i1 l1 k) (g2:s.heap.IsTupleIter i2 l2 k) (m1:s.heap.IsTuple l1 xs) (m2:s.heap.IsTuple l2 ys) (ex:xs[k]? =some x) (ey:ys[k]? =some y)
  (q:∀h',IsZip h' z TI TO (rawInt s.heap.objs.size)→IsPair h' TO x y→h'.IsTupleIter i1 l1 (k+1)→h'.IsTupleIter i2 l2 (k+1)→IsPair h' s.heap.objs.size x y→h'.objs.size=s.heap.objs.size+1→
   (∀c o,c≠z→c≠TO→c≠i1→c≠i2→s.heap.get? c=some o→h'.get? c=some o)→Q (.ref s.heap.objs.size) {s with heap:=h'}):
  wpAny (model prog w) A (Builtin.«zip.__next__» ⟨[.ref z],[]⟩) (fun fin s'=>∃v,fin=.done (.ret v)∧Q v s') E s:=by
 show wpAny _ _ (field (.ref z) 2 >>= _) _ _ _;refine wpAny_bind (wpAny_field gz rfl (x:=.bool false) rfl ?_)
 show wpAny _ _ (field (.ref z) 3 >>= _) _ _ _;refine wpAny_bind (wpAny_field gz rfl (x:=.ref TI) rfl ?_);refine wpAny_bind (wpAny_seqItems gI rfl ?_)
 show wpAny _ _ (Builtin.SmallTypes.ownedTupleIsFree (.ref z) >>= _) _ _ _;refine wpAny_bind (hfree _ ?_);simp only[if_true];refine wpAny_bind (wpAny_rule ?_)
 refine wpAny_bind (wpAny_field gz rfl (x:=.ref TO) rfl ?_);refine wpAny_bind (wpAny_setField_rec gz (by simp) fun h1 z1 s1=>?_)
 replace z1:cR h1 z TI TO .ellipsis fl:=z1
 refine wpAny_bind ?_;simp only[List.zipIdx_cons,List.zipIdx_nil,List.forIn_cons,List.forIn_nil];refine wpAny_bind (wpAny_bind (wpAny_onRaise ?_))
 show wpAny _ _ (Builtin.SmallTypes.nextOf (.ref i1) >>= _) _ _ _;refine wpAny_bind (fi (bj g1 s1.extBut D.i1z) (cO m1 s1.extBut D.l1z) ex fun h2 zv s2=>wpAny_pure ?_)
 have O2:IsPair h2 TO a b:=s2.extBut _ _ D.TOi1 (s1.extBut _ _ D.TOz gO)
 refine wpAny_bind (wpAny_seqItems O2 rfl ?_);refine wpAny_bind (wpAny_updateSeq_pair O2 fun h3 O3 s3=>?_)
 replace O3:IsPair h3 TO x b:=O3
 refine wpAny_bind (wpAny_letGo (wpAny_pure ?_));refine wpAny_bind (wpAny_bind (wpAny_onRaise ?_))
 show wpAny _ _ (Builtin.SmallTypes.nextOf (.ref i2) >>= _) _ _ _;refine wpAny_bind (fi (bj (bj (bj g2 s1.extBut D.i2z) s2.extBut D.i12.symm) s3.extBut D.TOi2.symm) (cO (cO (cO m2 s1.extBut D.l2z) s2.extBut D.l2i1) s3.extBut D.l2TO) ey fun h4 Gd s4=>wpAny_pure ?_)
 have O4:IsPair h4 TO x b:=s4.extBut _ _ D.TOi2 O3
 refine wpAny_bind (wpAny_seqItems O4 rfl ?_);refine wpAny_bind (wpAny_updateSeq_pair O4 fun h5 O5 s5=>?_)
 replace O5:IsPair h5 TO x y:=O5
 refine wpAny_bind (wpAny_letGo (wpAny_pure (wpAny_pure ?_)));refine wpAny_bind (wpAny_seqItems O5 rfl ?_);refine wpAny_bind (wpAny_newTuple ?_)
 have sz:h5.objs.size=s.heap.objs.size:=by rw[s5.1,s4.1,s3.1,s2.1,s1.1]
 have z5:cR h5 z TI TO .ellipsis fl:=s5.extBut _ _ D.TOz.symm (s4.extBut _ _ D.i2z.symm (s3.extBut _ _ D.TOz.symm (s2.extBut _ _ D.i1z.symm z1)))
 have k5:∀c o,c≠z→c≠TO→c≠i1→c≠i2→s.heap.get? c=some o→h5.get? c=some o:=fun c o c1 c2 c3 c4 e=>s5.extBut _ _ c2 (s4.extBut _ _ c4 (s3.extBut _ _ c2 (s2.extBut _ _ c3 (s1.extBut _ _ c1 e))))
 have a5:h5.IsTupleIter i1 l1 (k+1):=bj (bj (bj zv s3.extBut D.TOi1.symm) s4.extBut D.i12) s5.extBut D.TOi1.symm
 have b5:h5.IsTupleIter i2 l2 (k+1):=bj Gd s5.extBut D.TOi2.symm
 have zx:z<h5.objs.size:=Heap.lt_size z5
 show wpAny _ _ (Builtin.SmallTypes.ownedTupleHandOut (.ref z) (.ref h5.objs.size) >>= _) _ _ _
 refine wpAny_bind ?_;unfold Builtin.SmallTypes.ownedTupleHandOut
 have z6:cR (h5.push {cls:=.type "tuple",data:=.seq #[x,y]}) z TI TO .ellipsis fl:=Heap.get?_push_of_some _ z5
 refine wpAny_bind (wpAny_setField_rec z6 (by simp) fun h7 z7 s7=>?_)
 replace z7:cR h7 z TI TO (rawInt h5.objs.size) fl:=z7
 refine wpAny_setField_rec z7 (by simp) fun h8 z8 s8=>?_
 replace z8:IsZip h8 z TI TO (rawInt h5.objs.size):=z8
 have up:∀c o,c≠z→h5.get? c=some o→h8.get? c=some o:=fun c o c1 e=>s8.extBut _ _ c1 (s7.extBut _ _ c1 (Heap.get?_push_of_some _ e))
 have T8:IsPair h8 h5.objs.size x y:=s8.extBut _ _ (Nat.ne_of_gt zx) (s7.extBut _ _ (Nat.ne_of_gt zx) (Heap.get?_push_size _ rfl))
 have e8:h8.objs.size=h5.objs.size+1:=by rw[s8.1,s7.1,Heap.size_push]
 rw[sz] at z8 T8 e8
 refine wpAny_pure ⟨_,rfl,?_⟩;show Q (.ref h5.objs.size) _;rw[sz]
 exact q h8 z8 (up _ _ D.TOz O5) (let ⟨o,ho,r⟩:=a5;⟨o,up _ _ D.i1z ho,r⟩) (let ⟨o,ho,r⟩:=b5;⟨o,up _ _ D.i2z ho,r⟩) T8 e8 fun c o c1 c2 c3 c4 e=>up c o c1 (k5 c o c1 c2 c3 c4 e)
theorem pA {z TI TO i1 i2 l1 l2:Addr} {k:Nat} {f0:Value} {fl:Bool} {xs ys:Array Value} {a b:Value} {Q:Fin→Shared→Prop} (hh:A.handled=none) (D:ZipApart z TI TO i1 i2 l1 l2) (gz:cR s.heap z TI TO f0 fl) (hfree:∀Q':Bool→Shared→Prop,Q' true s→wpAny (model prog w) A (Builtin.SmallTypes.ownedTupleIsFree (.ref z)) Q' E s) (gI:IsPair s.heap TI (.ref i1) (.ref i2)) (gO:IsPair s.heap TO a b)
  (g1:s.heap.IsTupleIter i1 l1 k) (g2:s.heap.IsTupleIter i2 l2 k) (m1:s.heap.IsTuple l1 xs) (m2:s.heap.IsTuple l2 ys) (ex:xs[k]? =none)
  (q:∀h' e,(∀c o,c≠z→c≠TO→c≠i1→c≠i2→s.heap.get? c=some o→h'.get? c=some o)→(∃o,h'.get? e=some o∧o.cls=.type "StopIteration")→E (.ref e) {s with heap:=h'}):
  wpAny (model prog w) A (Builtin.«zip.__next__» ⟨[.ref z],[]⟩) Q E s:=by
 show wpAny _ _ (field (.ref z) 2 >>= _) _ _ _;refine wpAny_bind (wpAny_field gz rfl (x:=.bool false) rfl ?_)
 show wpAny _ _ (field (.ref z) 3 >>= _) _ _ _;refine wpAny_bind (wpAny_field gz rfl (x:=.ref TI) rfl ?_);refine wpAny_bind (wpAny_seqItems gI rfl ?_)
 show wpAny _ _ (Builtin.SmallTypes.ownedTupleIsFree (.ref z) >>= _) _ _ _;refine wpAny_bind (hfree _ ?_);simp only[if_true];refine wpAny_bind (wpAny_rule ?_)
 refine wpAny_bind (wpAny_field gz rfl (x:=.ref TO) rfl ?_);refine wpAny_bind (wpAny_setField_rec gz (by simp) fun h1 z1 s1=>?_)
 replace z1:cR h1 z TI TO .ellipsis fl:=z1
 refine wpAny_bind ?_;simp only[List.zipIdx_cons,List.zipIdx_nil,List.forIn_cons,List.forIn_nil];refine wpAny_bind (wpAny_bind (wpAny_onRaise ?_))
 show wpAny _ _ (Builtin.SmallTypes.nextOf (.ref i1) >>= _) _ _ _;refine wpAny_bind (iw hh (bj g1 s1.extBut D.i1z) (cO m1 s1.extBut D.l1z) ex fun h2 e s2 he=>?_)
 obtain⟨oe,hoe,hce⟩:=he
 have z2:cR h2 z TI TO .ellipsis fl:=s2 _ _ D.i1z.symm z1
 have Ge:e≠z:=fun x=>by subst x;rw[z2] at hoe;cases hoe;simp at hce
 refine wpAny_setField_rec z2 (by simp) fun h3 _ s3=>q h3 e (fun c o c1 _ c3 _ x=>s3.extBut _ _ c1 (s2 _ _ c3 (s1.extBut _ _ c1 x))) ⟨oe,s3.extBut _ _ Ge hoe,hce⟩
theorem um {z TI TO p:Addr} {fl:Bool} {op:Obj} (gz:cR s.heap z TI TO (rawInt p) fl) (gp:s.heap.get? p=some op):
  wpAny (model prog w) A (Builtin.SmallTypes.ownedTupleIsFree (.ref z)) (fun r s'=>r=false∧∃h0,s'={s with heap:=h0}∧cR h0 z TI TO (rawInt p) true∧Heap.SameBut z s.heap h0) E s:=by
 unfold Builtin.SmallTypes.ownedTupleIsFree
 refine wpAny_bind (wpAny_field gz rfl (x:=rawInt p) rfl ?_)
 show wpAny _ _ (loadIfAlive ((p:Int).toNat) >>= _) _ _ _
 rw[Int.toNat_natCast]
 refine wpAny_bind (PySem.W.kdx_alive gp ?_)
 simp only[Option.isNone_some,Bool.false_eq_true,if_false]
 refine wpAny_bind (wpAny_field gz rfl (x:=.bool fl) rfl ?_)
 cases fl with
 | true=>
  rw[if_neg (show ¬((Value.bool true != Value.bool true)=true) from Bool.false_ne_true)]
  exact wpAny_pure ⟨rfl,s.heap,rfl,gz,Heap.SameBut.refl _ _⟩
 | false=>
  rw[if_pos (show(Value.bool false != Value.bool true)=true from rfl)]
  refine wpAny_bind (wpAny_setField_rec gz (by simp) fun h₃ he₃ hs₃=>?_)
  exact wpAny_pure ⟨rfl,h₃,rfl,he₃,hs₃⟩
theorem uo {z TI TO p:Addr} {fl:Bool} (gz:cR s.heap z TI TO (rawInt p) fl) (gp:s.heap.get? p=none) (Q':Bool→Shared→Prop) (h:Q' true s):wpAny (model prog w) A (Builtin.SmallTypes.ownedTupleIsFree (.ref z)) Q' E s:=by
 unfold Builtin.SmallTypes.ownedTupleIsFree
 refine wpAny_bind (wpAny_field gz rfl (x:=rawInt p) rfl ?_)
 show wpAny _ _ (loadIfAlive ((p:Int).toNat) >>= _) _ _ _
 rw[Int.toNat_natCast]
 refine wpAny_bind ?_
 have al:∀Q:Option Obj→Shared→Prop,Q none s→wpAny (model prog w) A (loadIfAlive p) Q E s:=fun Q h=>by
  have h':Q (s.heap.get? p) s:=by rw[gp];exact h
  exact fun _ _ _=>h'
 refine al _ ?_
 exact wpAny_pure h
theorem uq {z TI TO:Addr} {fl:Bool} (gz:cR s.heap z TI TO .none fl) (Q':Bool→Shared→Prop) (h:Q' true s):wpAny (model prog w) A (Builtin.SmallTypes.ownedTupleIsFree (.ref z)) Q' E s:=by
 unfold Builtin.SmallTypes.ownedTupleIsFree
 refine wpAny_bind (wpAny_field gz rfl (x:=.none) rfl (wpAny_pure h))
theorem zL {z TI TO i1 i2 l1 l2 p:Addr} {k:Nat} {fl:Bool} {op:Obj} {xs ys:Array Value} {x y a b:Value} {Q:Value→Shared→Prop} (D:ZipApart z TI TO i1 i2 l1 l2) (gz:cR s.heap z TI TO (rawInt p) fl) (gp:s.heap.get? p=some op) (gI:IsPair s.heap TI (.ref i1) (.ref i2)) (gO:IsPair s.heap TO a b)
  (g1:s.heap.IsTupleIter i1 l1 k) (g2:s.heap.IsTupleIter i2 l2 k) (m1:s.heap.IsTuple l1 xs) (m2:s.heap.IsTuple l2 ys) (ex:xs[k]? =some x) (ey:ys[k]? =some y)
  (q:∀h',cR h' z TI TO (rawInt p) true→IsPair h' TO a b→h'.IsTupleIter i1 l1 (k+1)→h'.IsTupleIter i2 l2 (k+1)→IsPair h' s.heap.objs.size x y→h'.objs.size=s.heap.objs.size+1→
   (∀c o,c≠z→c≠TO→c≠i1→c≠i2→s.heap.get? c=some o→h'.get? c=some o)→Q (.ref s.heap.objs.size) {s with heap:=h'}):
  wpAny (model prog w) A (Builtin.«zip.__next__» ⟨[.ref z],[]⟩) (fun fin s'=>∃v,fin=.done (.ret v)∧Q v s') E s:=by
 show wpAny _ _ (field (.ref z) 2 >>= _) _ _ _;refine wpAny_bind (wpAny_field gz rfl (x:=.bool false) rfl ?_)
 show wpAny _ _ (field (.ref z) 3 >>= _) _ _ _;refine wpAny_bind (wpAny_field gz rfl (x:=.ref TI) rfl ?_);refine wpAny_bind (wpAny_seqItems gI rfl ?_)
 show wpAny _ _ (Builtin.SmallTypes.ownedTupleIsFree (.ref z) >>= _) _ _ _
 refine wpAny_bind (wpAny_mono (um gz gp) (fun r s' h=>?_) fun _ _ h=>h)
 obtain⟨rfl,h0,rfl,z0,sb⟩:=h
 simp only[Bool.false_eq_true,if_false,List.forIn_toArray,List.forIn_cons,List.forIn_nil]
 refine wpAny_bind (wpAny_bind (wpAny_bind (wpAny_holding ?_)))
 show wpAny _ _ (Builtin.SmallTypes.nextOf (.ref i1) >>= _) _ _ _
 refine wpAny_bind (fi (bj g1 sb.extBut D.i1z) (cO m1 sb.extBut D.l1z) ex fun h2 zv s2=>wpAny_pure (wpAny_pure ?_))
 refine wpAny_bind (wpAny_bind (wpAny_holding ?_))
 show wpAny _ _ (Builtin.SmallTypes.nextOf (.ref i2) >>= _) _ _ _
 refine wpAny_bind (fi (bj (bj g2 sb.extBut D.i2z) s2.extBut D.i12.symm) (cO (cO m2 sb.extBut D.l2z) s2.extBut D.l2i1) ey fun h3 PD s3=>wpAny_pure (wpAny_pure (wpAny_pure ?_)))
 show wpAny _ _ (newTuple [x,y] >>= _) _ _ _
 refine wpAny_bind (wpAny_newTuple ?_)
 have sz:h3.objs.size=s.heap.objs.size:=by rw[s3.1,s2.1,sb.1]
 refine wpAny_pure ⟨_,rfl,?_⟩
 have up:∀c o,h3.get? c=some o→(h3.push {cls:=.type "tuple",data:=.seq #[x,y]}).get? c=some o:=fun c o e=>Heap.get?_push_of_some _ e
 show Q (.ref h3.objs.size) _
 have T8:IsPair (h3.push {cls:=.type "tuple",data:=.seq #[x,y]}) h3.objs.size x y:=Heap.get?_push_size _ rfl
 have a3:h3.IsTupleIter i1 l1 (k+1):=bj zv s3.extBut D.i12
 rw[sz] at T8 ⊢
 exact q _ (up _ _ (s3.extBut _ _ D.i2z.symm (s2.extBut _ _ D.i1z.symm z0))) (up _ _ (s3.extBut _ _ D.TOi2 (s2.extBut _ _ D.TOi1 (sb.extBut _ _ D.TOz gO)))) (let ⟨o,ho,r⟩:=a3;⟨o,up _ _ ho,r⟩) (let ⟨o,ho,r⟩:=PD;⟨o,up _ _ ho,r⟩) T8 (by rw[Heap.size_push,sz]) fun c o c1 c2 c3 c4 e=>up _ _ (s3.extBut _ _ c4 (s2.extBut _ _ c3 (sb.extBut _ _ c1 e)))
theorem xP {z TI TO i1 i2 l1 l2 p:Addr} {k:Nat} {fl:Bool} {op:Obj} {xs ys:Array Value} {a b:Value} {Q:Fin→Shared→Prop} (hh:A.handled=none) (D:ZipApart z TI TO i1 i2 l1 l2) (gz:cR s.heap z TI TO (rawInt p) fl) (gp:s.heap.get? p=some op) (gI:IsPair s.heap TI (.ref i1) (.ref i2))
  (g1:s.heap.IsTupleIter i1 l1 k) (m1:s.heap.IsTuple l1 xs) (ex:xs[k]? =none)
  (q:∀h' e,(∀c o,c≠z→c≠TO→c≠i1→c≠i2→s.heap.get? c=some o→h'.get? c=some o)→(∃o,h'.get? e=some o∧o.cls=.type "StopIteration")→E (.ref e) {s with heap:=h'}):
  wpAny (model prog w) A (Builtin.«zip.__next__» ⟨[.ref z],[]⟩) Q E s:=by
 show wpAny _ _ (field (.ref z) 2 >>= _) _ _ _;refine wpAny_bind (wpAny_field gz rfl (x:=.bool false) rfl ?_)
 show wpAny _ _ (field (.ref z) 3 >>= _) _ _ _;refine wpAny_bind (wpAny_field gz rfl (x:=.ref TI) rfl ?_);refine wpAny_bind (wpAny_seqItems gI rfl ?_)
 show wpAny _ _ (Builtin.SmallTypes.ownedTupleIsFree (.ref z) >>= _) _ _ _
 refine wpAny_bind (wpAny_mono (um gz gp) (fun r s' h=>?_) fun _ _ h=>h)
 obtain⟨rfl,h0,rfl,z0,sb⟩:=h
 simp only[Bool.false_eq_true,if_false,List.forIn_toArray,List.forIn_cons,List.forIn_nil]
 refine wpAny_bind (wpAny_bind (wpAny_bind (wpAny_holding ?_)))
 show wpAny _ _ (Builtin.SmallTypes.nextOf (.ref i1) >>= _) _ _ _
 exact wpAny_bind (iw hh (bj g1 sb.extBut D.i1z) (cO m1 sb.extBut D.l1z) ex fun h2 e s2 he=>q h2 e (fun c o c1 _ c3 _ x=>s2 _ _ c3 (sb.extBut _ _ c1 x)) he)
theorem zM {z TI TO i1 i2 l1 l2:Addr} {k:Nat} {f0:Value} {fl:Bool} {xs ys:Array Value} {x y a b:Value} {Q:Option Value→Shared→Prop} (D:ZipApart z TI TO i1 i2 l1 l2) (gz:cR s.heap z TI TO f0 fl) (hf:f0=.none∨∃p:Nat,f0=rawInt p) (gI:IsPair s.heap TI (.ref i1) (.ref i2)) (gO:IsPair s.heap TO a b)
  (g1:s.heap.IsTupleIter i1 l1 k) (g2:s.heap.IsTupleIter i2 l2 k) (m1:s.heap.IsTuple l1 xs) (m2:s.heap.IsTuple l2 ys) (ex:xs[k]? =some x) (ey:ys[k]? =some y)
  (q:∀h' f0' Gn a' b',cR h' z TI TO f0' Gn→(∃p:Nat,f0'=rawInt p)→(f0=.none→f0'=rawInt s.heap.objs.size∧Gn=false)→IsPair h' TO a' b'→h'.IsTupleIter i1 l1 (k+1)→h'.IsTupleIter i2 l2 (k+1)→IsPair h' s.heap.objs.size x y→h'.objs.size=s.heap.objs.size+1→
   (∀c o,c≠z→c≠TO→c≠i1→c≠i2→s.heap.get? c=some o→h'.get? c=some o)→Q (some (.ref s.heap.objs.size)) {s with heap:=h'}):wpAny (model prog w) A (pyNext (.ref z)) Q E s:=by
 have ty:s.TypeIs (.ref z) "zip":=⟨_,gz,rfl⟩
 unfold pyNext
 refine wpAny_bind (wpAny_attempt (wpAny_callSpecial?_slot (name:=Str.ofString "__next__") ty PySem.F.slot_zip_next (wpAny_call_entry PySem.F.slot_zip_next ty PySem.F.entry_zip_next ?_ (PySem.F.args_zip_next_1 _))))
 rcases hf with rfl | ⟨p,rfl⟩
 ·exact rf D gz (uq gz) gI gO g1 g2 m1 m2 ex ey fun h' a1 a2 a3 a4 a5 a6 a7=>wpAny_pure (q h' _ _ _ _ a1 ⟨_,rfl⟩ (fun _=>⟨rfl,rfl⟩) a2 a3 a4 a5 a6 a7)
 ·cases gp:s.heap.get? p with
  | none=>exact rf D gz (uo gz gp) gI gO g1 g2 m1 m2 ex ey fun h' a1 a2 a3 a4 a5 a6 a7=>wpAny_pure (q h' _ _ _ _ a1 ⟨_,rfl⟩ (fun z=>nomatch z) a2 a3 a4 a5 a6 a7)
  | some op=>exact zL D gz gp gI gO g1 g2 m1 m2 ex ey fun h' a1 a2 a3 a4 a5 a6 a7=>wpAny_pure (q h' _ _ _ _ a1 ⟨_,rfl⟩ (fun z=>nomatch z) a2 a3 a4 a5 a6 a7)
theorem xQ {z TI TO i1 i2 l1 l2:Addr} {k:Nat} {f0:Value} {fl:Bool} {xs ys:Array Value} {a b:Value} {Q:Option Value→Shared→Prop} (hh:A.handled=none) (D:ZipApart z TI TO i1 i2 l1 l2) (gz:cR s.heap z TI TO f0 fl) (hf:f0=.none∨∃p:Nat,f0=rawInt p) (gI:IsPair s.heap TI (.ref i1) (.ref i2)) (gO:IsPair s.heap TO a b)
  (g1:s.heap.IsTupleIter i1 l1 k) (g2:s.heap.IsTupleIter i2 l2 k) (m1:s.heap.IsTuple l1 xs) (m2:s.heap.IsTuple l2 ys) (ex:xs[k]? =none)
  (q:∀h',(∀c o,c≠z→c≠TO→c≠i1→c≠i2→s.heap.get? c=some o→h'.get? c=some o)→Q none {s with heap:=h'}):wpAny (model prog w) A (pyNext (.ref z)) Q E s:=by
 have ty:s.TypeIs (.ref z) "zip":=⟨_,gz,rfl⟩
 unfold pyNext
 refine wpAny_bind (wpAny_attempt (wpAny_callSpecial?_slot (name:=Str.ofString "__next__") ty PySem.F.slot_zip_next (wpAny_call_entry PySem.F.slot_zip_next ty PySem.F.entry_zip_next ?_ (PySem.F.args_zip_next_1 _))))
 rcases hf with rfl | ⟨p,rfl⟩
 ·exact pA hh D gz (uq gz) gI gO g1 g2 m1 m2 ex fun h' e hk he=>(by
   obtain⟨o,ho,hc⟩:=he
   exact wpAny_bind (wpAny_isInstance (T:="StopIteration") (b:=true) ⟨o,ho,hc⟩ isSubtype_stop (wpAny_pure (q _ hk))))
 ·cases gp:s.heap.get? p with
  | none=>exact pA hh D gz (uo gz gp) gI gO g1 g2 m1 m2 ex fun h' e hk he=>(by
    obtain⟨o,ho,hc⟩:=he
    exact wpAny_bind (wpAny_isInstance (T:="StopIteration") (b:=true) ⟨o,ho,hc⟩ isSubtype_stop (wpAny_pure (q _ hk))))
  | some op=>exact xP (ys:=ys) (a:=a) (b:=b) hh D gz gp gI g1 m1 ex fun h' e hk he=>(by
    obtain⟨o,ho,hc⟩:=he
    exact wpAny_bind (wpAny_isInstance (T:="StopIteration") (b:=true) ⟨o,ho,hc⟩ isSubtype_stop (wpAny_pure (q _ hk))))
abbrev zN (h:Heap) (l1 l2:Addr):Heap:=(h.push (uh l1)).push (uh l2)
abbrev CN (h:Heap) (l1 l2:Addr):Heap:=(zN h l1 l2).push {cls:=.type "tuple",data:=.seq #[.ref h.objs.size,.ref (h.push (uh l1)).objs.size]}
abbrev zO (h:Heap) (l1 l2:Addr):Heap:=(CN h l1 l2).push {cls:=.type "tuple",data:=.seq #[.none,.none]}
abbrev rg (h:Heap) (l1 l2:Addr):Heap:=(zO h l1 l2).push {cls:=.type "zip",data:=.fields #[.none,.bool false,.bool false,.ref (zN h l1 l2).objs.size,.ref (CN h l1 l2).objs.size]}
theorem xR (l1 l2:Addr) (xs ys:Array Value):Meets (Builtin.«zip.__new__» ⟨[.type "zip",.ref l1,.ref l2],[]⟩) (fun _ R s=>s.heap.IsTuple l1 xs∧s.heap.IsTuple l2 ys∧R (.ok (.ret (.ref (zO s.heap l1 l2).objs.size))) {s with heap:=rg s.heap l1 l2}):=
 .of_wp fun prog w A R s h=>by
  obtain⟨hp,g,d,tk,os⟩:=s;obtain⟨m1,m2,h⟩:=h
  have hsub:=PySem.sub_zip
  have L1:Heap.IsTuple (Shared.heap ⟨hp,g,d,tk,os⟩) l1 xs:=m1
  have L2:Heap.IsTuple (Shared.heap ⟨hp.push (uh l1),g,d,tk,os⟩) l2 ys:=let ⟨o,ho,r⟩:=m2;⟨o,Heap.get?_push_of_some _ ho,r⟩
  wp_walk using wpAny_pyIter_tuple L1,wpAny_pyIter_tuple L2
  exact⟨_,rfl,h⟩
theorem zP {l1 l2:Addr} {xs ys:Array Value} {Q:Value→Shared→Prop} (m1:s.heap.IsTuple l1 xs) (m2:s.heap.IsTuple l2 ys)
  (q:∀h',IsZip h' (s.heap.objs.size+4) (s.heap.objs.size+2) (s.heap.objs.size+3) .none→IsPair h' (s.heap.objs.size+2) (.ref s.heap.objs.size) (.ref (s.heap.objs.size+1))→
   IsPair h' (s.heap.objs.size+3) .none .none→h'.IsTupleIter s.heap.objs.size l1 0→h'.IsTupleIter (s.heap.objs.size+1) l2 0→
   (∀c o,s.heap.get? c=some o→h'.get? c=some o)→Q (.ref (s.heap.objs.size+4)) {s with heap:=h'}):wpAny (model prog w) A (call (.type "zip") [.ref l1,.ref l2]) Q E s:=by
 refine callType_new PySem.F.called_zip (by decide) (PySem.F.typeCall_zip_2 _ _) (PySem.F.newCall_zip_2 _ _) (fun obj=>PySem.F.args_object_init_3 obj _ _) PySem.F.entry_zip_new (xR l1 l2 xs ys) ⟨m1,m2,?_⟩
 have e1:(s.heap.push (uh l1)).objs.size=s.heap.objs.size+1:=Heap.size_push ..
 have e2:(zN s.heap l1 l2).objs.size=s.heap.objs.size+2:=by rw[Heap.size_push,e1]
 have e3:(CN s.heap l1 l2).objs.size=s.heap.objs.size+3:=by rw[Heap.size_push,e2]
 have e4:(zO s.heap l1 l2).objs.size=s.heap.objs.size+4:=by rw[Heap.size_push,e3]
 have p5:(rg s.heap l1 l2).get? (zO s.heap l1 l2).objs.size=some _:=Heap.get?_push_size _ rfl
 have up:∀{c:Addr} {o:Obj},(zO s.heap l1 l2).get? c=some o→(rg s.heap l1 l2).get? c=some o:=fun x=>Heap.get?_push_of_some _ x
 have p4:(rg s.heap l1 l2).get? (CN s.heap l1 l2).objs.size=some _:=up (Heap.get?_push_size _ rfl)
 have p3:(rg s.heap l1 l2).get? (zN s.heap l1 l2).objs.size=some _:=up (Heap.get?_push_of_some _ (Heap.get?_push_size _ rfl))
 have ui:∀{c:Addr} {o:Obj},(zN s.heap l1 l2).get? c=some o→(rg s.heap l1 l2).get? c=some o:=fun x=>up (Heap.get?_push_of_some _ (Heap.get?_push_of_some _ x))
 have p2:(rg s.heap l1 l2).get? (s.heap.push (uh l1)).objs.size=some _:=ui (Heap.get?_push_size _ rfl)
 have p1:(rg s.heap l1 l2).get? s.heap.objs.size=some _:=ui (Heap.get?_push_of_some _ (Heap.get?_push_size _ rfl))
 show _∧_
 rw[e2,e3,e4] at p5
 rw[e1,e2] at p3
 rw[e3] at p4
 rw[e1] at p2
 rw[e4]
 exact⟨⟨_,p5,rfl⟩,q _ p5 p3 p4 ⟨_,p1,rfl,rfl⟩ ⟨_,p2,rfl,rfl⟩ fun c o x=>ui (Heap.get?_push_of_some _ (Heap.get?_push_of_some _ x))⟩
end
def BH (K:PySem.W.Frag) (a b:Addr):It:=
 ⟨fun i H=>∃xs ys x y,bo K H a xs∧bo K H b ys∧xs[i]? =some x∧ys[i]? =some y,
  fun i H v H'=>∃x y p,(∀xs,bo K H a xs→xs[i]? =some x)∧(∀ys,bo K H b ys→ys[i]? =some y)∧H p=none∧v=.ref p∧H'=upd H p (.tup [x,y]),
  fun i H=>∃xs ys,bo K H a xs∧bo K H b ys∧xs.length≤i⟩
theorem zQ {P:Program} {w:World} {K:PySem.W.Frag} {elts:List Expr} {x1} {tpos:Pos} (a b z TI TO i1 i2:Addr) (D:ZipApart z TI TO i1 i2 a b):
  Turn P w K (.Tuple elts x1 tpos) (BH K a b) [z,TO,i1,i2,TI] z (fun i h=>IsZip h z TI TO .none∧IsPair h TI (.ref i1) (.ref i2)∧(∃x y,IsPair h TO x y)∧h.IsTupleIter i1 a i∧h.IsTupleIter i2 b i) where
 mem:=by simp
 obj:=fun i h st c hc=>by
  obtain⟨hz,hTI,⟨x,y,hTO⟩,h1,h2⟩:=st
  have hc':c=z∨c=TO∨c=i1∨c=i2∨c=TI:=by simpa using hc
  rcases hc' with q | q | q | q | q
  ·subst q;exact⟨_,hz,fun v e=>nomatch e⟩
  ·subst q;exact⟨_,hTO,fun v e=>nomatch e⟩
  ·subst q
   obtain⟨o,e,_,d⟩:=h1
   exact⟨o,e,fun v q=>by rw[d] at q;cases q⟩
  ·subst q
   obtain⟨o,e,_,d⟩:=h2
   exact⟨o,e,fun v q=>by rw[d] at q;cases q⟩
  ·subst q;exact⟨_,hTI,fun v e=>nomatch e⟩
 keep:=fun i h h' st k=>by
  obtain⟨hz,hTI,⟨x,y,hTO⟩,h1,h2⟩:=st
  exact⟨k z (by simp) _ hz,k TI (by simp) _ hTI,⟨x,y,k TO (by simp) _ hTO⟩,let ⟨o,ho,r⟩:=h1;⟨o,k i1 (by simp) o ho,r⟩,let ⟨o,ho,r⟩:=h2;⟨o,k i2 (by simp) o ho,r⟩⟩
 item:=by
  intro X hP hw hK hc i pins s σ H E I hf st hg
  subst hP hw hK
  obtain⟨hz,hTI,⟨u1,u2,hTO⟩,h1,h2⟩:=st
  obtain⟨xs,ys,x,y,hq,hq2,hx,hy⟩:=hg
  obtain⟨its,rv,p,_⟩:=I.tuple hq
  obtain⟨its2,px,p2,_⟩:=I.tuple hq2
  obtain⟨u,hu,ru⟩:=rv.get hx
  obtain⟨v,hv,rv'⟩:=px.get hy
  refine zM D hz (.inl rfl) hTI hTO h1 h2 (show s.heap.IsTuple a its.toArray from p) (show s.heap.IsTuple b its2.toArray from p2) (x:=u) (y:=v) (by simpa using hu) (by simpa using hv) fun h1' f0' Gn a' b' a1 _ aw a2 a3 a4 a5 a6 kk=>?_
  obtain⟨rfl,rfl⟩:=aw rfl
  have nn:H s.heap.objs.size=none:=I.hok.fresh (Nat.le_refl _)
  have uj:∀c∈[z,TO,i1,i2],fX X pins H c:=fun c hc=>hf c (by
   have hc':c=z∨c=TO∨c=i1∨c=i2:=by simpa using hc
   rcases hc' with q | q | q | q<;>simp[q])
  have I1:Inv X pins σ (upd H s.heap.objs.size (.tup [x,y])) {s with heap:=h1',toks:=s.toks}:=
   I.kT (ch:=[z,TO,i1,i2]) uj (fun c o hc q=>kk c o (fun e=>hc (by simp[e])) (fun e=>hc (by simp[e])) (fun e=>hc (by simp[e])) (fun e=>hc (by simp[e])) q) (Nat.le_refl _)
    ⟨⟨by show 2≤sizeLine;decide,_,a5,rfl⟩,[u,v],.cons ru (.cons rv' .nil),⟨_,a5,rfl,_,rfl⟩⟩
  have lz:z<s.heap.objs.size:=Heap.lt_size hz
  have Gf:TI<s.heap.objs.size:=Heap.lt_size hTI
  have Gg:TO<s.heap.objs.size:=Heap.lt_size hTO
  have l1:i1<s.heap.objs.size:=by obtain⟨o,q,_⟩:=id h1;exact Heap.lt_size q
  have l2:i2<s.heap.objs.size:=by obtain⟨o,q,_⟩:=id h2;exact Heap.lt_size q
  refine⟨_,rfl,wpAny_letOwnedTupleGo_zip a1 fun h2' e2 sb=>?_⟩
  obtain⟨f0,f1,f2,f3,f4,f5⟩:=hf z (by simp)
  have I2:=I1.turned (h':=h2') (t':=s.toks) (it:=z) (fun c o hc q=>(sb.2 c hc).trans q) (by rw[ao (Nat.ne_of_lt lz)];exact f0) f1 f3 f4 f5
  refine⟨.ref s.heap.objs.size,_,I2,rfl,⟨x,y,s.heap.objs.size,fun zs hy=>by rw[I.gD hy hq];exact hx,fun zs hz'=>by rw[I.gD hz' hq2];exact hy,nn,rfl,rfl⟩,
   ⟨e2,(sb.2 TI D.TIz).trans (kk _ _ D.TIz D.TITO D.TIi1 D.TIi2 hTI),⟨_,_,(sb.2 TO D.TOz).trans a2⟩,let ⟨o,ho,r⟩:=a3;⟨o,(sb.2 i1 D.i1z).trans ho,r⟩,let ⟨o,ho,r⟩:=a4;⟨o,(sb.2 i2 D.i2z).trans ho,r⟩⟩,fun c hc=>?_⟩
  have hlt:c<s.heap.objs.size:=by
   have hc':c=z∨c=TO∨c=i1∨c=i2∨c=TI:=by simpa using hc
   rcases hc' with q | q | q | q | q
   ·rw[q];exact lz
   ·rw[q];exact Gg
   ·rw[q];exact l1
   ·rw[q];exact l2
   ·rw[q];exact Gf
  rw[ao (Nat.ne_of_lt hlt)]
  exact(hf c hc).1
 done:=by
  intro X hP hw hK hc i pins s σ H E I hf st hg
  subst hP hw hK
  obtain⟨hz,hTI,⟨u1,u2,hTO⟩,h1,h2⟩:=st
  obtain⟨xs,ys,hq,hq2,hx⟩:=hg
  obtain⟨its,rv,p,_⟩:=I.tuple hq
  obtain⟨its2,px,p2,_⟩:=I.tuple hq2
  have hl:=rv.length
  have uj:∀c∈[z,TO,i1,i2],fX X pins H c:=fun c hc=>hf c (by
   have hc':c=z∨c=TO∨c=i1∨c=i2:=by simpa using hc
   rcases hc' with q | q | q | q<;>simp[q])
  exact xQ (I.ok.hd hc) D hz (.inl rfl) hTI hTO h1 h2 (show s.heap.IsTuple a its.toArray from p) (show s.heap.IsTuple b its2.toArray from p2) (by simp;omega) fun h' kk=>
   ⟨rfl,I.wJ (t':=s.toks) (ch:=[z,TO,i1,i2]) uj (fun c o hc q=>kk c o (fun e=>hc (by simp[e])) (fun e=>hc (by simp[e])) (fun e=>hc (by simp[e])) (fun e=>hc (by simp[e])) q)⟩
 self:=fun _ _ _ _ _ st h=>wpAny_pyIter_zip st.1 h
def Js (K:PySem.W.Frag) (ta:TA):TI:=fun σ H R=>ta σ H fun vs H1=>∃a b,vs=[.ref a,.ref b]∧(∃xs,bo K H1 a xs)∧(∃ys,bo K H1 b ys)∧R (BH K a b) H1
theorem Ej {X:Cx} {elts:List Expr} {x1} {tpos:Pos} {a b:Expr} {ta:TA} {p pos:Pos} (hg:Gl X "zip") (hm:X.mg "zip"=none) (ha:PA X [a,b] ta)
  (hs:starEach [a,b] X.env=[(false,eval a X.env),(false,eval b X.env)]:=by rfl) (hs2:starEach [b] X.env=[(false,eval b X.env)]:=by rfl):
  PI X (.Tuple elts x1 tpos) (.Call (.Name "zip" p) [a,b] [] pos) (Js X.K ta):=by
 intro pins s σ H R I h
 refine Call_ (dP I hg hm boot_zip (PyProof.Rows.callWith_type1 (aN (ha pos pins s σ H _ I h) fun us s1 ⟨vs,H1,I1,r1,q1⟩=>?_) (by rw[hs,hs2]) (by rw[hs2];rfl)))
 obtain⟨l1,l2,e,⟨xs,hq⟩,⟨ys,hq2⟩,q⟩:=q1
 subst e
 cases r1 with
 | cons r rr=>
  cases rr with
  | cons r' rr=>
   cases rr
   cases r
   cases r'
   obtain⟨its,rv,pl,_⟩:=I1.tuple hq
   obtain⟨its2,px,zH,_⟩:=I1.tuple hq2
   have a1:l1<s1.heap.objs.size:=by obtain⟨_,e,_⟩:=(show s1.heap.IsTuple l1 its.toArray from pl);exact Heap.lt_size e
   have a2:l2<s1.heap.objs.size:=by obtain⟨_,e,_⟩:=(show s1.heap.IsTuple l2 its2.toArray from zH);exact Heap.lt_size e
   refine zP (show s1.heap.IsTuple l1 its.toArray from pl) (show s1.heap.IsTuple l2 its2.toArray from zH) fun h' hz hTI hTO hi1 hi2 kk=>?_
   have I2:Inv X pins σ H1 {s1 with heap:=h'}:=I1.kept (t':=s1.toks) kk
   refine wpAny_pyIter_zip hz ?_
   refine⟨s1.heap.objs.size+4,[s1.heap.objs.size+4,s1.heap.objs.size+3,s1.heap.objs.size,s1.heap.objs.size+1,s1.heap.objs.size+2],_,_,H1,rfl,I2,zQ l1 l2 _ _ _ _ _ (zipApart_new a1 a2),⟨hz,hTI,⟨_,_,hTO⟩,hi1,hi2⟩,fun c hc=>?_,q⟩
   have hle:s1.heap.objs.size≤c:=by
    have hc':c=s1.heap.objs.size+4∨c=s1.heap.objs.size+3∨c=s1.heap.objs.size∨c=s1.heap.objs.size+1∨c=s1.heap.objs.size+2:=by simpa using hc
    rcases hc' with q | q | q | q | q<;>(rw[q];first | exact Nat.le_add_right _ _ | exact Nat.le_refl _)
   exact I1.gv hle (I1.hok.fresh hle)
theorem zR {K:PySem.W.Frag} {a b:Addr} {xs ys:List V} {g:TG} {tt:TT} {te:TE} {D:Addr} {σ:St} {H:Hp} {R:Hp→Prop} (Pv:Nat→St→Hp→Prop) (hlen:xs.length=ys.length) (h0:Pv 0 σ H) (hl:∀i σ H,i≤xs.length→Pv i σ H→bo K H a xs∧bo K H b ys)
  (hs:∀i x y p σ H,xs[i]? =some x→ys[i]? =some y→Pv i σ H→H p=none→g (.ref p) σ (upd H p (.tup [x,y])) fun σ2 H2=>tt σ2 H2 fun b H3=>if b=true then te σ2 H3 fun y H4=>∃ys,H4 D=some (.lst ys)∧ys.length<sizeLine∧Pv (i+1) σ2 (upd H4 D (.lst (ys++[y]))) else Pv (i+1) σ2 H3)
  (hd:∀σ H,Pv xs.length σ H→R H):gg (BH K a b) g tt te D σ H R:=by
 refine⟨fun i m σ H=>m=xs.length-i∧i≤xs.length∧Pv i σ H,⟨xs.length,by simp,Nat.zero_le _,h0⟩,?_⟩
 rintro i m σ H ⟨rfl,hi,p⟩
 obtain⟨q1,q2⟩:=hl i σ H hi p
 by_cases hlt:i<xs.length
 ·refine .inr ⟨⟨xs,ys,xs[i],ys[i]'(by omega),q1,q2,by simp[hlt],by simp[hlen▸hlt]⟩,Pv (i+1),fun σ' H' p'=>⟨xs.length-(i+1),by omega,rfl,hlt,p'⟩,fun v H' y=>?_⟩
  obtain⟨x,y,p',e1,e2,e3,rfl,rfl⟩:=y
  exact hs i x y p' σ H (e1 xs q1) (e2 ys q2) p e3
 ·have e:i=xs.length:=by omega
  subst e
  exact .inl ⟨⟨xs,ys,q1,q2,Nat.le_refl _⟩,hd σ H p⟩
theorem aI {t u:TS} {D:Ends} {σ:St} {H:Hp} (h:∀R:St→Hp→Prop,R=u D→t {D with nx:=R} σ H):tJ t u D σ H:=h _ rfl
def Jt (J:It) (g:TG) (tb:TS) (D:Ends) (σ:St) (H:Hp):Prop:=∃W:Nat→Nat→St→Hp→Prop,(∃m,W 0 m σ H)∧∀i m σ H,W i m σ H→
 (J.stop i H∧D.nx σ H)∨(J.go i H∧∃N:St→Hp→Prop,(∀σ' H',N σ' H'→∃m',m'<m∧W (i+1) m' σ' H')∧∀x H',J.lI i H x H'→g x σ H' fun σ2 H2=>tb {D with nx:=N,ct:=N,bk:=D.nx} σ2 H2)
theorem rh {K:PySem.W.Frag} {a:Addr} {xs:List V} {g:TG} {tb:TS} {D:Ends} {σ:St} {H:Hp} (Pv:Nat→St→Hp→Prop) (h0:Pv 0 σ H) (hl:∀i σ H,i≤xs.length→Pv i σ H→bp K H a xs)
  (hs:∀i x σ H (N:St→Hp→Prop),(∀σ H,Pv (i+1) σ H→N σ H)→xs[i]? =some x→Pv i σ H→g x σ H fun σ2 H2=>tb {D with nx:=N,ct:=N,bk:=D.nx} σ2 H2) (hd:∀σ H,Pv xs.length σ H→D.nx σ H):Jt (tL K a) g tb D σ H:=
 g_ Pv h0 hl (fun i x σ H e p=>hs i x σ H _ (fun _ _ z=>z) e p) hd
theorem nz {c:TT} {tb:TS} {D:Ends} {σ:St} {H:Hp} (W:Nat→St→Hp→Prop) (h0:∃m,W m σ H)
  (hs:∀m σ H (N:St→Hp→Prop),(∀σ' H' m',m'<m→W m' σ' H'→N σ' H')→W m σ H→c σ H fun b H1=>if b=true then tb {D with nx:=N,ct:=N,bk:=D.nx} σ H1 else D.nx σ H1)
  (mono:∀σ H Q Q',(∀b H1,Q b H1→Q' b H1)→c σ H Q→c σ H Q'):tK c tb D σ H:=Gm W h0 (fun m σ H w=>hs m σ H _ (fun _ _ m' h w'=>⟨m',h,w'⟩) w) mono
theorem Ek {X:Cx} {tg:Expr} (K:PySem.W.Frag) {l:Expr} {tl:TE} (hl:PE X l tl) (hK:X.K=K:=by rfl):PI X tg l (Fb K tl):=by subst hK;exact f_ hl
section
variable {X:Cx}
def Ju (K:PySem.W.Frag):R2:=fun x y H Q=>∃(a b:Addr) (xs ys:List V),x=.ref a∧y=.ref b∧H a=some (.tup xs)∧H b=some (.tup ys)∧xs.length+ys.length≤sizeLine∧∀u H',Same H H'→H' u=some (.tup (xs++ys))→Q (.ref u) H'
theorem qj (K:PySem.W.Frag) (hK:X.K=K:=by rfl):cY X (binaryOp .Add) (Ju K):=by
 subst hK
 intro pins s σ H x y v u Q I rx ry h
 obtain⟨a,b,xs,ys,rfl,rfl,ha,hb,hz,q⟩:=h
 by_cases hx:xs=[]
 ·subst hx
  exact wD pins s σ H _ _ v u Q I rx ry ⟨a,b,ys,rfl,rfl,.of ha,.of hb,q b H (.refl _) hb⟩
 ·exact wu pins s σ H _ _ v u Q I rx ry ⟨a,b,xs,ys,rfl,rfl,.of ha,.of hb,hx,hz,fun z=>q a H (.refl _) (by rw[z,List.append_nil];exact ha),fun _ p hp=>q p _ (Same.new hp) af⟩
end
end L2
set_option maxHeartbeats 8000000
set_option maxHeartbeats 8000000
set_option maxHeartbeats 8000000
set_option maxHeartbeats 8000000
set_option maxHeartbeats 8000000
set_option maxHeartbeats 8000000
set_option maxHeartbeats 8000000
namespace L2
open PySem PySem.Spec PyProof.Rows
section
open Builtin
theorem xS (l:Addr) (items:Array Value) (n:Nat) (dd:Option Addr) (sl:Array (Option Value)) (u:Tok) (he:items.isEmpty=false):
  Meets (Builtin.«tuple.__mul__» ⟨[.ref l,.int 0 u],[]⟩) (fun _ R s=>s.heap.get? l=some {cls:=.type "tuple",dict:=dd,data:=.seq items n,slots:=sl}∧R (.ok (.ret (Value.ref s.heap.objs.size))) {s with heap:=s.heap.push {cls:=Value.type "tuple",data:=Data.seq #[]},toks:=s.toks}):=
 .of_wp fun prog w A R s h=>by
  obtain⟨hp,g,d,tk,os⟩:=s;obtain⟨hl,h⟩:=h
  have f1:=AutoSeq1.idx_int
  wp_walk using wpAny_loadPart' hl
  exact⟨_,rfl,h⟩
theorem xT (l:Addr) (items:Array Value) (n:Nat) (dd:Option Addr) (sl:Array (Option Value)) (u:Tok):
  Meets (Builtin.«tuple.__mul__» ⟨[.ref l,.int 1 u],[]⟩) (fun _ R s=>s.heap.get? l=some {cls:=.type "tuple",dict:=dd,data:=.seq items n,slots:=sl}∧R (.ok (.ret (Value.ref l))) s):=
 .of_wp fun prog w A R s h=>by
  obtain⟨hp,g,d,tk,os⟩:=s;obtain⟨hl,h⟩:=h
  have f1:=AutoSeq1.idx_int
  wp_walk using wpAny_loadPart' hl
  exact⟨_,rfl,h⟩
def CO (K:PySem.W.Frag):R2:=fun x y H Q=>∃(a:Addr) (xs:List V) (k:Nat),x=.ref a∧y=.int (k:Int)∧bo K H a xs∧xs≠[]∧xs.length*k≤100000∧(k=1→Q (.ref a) H)∧∀p,H p=none→Q (.ref p) (upd H p (.tup (List.replicate k xs).flatten))
theorem g9 {X:Cx} (K:PySem.W.Frag) (hK:X.K=K:=by rfl):cY X (binaryOp .Mult) (CO K):=by
 subst hK
 intro pins s σ H x y v u Q I rx ry h
 obtain⟨a,xs,k,rfl,rfl,ha,hx,hz,q1,q⟩:=h
 by_cases hk:2≤k
 ·exact BD X.K rfl pins s σ H _ _ v u Q I rx ry ⟨a,xs,k,rfl,rfl,ha,hx,hk,hz,q⟩
 cases rx
 obtain⟨t,rfl⟩:=ry
 obtain⟨its,r,p1,_⟩:=I.tuple ha
 obtain⟨⟨cls,dd,data,sl⟩,ho,hc,n,hd⟩:=id p1
 simp only at hc hd
 subst hc hd
 have li:its.length=xs.length:=r.length.symm
 have lp:0<its.length:=by rw[li];exact List.length_pos_iff.mpr hx
 have e0:its.toArray.isEmpty=false:=by cases its with | nil=>simp at lp | cons _ _=>simp
 have hk2:k=0∨k=1:=by omega
 rcases hk2 with rfl | rfl
 ·refine wpAny_binaryOp_repeat_ref (T:="tuple") (U:="int") (by decide) ⟨_,ho,rfl⟩ (fun s'=>typeIs_int s' _ t) gA PySem.F.fills_int_mul PySem.F.slot_int_rmul jr PySem.F.slot_int_index.lookup
   (call_meets PySem.F.slot_int_rmul (typeIs_int s _ t) PySem.F.entry_int_rmul (PySem.F.args_int_rmul_2 _ _) (g8 _ t a its.toArray n dd sl)
    ⟨ho,rfl,⟨_,ho,rfl⟩,call_meets PySem.F.slot_tuple_mul ⟨_,ho,rfl⟩ PySem.F.entry_tuple_mul (PySem.F.args_tuple_mul_2 _ _) (xS a its.toArray n dd sl t e0) ⟨ho,?_⟩⟩)
  refine⟨.ref _,_,I.laid (t':=s.toks) (o:=.tup []) (fun b ob q=>Heap.get?_push_of_some _ q) (Nat.le_refl _) ?_,rfl,q _ (I.hok.fresh (Nat.le_refl _))⟩
  exact⟨⟨Nat.zero_le _,_,Heap.get?_push_size _ rfl,rfl⟩,[],.nil,IsTup.new _ _⟩
 ·refine wpAny_binaryOp_repeat_ref (T:="tuple") (U:="int") (by decide) ⟨_,ho,rfl⟩ (fun s'=>typeIs_int s' _ t) gA PySem.F.fills_int_mul PySem.F.slot_int_rmul jr PySem.F.slot_int_index.lookup
   (call_meets PySem.F.slot_int_rmul (typeIs_int s _ t) PySem.F.entry_int_rmul (PySem.F.args_int_rmul_2 _ _) (g8 _ t a its.toArray n dd sl)
    ⟨ho,rfl,⟨_,ho,rfl⟩,call_meets PySem.F.slot_tuple_mul ⟨_,ho,rfl⟩ PySem.F.entry_tuple_mul (PySem.F.args_tuple_mul_2 _ _) (xT a its.toArray n dd sl t) ⟨ho,?_⟩⟩)
  exact⟨.ref _,_,I,rfl,q1 rfl⟩
end
section
variable {X:Cx}
def Jv (K:PySem.W.Frag):List V→Hp→VK→Prop:=fun xs H Q=>∃(a:Addr) (ns:List Int),xs=[.ref a]∧bo K H a (ns.map V.int)∧Q (.bl (ns.any (· != 0))) H
theorem xU (K:PySem.W.Frag) (hc:X.calm=true) (hK:X.K=K:=by rfl):cQ X (.builtin "any") (Jv K):=by
 subst hK
 intro pins s σ H xs us Q I r h
 obtain⟨a,ns,rfl,hq,q⟩:=h
 obtain⟨u,rfl,ru⟩:=vals1 r
 cases ru
 obtain⟨its,rv,p,hz⟩:=I.tuple hq
 have p':s.heap.IsTuple a its.toArray:=p
 have bl:a<s.heap.objs.size:=by obtain⟨o,e,_⟩:=p';exact Heap.lt_size e
 refine call_any_walk ?_
 refine wpAny_pyIter_tuple p' ?_
 refine⟨s.heap.objs.size,_,_,_,_,_,fun i=>(ns.getD i 0 != 0),rfl,Walks.tuple (A:=X.A.in1) (I.ok.hd hc) _ a (Nat.ne_of_lt bl) its.toArray,⟨⟨_,Heap.get?_push_size _ rfl,rfl,rfl⟩,p'.push _⟩,?_,fun h' tk k=>?_⟩
 ·intro i v s' Q' E' hv hQ'
  rw[List.getElem?_toArray] at hv
  have:∃t,v=.int (ns.getD i 0) t:=by
   clear hQ' p p' hq q hz
   induction ns generalizing its i with
   | nil=>cases rv;simp at hv
   | cons n ns ih=>
    cases rv with
    | cons r rv=>
     cases i with
     | zero=>
      simp at hv
      subst hv
      exact r
     | succ i=>
      simp only[List.getElem?_cons_succ] at hv
      exact ih _ rv _ hv
  obtain⟨t,rfl⟩:=this
  exact truthy_int hQ'
 ·refine⟨.bl (ns.any (· != 0)),H,I.kept fun b o eo=>k b o (fun z=>Nat.ne_of_lt (Heap.lt_size eo) (List.mem_singleton.mp z)) (Heap.get?_push_of_some _ eo),?_,q⟩
  have hl:its.toArray.size=ns.length:=by rw[List.size_toArray,←Paired.length rv,List.length_map]
  have ea:∀cs:List Int,(List.range cs.length).any (fun i=>cs.getD i 0 != 0)=cs.any (· != 0):=fun cs=>by
   induction cs with
   | nil=>rfl
   | cons c cs ih=>
    rw[List.length_cons,List.range_succ_eq_map,List.any_cons,List.any_map,List.any_cons,←ih]
    rfl
  show _=Value.bool _
  rw[hl,ea]
theorem mJ {a:Expr} {ta:TE} (ha:PE X a ta) (he:∀whole,isTrue a X.env whole=(do let v ←whole;standAt a.pos;holding [v] (truthy v))):
  PT X a (fun σ H Q=>ta σ H fun x H'=>∃(p:Addr) (kvs:List (Key×V)),x=.ref p∧Rd H' p (.dK kvs)∧Q (!kvs.isEmpty) H'):=by
 intro pins s σ H Q I h
 refine isTrue_plain (aN (ha pins s σ H _ I h) fun v s1 ⟨x,H1,I1,r1,q1⟩=>?_) (he _)
 obtain⟨p,kvs,rfl,e,q⟩:=q1
 cases r1
 exact D7 I1 e fun s' I'=>⟨H1,I',q⟩
def El:List V→Hp→VK→Prop:=fun xs H Q=>∃(d:Addr) (kvs:List (Key×V)) (ss:List Int),xs=[.ref d]∧H d=some (.dK kvs)∧kvs.map (·.1)=ss.map Sum.inl∧ss.length≤sizeLine∧
 ∀p,H p=none→Q (.ref p) (upd H p (.lst (ss.map V.int)))
theorem vJ (hc:X.calm=true):cQ X (.type "list") El:=by
 intro pins s σ H xs us Q I r h
 obtain⟨d,kvs,ss,rfl,hd,hk,h64,q⟩:=h
 obtain⟨u,rfl,ru⟩:=vals1 r
 cases ru
 obtain⟨hz,lo,vs,rel,dd⟩:=sH I.hok hd
 obtain⟨ep,hat⟩:=dd.dictAt
 have hlk:kvs.length=ss.length:=by have:=congrArg List.length hk;simpa using this
 have Tt:kvs.length=vs.length:=rel.length
 have hks:∀(i:Nat) (k:Key) (x:Value),vs[i]? =some (k,x)→∃y,ss[i]? =some y∧k=Sum.inl y:=fun i k x e=>by
  have h1:(vs.map (·.1))[i]? =some k:=by rw[List.getElem?_map,e];rfl
  have h2:vs.map (·.1)=ss.map Sum.inl:=by
   rw[←hk]
   have:∀{l:List (Key×V)} {m:List (Key×Value)},KV l m→m.map (·.1)=l.map (·.1):=fun {l m} q=>by
    unfold KV at q
    induction q with
    | nil=>rfl
    | cons a _ ih=>rw[List.map_cons,List.map_cons,ih,a.1]
   exact this rel
  rw[h2,List.getElem?_map] at h1
  cases es:ss[i]? with
  | none=>rw[es] at h1;cases h1
  | some y=>rw[es] at h1;exact⟨y,rfl,(Option.some.inj h1).symm⟩
 have src:=PySem.W.kdl_dict (prog:=X.prog) (w:=X.w) (knd:=a_ X.prog X.w) (kvs:=vs) (ep:=ep) lo
 have hlt:=src.there _ hat
 refine callType_codes (Q₁:=fun obj s₁=>obj=.ref s.heap.objs.size∧s₁={s with heap:=s.heap.push {cls:=.type "list",data:=.seq #[]}}) F.called_list (F.typeCall_list_1 _) F.entry_list_init
  (code_list_new _ ⟨rfl,rfl⟩) fun obj s₁ h₁=>?_
 obtain⟨rfl,rfl⟩:=h₁
 have hS:(s.heap.push {cls:=.type "list",data:=.seq #[]}).get? s.heap.objs.size=some {cls:=.type "list",data:=.seq #[]}:=Heap.get?_push_size _ rfl
 refine⟨⟨_,hS,rfl⟩,F.args_list_init_2 _ _,?_⟩
 show wpAny _ _ (do let old ←Builtin.List.listItems (.ref s.heap.objs.size);Builtin.List.listUpdate (.ref s.heap.objs.size) (fun _=> #[]);letGo old.toList.reverse;Builtin.List.listExtendWith (.ref s.heap.objs.size) (.ref d) .none) _ _ _
 refine wpAny_bind ?_
 unfold Builtin.List.listItems
 refine wpAny_bind (wpAny_seqItems hS rfl (wpAny_pure ?_))
 show wpAny _ _ (updateSeq s.heap.objs.size (fun _=> #[]) >>= fun _=>letGo (#[]:Array Value).toList.reverse >>= fun _=>Builtin.List.listExtendWith (.ref s.heap.objs.size) (.ref d) .none) _ _ _
 refine wpAny_bind (wpAny_updateSeq hS rfl ?_)
 have hS₂:=Heap.get?_update_self (Obj.mapSeq (fun _=>(#[]:Array Value))) hS rfl
 have oth:∀b o,b≠s.heap.objs.size→s.heap.get? b=some o→((s.heap.push {cls:=.type "list",data:=.seq #[]}).update s.heap.objs.size (Obj.mapSeq (fun _=>(#[]:Array Value)))).get? b=some o:=
  fun b o hb e=>(Heap.get?_update_other _ _ (Ne.symm hb)).trans (Heap.get?_push_of_some _ e)
 refine wpAny_bind (wpAny_letGo ?_)
 refine PySem.W.kdl_extend (A:=X.A.in1) src (I.ok.hd hc) (src.keep _ _ hat fun b _ o e=>oth b o (Nat.ne_of_lt (Heap.lt_size e)) e) s.heap.objs.size (Nat.ne_of_gt hlt.1) (Nat.ne_of_gt hlt.2) .none _ hS₂ (fun h' tk acc c' kk hS' it=>?_) (by omega)
 have hl:acc.toList.length=ss.length:=by rw[Array.length_toList,it.1];omega
 have hST:IntsAre acc.toList ss:=pz hl fun i v x e1 e2=>by
  obtain⟨kk,z,ek,ik⟩:=it.2 i v (by rw[←Array.getElem?_toList];exact e1)
  obtain⟨y,ey,rfl⟩:=hks i kk z ek
  rw[e2] at ey
  cases ey
  rw[xo] at ik
  rcases cj ik with⟨x',t,z,ev⟩ | ⟨_,_,z,_⟩
  ·cases z
   exact⟨t,ev⟩
  ·cases z
 have rl:∀{vs:List Value} {xs:List Int},IntsAre vs xs→Vals (xs.map V.int) vs:=fun {vs xs} q=>by
  induction q<;>first | exact .nil | (rename_i ih;exact .cons ⟨_,rfl⟩ ih)
 refine⟨rfl,.ref s.heap.objs.size,_,I.laid (t':=tk) (o:=.lst (ss.map V.int)) (fun b o e=>kk b o (Nat.ne_of_lt (Heap.lt_size e)) (oth b o (Nat.ne_of_lt (Heap.lt_size e)) e)) (Nat.le_refl _) ?_,rfl,q _ (I.hok.fresh (Nat.le_refl _))⟩
 exact⟨by rw[List.length_map];exact h64,acc.toList,c',rl hST,by simpa using hS'⟩
def Gp (K:PySem.W.Frag):R2:=fun x y H Q=>Bn K x y H Q∨Bo K x y H Q
theorem zS (K:PySem.W.Frag) (hK:X.K=K:=by rfl):tP X (Gp K):=by
 intro value slice pins s σ H x y v u Q I rx ry h hs
 rcases h with h | h
 ·exact aM K hK value slice pins s σ H x y v u Q I rx ry h hs
 ·exact aP K hK value slice pins s σ H x y v u Q I rx ry h hs
theorem wK {K:PySem.W.Frag} {a:Addr} {xs:List V} {i:Int} {v:V} {H:Hp} {Q:VK} (h:bp K H a xs∨bo K H a xs) (e:iX xs i=some v) (q:Q v H):Gp K (.ref a) (.int i) H Q:=by
 rcases h with h | h
 ·exact .inl ⟨a,xs,i,v,rfl,rfl,h,e,q⟩
 ·exact .inr ⟨a,xs,i,v,rfl,rfl,h,e,q⟩
theorem BI {elts:List Expr} {x1} {tpos:Pos} (K:PySem.W.Frag) {a b:Expr} {ta:TA} {p pos:Pos} (hg:Gl X "zip") (hm:X.mg "zip"=none) (ha:PA X [a,b] ta) (hK:X.K=K:=by rfl)
  (hs:starEach [a,b] X.env=[(false,eval a X.env),(false,eval b X.env)]:=by rfl) (hs2:starEach [b] X.env=[(false,eval b X.env)]:=by rfl):
  PI X (.Tuple elts x1 tpos) (.Call (.Name "zip" p) [a,b] [] pos) (CM K ta):=by subst hK;exact qi hg hm ha hs hs2
def BJ (K:PySem.W.Frag):R2:=fun x y H Q=>JO x y H Q∨(By K true x y H Q∧∃d d':Dt,aB K H x d∧aB K H y d'∧((∃ds ds',d=.tup ds∧d'=.tup ds')∨∃ds ds',d=.lst ds∧d'=.lst ds'))
theorem ur (K:PySem.W.Frag) (hu:X.A.units+64<cLine) (hK:X.K=K:=by rfl):cY X (compareOp .NotEq) (BJ K):=by
 intro pins s σ H x y v u Q I rx ry h
 rcases h with h | h
 ·exact oY pins s σ H x y v u Q I rx ry h
 ·exact FV K hu hK pins s σ H x y v u Q I rx ry h
end
end L2
namespace My
open PySem L2
def top (i:Nat):Stmt:=PySem.Challenge.pw_figurejudge_k71_first_tuples.main.body.getD i (.Pass ⟨0,0,0,0⟩)
abbrev dm:Stmt:=top 1
abbrev cU:Stmt:=top 3
abbrev eY:Stmt:=top 4
abbrev dD:Stmt:=top 6
abbrev eP:Stmt:=top 8
abbrev eI:Stmt:=top 9
abbrev fA:Stmt:=top 10
abbrev dN:Stmt:=top 11
abbrev dn:Stmt:=top 12
abbrev dE:Stmt:=top 13
abbrev dB:Stmt:=top 14
abbrev cm:Stmt:=top 15
abbrev cv:Stmt:=top 16
abbrev eQ:Stmt:=top 17
abbrev dX:Stmt:=top 18
abbrev gF:Stmt:=top 20
abbrev gB:Stmt:=top 21
abbrev hJ:Stmt:=top 22
abbrev dA:Stmt:=top 23
abbrev bY:Stmt:=top 24
abbrev eJ:Stmt:=top 25
abbrev jc:Stmt:=top 26
abbrev fK:Stmt:=top 27
abbrev gC:Stmt:=top 28
abbrev eZ:Stmt:=top 29
abbrev hU:Stmt:=top 30
abbrev ix:Stmt:=top 31
set_option genInjectivity false in
set_option genSizeOf false in
structure eK where
 gj:Addr
 h_:FuncData
 fL:Addr
 gK:FuncData
 i6:Addr
 j9:FuncData
 gL:Addr
 iP:FuncData
 gM:Addr
 iQ:FuncData
 iy:Addr
 js:FuncData
 jV:Addr
 kZ:FuncData
 gk:Addr
 h9:FuncData
 gm:Addr
 ib:FuncData
 gN:Addr
 iR:FuncData
 fM:Addr
 gP:FuncData
 fb:Addr
 fZ:FuncData
 fN:Addr
 gQ:FuncData
 gR:Addr
 iS:FuncData
 i7:Addr
 ke:FuncData
 jW:Addr
 k_:FuncData
 lh:Addr
 mK:FuncData
 lj:Addr
 mL:FuncData
 iA:Addr
 jt:FuncData
 eM:Addr
 fB:FuncData
 iB:Addr
 ju:FuncData
 nA:Addr
 oE:FuncData
 i8:Addr
 kf:FuncData
 lu:Addr
 mM:FuncData
 lx:Addr
 mN:FuncData
 nB:Addr
 oF:FuncData
 xV:Addr
 zT:FuncData
structure Txt (K:PySem.W.Frag) (mg:Str→Option Value) (a:eK):Prop where
 rZ:dw K "all_letters" "all_letters" dm a.gj a.h_
 lL:mg "all_letters"=some (.ref a.gj)
 lM:PySem.W.keepIn K (.ref a.gj)=true
 lN:Binds K a.h_ ["base","many"] []
 qk:dw K "rooms_before" "rooms_before" cU a.fL a.gK
 ql:mg "rooms_before"=some (.ref a.fL)
 qm:PySem.W.keepIn K (.ref a.fL)=true
 qo:Binds K a.gK ["machine","letters"] []
 xW:dw K "going_on" "going_on" eY a.i6 a.j9
 xX:mg "going_on"=some (.ref a.i6)
 xY:PySem.W.keepIn K (.ref a.i6)=true
 xZ:Binds K a.j9 ["machine","letters"] []
 uv:dw K "rooms_into" "rooms_into" dD a.gL a.iP
 uw:mg "rooms_into"=some (.ref a.gL)
 ux:PySem.W.keepIn K (.ref a.gL)=true
 uy:Binds K a.iP ["moves","letter"] []
 uz:dw K "noughts_of" "noughts_of" eP a.gM a.iQ
 jv:mg "noughts_of"=some (.ref a.gM)
 jw:PySem.W.keepIn K (.ref a.gM)=true
 jx:Binds K a.iQ ["machine"] []
 vK:dw K "yes_rooms" "yes_rooms" eI a.iy a.js
 nV:mg "yes_rooms"=some (.ref a.iy)
 nW:PySem.W.keepIn K (.ref a.iy)=true
 nX:Binds K a.js ["machine"] []
 zU:dw K "ends_of" "ends_of" fA a.jV a.kZ
 rj:mg "ends_of"=some (.ref a.jV)
 rq:PySem.W.keepIn K (.ref a.jV)=true
 rA:Binds K a.kZ ["machine"] []
 r_:dw K "led_further" "led_further" dN a.gk a.h9
 lO:mg "led_further"=some (.ref a.gk)
 lP:PySem.W.keepIn K (.ref a.gk)=true
 lQ:Binds K a.h9 ["machine","rooms","let"] []
 r6:dw K "with_letter" "with_letter" dn a.gm a.ib
 lR:mg "with_letter"=some (.ref a.gm)
 lT:PySem.W.keepIn K (.ref a.gm)=true
 lU:Binds K a.ib ["base","numbers","letter"] []
 uA:dw K "steps_into" "steps_into" dE a.gN a.iR
 uB:mg "steps_into"=some (.ref a.gN)
 uC:PySem.W.keepIn K (.ref a.gN)=true
 uD:Binds K a.iR ["into","rooms","there"] []
 qp:dw K "longer_heads" "longer_heads" dB a.fM a.gP
 qq:mg "longer_heads"=some (.ref a.fM)
 qr:PySem.W.keepIn K (.ref a.fM)=true
 qt:Binds K a.gP ["base","letters","into","there","heads","many"] []
 oG:dw K "tuples_as_long" "tuples_as_long" cm a.fb a.fZ
 oH:mg "tuples_as_long"=some (.ref a.fb)
 oI:PySem.W.keepIn K (.ref a.fb)=true
 oJ:Binds K a.fZ ["base","machine","into","reached","many"] []
 qu:dw K "first_tuples" "first_tuples" cv a.fN a.gQ
 fO:mg "first_tuples"=some (.ref a.fN)
 fP:PySem.W.keepIn K (.ref a.fN)=true
 fQ:Binds K a.gQ ["base","machine","many"] []
 uE:dw K "first_step" "first_step" eQ a.gR a.iS
 uF:mg "first_step"=some (.ref a.gR)
 uG:PySem.W.keepIn K (.ref a.gR)=true
 uH:Binds K a.iS ["machine","rooms","there"] []
 x5:dw K "first_of" "first_of" dX a.i7 a.ke
 x6:mg "first_of"=some (.ref a.i7)
 x8:PySem.W.keepIn K (.ref a.i7)=true
 x9:Binds K a.ke ["base","machine"] []
 zV:dw K "_law_mixed" "_law_mixed" gF a.jW a.k_
 jX:mg "_law_mixed"=some (.ref a.jW)
 jY:PySem.W.keepIn K (.ref a.jW)=true
 jZ:Binds K a.k_ ["_law_cell","_law_k"] []
 BK:dw K "_law_deck" "_law_deck" gB a.lh a.mK
 BL:mg "_law_deck"=some (.ref a.lh)
 BM:PySem.W.keepIn K (.ref a.lh)=true
 BN:Binds K a.mK ["_law_script"] []
 BO:dw K "_law_next" "_law_next" hJ a.lj a.mL
 cJ:mg "_law_next"=some (.ref a.lj)
 cK:PySem.W.keepIn K (.ref a.lj)=true
 cL:Binds K a.mL ["_law_deck_here","_law_many"] []
 vL:dw K "_law_machine" "_law_machine" dA a.iA a.jt
 vM:mg "_law_machine"=some (.ref a.iA)
 vN:PySem.W.keepIn K (.ref a.iA)=true
 vO:Binds K a.jt ["_law_deck_here","_law_base","_law_most","_law_many"] []
 nJ:dw K "_law_machine_names" "_law_machine_names" bY a.eM a.fB
 nK:mg "_law_machine_names"=some (.ref a.eM)
 nO:PySem.W.keepIn K (.ref a.eM)=true
 nP:Binds K a.fB ["_law_deck_here","_law_many"] []
 vP:dw K "_law_letters" "_law_letters" eJ a.iB a.ju
 nY:mg "_law_letters"=some (.ref a.iB)
 n_:PySem.W.keepIn K (.ref a.iB)=true
 n5:Binds K a.ju ["_law_base","_law_numbers"] []
 Em:dw K "_law_run" "_law_run" jc a.nA a.oE
 En:mg "_law_run"=some (.ref a.nA)
 Eo:PySem.W.keepIn K (.ref a.nA)=true
 Ep:Binds K a.oE ["_law_moves","_law_room","_law_some"] []
 yb:dw K "_law_counts" "_law_counts" fK a.i8 a.kf
 yc:mg "_law_counts"=some (.ref a.i8)
 yd:PySem.W.keepIn K (.ref a.i8)=true
 ye:Binds K a.kf ["_law_machine_here","_law_places"] []
 BP:dw K "_law_ring" "_law_ring" gC a.lu a.mM
 BQ:mg "_law_ring"=some (.ref a.lu)
 BR:PySem.W.keepIn K (.ref a.lu)=true
 BS:Binds K a.mM ["_law_deck_here","_law_base"] []
 BU:dw K "_law_rank" "_law_rank" eZ a.lx a.mN
 BV:mg "_law_rank"=some (.ref a.lx)
 BW:PySem.W.keepIn K (.ref a.lx)=true
 BX:Binds K a.mN ["_law_machine_here","_law_counts_here","_law_some"] []
 Er:dw K "_law_all" "_law_all" hU a.nB a.oF
 Es:mg "_law_all"=some (.ref a.nB)
 Et:PySem.W.keepIn K (.ref a.nB)=true
 Eu:Binds K a.oF ["_law_machine_here","_law_counts_here","_law_span"] []
 Jw:dw K "law" "law" ix a.xV a.zT
 S8:mg "law"=some (.ref a.xV)
 cw:mg "range"=none
 cX:mg "enumerate"=none
 mO:mg "list"=none
 fR:mg "tuple"=none
 pB:mg "reversed"=none
 Jx:mg "min"=none
 Gq:mg "dict"=none
 uI:mg "sorted"=none
 yf:mg "max"=none
 cF:mg "len"=none
 sJ:mg "any"=none
 sO:mg "sum"=none
 yg:mg "int"=none
 Jy:mg "abs"=none
 gS:mg "isinstance"=none
 sP:mg "zip"=none
 Gs:mg "bool"=none
def qv (c k:Int):Int:=(c % 2147483629*48271+7919*k+13) % 2147483629
def BZ (n k:Int):Int:=(n*(n / 5+k)+16807*k) % 2147483587
def Ma (n:Int):Int:=(n*69621+n / 127) % 2147483647
def kg (c k:Int):Int:=Ma (BZ (qv c k) k)
theorem Ew (c k:Int):0≤qv c k∧qv c k<2147483629:=⟨Int.emod_nonneg _ (by decide),Int.emod_lt_of_pos _ (by decide)⟩
theorem Ex (c k:Int):0≤BZ c k∧BZ c k<2147483587:=⟨Int.emod_nonneg _ (by decide),Int.emod_lt_of_pos _ (by decide)⟩
theorem qw (c k:Int):0≤kg c k∧kg c k<2147483647:=⟨Int.emod_nonneg _ (by decide),Int.emod_lt_of_pos _ (by decide)⟩
def Ey:Sp:=fun vs H Q _=>∃(c k:Int),vs=[.int c,.int k]∧Q (.int (kg c k)) H
section
variable {P:Program} {w:World} {K:PySem.W.Frag} {mg:Str→Option Value} {base:Heap}
theorem lA:aY ["_law_cell","_law_k","_law_number"] ["_law_cell","_law_k"] (aq gF):=⟨rfl,rfl,rfl,by decide+kernel,rfl,by decide+kernel,by decide+kernel⟩
theorem pC {a:eK} (T:Txt K mg a):bR P w K mg base dr 1 a.jW a.k_ ["_law_cell","_law_k"] Ey:=by
 refine T.zV.ok lA (fun vs H Q E h=>?_) (fun cdv A outer s H vs Q E hr h=>?_)
 ·obtain⟨c,k,rfl,_⟩:=h
  rfl
 ·obtain⟨c,k,rfl,q⟩:=h
  refine⟨_,ah (aC (i:=2) lA.nd rfl (Or.inl rfl) (aF mz (aF cq (aF cq (aF fc (aF mz (pv 0) ak) ak) (aF fc ak (pv 1))) ak) ak))
   (ah (aC (i:=2) lA.nd rfl (Or.inl rfl) (aF mz (aF cq (aF fc (pv 2) (aF cq (aF we (pv 2) ak) (pv 1))) (aF fc ak (pv 1))) ak))
   (ax (aS (aF mz (aF cq (aF fc (pv 2) ak) (aF we (pv 2) ak)) ak)))),?_⟩
  have h1:=Ew c k
  have h2:=Ex (qv c k) k
  refine⟨_,rfl,_,_,rfl,rfl,(by show(0:Int)<_;decide),_,_,rfl,rfl,.inr (by decide),_,rfl,_,_,rfl,rfl,.inl (by decide),_,_,rfl,rfl,_,_,rfl,rfl,_,_,rfl,rfl,(by show(0:Int)<_;decide),?_⟩
  refine⟨_,rfl,_,rfl,_,_,rfl,rfl,⟨by decide,by decide⟩,_,rfl,_,_,rfl,rfl,_,_,rfl,rfl,.inl (by show-(2 ^ 64)<qv c k∧qv c k<2 ^ 64;omega),_,rfl,_,_,rfl,rfl,.inl (by decide),_,_,rfl,rfl,_,_,rfl,rfl,(by show(0:Int)<_;decide),?_⟩
  exact⟨_,rfl,_,_,rfl,rfl,.inr (by decide),_,rfl,_,_,rfl,rfl,⟨by decide,by decide⟩,_,_,rfl,rfl,_,_,rfl,rfl,(by show(0:Int)<_;decide),q⟩
def NN (ms:List Int):Prop:=∀m∈ms,0≤m
theorem NN.app {xs ys:List Int} (a:NN xs) (b:NN ys):NN (xs++ys):=fun m h=>(List.mem_append.mp h).elim (a m) (b m)
theorem NN.one {x:Int} (h:0≤x):NN [x]:=fun m hm=>by
 have:m=x:=by simpa using hm
 subst this;exact h
def Gu (K:PySem.W.Frag):Sp:=fun vs H Q _=>∃(a:Addr) (ns:List Int),vs=[.ref a]∧bp K H a (ns.map V.int)∧ns.length≤63∧
 ∀(D:Addr) (H':Hp),H D=none→Same H H'→cT H' D→Q (.ref D) H'
theorem CP (ns:List Int) (h:ns.length≤63):eO (ns.map V.int) none (some 63)=ns.map V.int:=by
 unfold eO
 rw[show HT.aU (ns.map V.int).length 0 none=0 from rfl,show(some (63:Int))=some ((63:Nat):Int) from rfl,HT.wo]
 rw[List.drop_zero,List.length_map]
 exact List.take_of_length_le (by rw[List.length_map];omega)
theorem Ez (ms:List Int) (n:Nat):eO (ms.map V.int) none (some (n:Int))=(ms.take n).map V.int:=by
 unfold eO
 rw[show HT.aU (ms.map V.int).length 0 none=0 from rfl,HT.wo]
 rw[List.drop_zero,List.length_map,Nat.sub_zero,←List.map_take]
 congr 1
 by_cases h:n≤ms.length
 ·rw[Nat.min_eq_left h]
 ·rw[Nat.min_eq_right (by omega),List.take_of_length_le (Nat.le_refl _),List.take_of_length_le (by omega)]
theorem dY:aY ["_law_script","_law_deck_here","_law_k","_law_cell","_law_number","_law_turn"] ["_law_script"] (aq gB):=⟨rfl,rfl,rfl,by decide+kernel,rfl,by decide+kernel,by decide+kernel⟩
theorem zW {a:eK} (T:Txt K mg a):bR P w K mg base dr 2 a.lh a.mK ["_law_script"] (Gu K):=by
 have iI:=pC (P:=P) (w:=w) (base:=base) T
 refine T.BK.ok dY (fun vs H Q E h=>?_) (fun cdv A outer s H vs Q E hr h=>?_)
 ·obtain⟨a,ns,rfl,_⟩:=h
  rfl
 ·obtain⟨sa,ns,rfl,hS,hns,k⟩:=h
  have gT:aX 1 _:=hr
  refine⟨_,(ah (aC (i:=1) dY.nd rfl (Or.inl rfl) (bx ag))
  (ah (bh PassesOwn.never rfl (nu rfl T.cX (ae (df (eB K) (pv 0) dJ (dM ak)) ag)) (dQ rfl (aK (az (i:=2) dY.nd rfl (Or.inr rfl)) (aK (az (i:=3) dY.nd rfl (Or.inl rfl)) bV)))
   (ah (aC (i:=4) dY.nd rfl (Or.inr rfl) (aF ja (aL Bj (by rfl) T.Jy FP (ae (pv 3) ag)) (aF yN ak ak)))
   (ah (bZ (bA sx (pv 4) (aF yN ak ak) (bw _))
    (ah (bI (cE PySem.F.plainAttrs_list PySem.F.slot_list_extend PySem.F.type_list_extend jM (pv 1) (ae (cg (aJ.mk' (esc:=aq gB) (N:=["_law_script","_law_deck_here","_law_k","_law_cell","_law_number","_law_turn"]) (own:=["_law_j"]) (bu:=["_law_number","_law_k"]) (bB:=[4,2]) rfl rfl (by decide+kernel)) rfl (cp rfl T.cw (ae ak ag)) (fun _ _ _ _=>(az (i:=0) (show List.Nodup (["_law_j","_law_number","_law_k"]:List Str) by decide+kernel) rfl (Or.inl rfl))) (fun _ _ _ _=>bM) (fun _ _ _ _=>(aG iI gT rfl T.jX T.jY T.jZ .nil aO (ae (pv 1) (ae (aF cq (aF fc ak (pv 2)) (pv 0)) ag))))) ag)))
    (ax (aC (i:=4) dY.nd rfl (Or.inr rfl) ak)))
    br)
   (ax (bh PassesOwn.never rfl (cp rfl T.cw (ae ak ag)) (az (i:=5) dY.nd rfl (Or.inl rfl))
    (ax (bZ (bA kR (pv 4) ak (bw _))
     (ah (bI (cE PySem.F.plainAttrs_list PySem.F.slot_list_append PySem.F.type_list_append bz (pv 1) (ae (aF ja (pv 4) ak) ag)))
     (ax (aC (i:=4) dY.nd rfl (Or.inr rfl) (aF kW (pv 4) ak))))
     br)))))))
  (ah (bh PassesOwn.never rfl (qK rfl T.cw (ae (aL (aW K) (by rfl) T.cF bP (ae (pv 1) ag)) (ae ak ag))) (az (i:=2) dY.nd rfl (Or.inr rfl))
   (ax (bI (cE PySem.F.plainAttrs_list PySem.F.slot_list_append PySem.F.type_list_append bz (pv 1) (ae (aG iI gT rfl T.jX T.jY T.jZ .nil aO (ae (aL (jR K) (by rfl) T.sO pe (ae (df (eB K) (pv 0) dJ (dM ak)) ag)) (ae (pv 2) ag))) ag)))))
  (ax (aS (df (eB K) (pv 1) dJ (dM ak))))))),?_⟩
  refine⟨by decide,fun d hd=>?_⟩
  have s0:Same H (upd H d (.lst [])):=Same.new hd
  refine⟨_,rfl,_,rfl,sa,ns.map V.int,rfl,s0.seq hS,fun sl hsl=>⟨sl,rfl,⟨_,.of af⟩,?_⟩⟩
  rw[CP ns hns]
  have Gv:d≠sl:=ay af hsl
  have S9:H sl=none:=s0.free hsl
  have s1:Same H (upd (upd H d (.lst [])) sl (.lst (ns.map V.int))):=s0.trans (Same.new hsl)
  refine oz (xs:=ns.map V.int) (fun i σ H'=>∃(ms:List Int) (v2 v3 v4 v5:Option V),σ=[some (.ref sa),some (.ref d),v2,v3,v4,v5]∧Same H H'∧H' sl=some (.lst (ns.map V.int))∧H' d=some (.lst (ms.map V.int))∧ms.length≤67*i∧NN ms)
   ⟨[],none,none,none,none,rfl,s1,af,by rw[ao Gv];exact af,by simp,fun m h=>(nomatch h)⟩ (fun i σ H' _ ⟨_,_,_,_,_,_,_,h,_⟩=>.of h) ?_ ?_
  ·rintro i x pp σ H1 hx ⟨ms,v2,v3,v4,v5,rfl,s1,es1,zX,hl,nn⟩ hpp
   have hi:i<ns.length:=by have:=(List.getElem?_eq_some_iff.mp hx).1;rwa [List.length_map] at this
   obtain⟨c,rfl⟩:∃c:Int,x=V.int c:=by
    rw[List.getElem?_map] at hx
    cases e:ns[i]? with
    | none=>rw[e] at hx;cases hx
    | some z=>rw[e] at hx;exact⟨z,(Option.some.inj hx).symm⟩
   have sp:=Same.new (o:=.tup [.int i,.int c]) hpp
   have PF:d≠pp:=ay zX hpp
   have PH:sl≠pp:=ay es1 hpp
   have hP:∀q:Int,Ff 2147483647 60:=fun _=>⟨by decide,by decide,by decide⟩
   have big:(0:Int)<2147483647 ^ (60:Int).toNat:=by decide+kernel
   refine⟨pp,_,rfl,.of af,rfl,_,_,rfl,_,_,rfl,rfl,?_⟩
   refine⟨_,rfl,c,rfl,_,_,rfl,rfl,hP 0,_,_,rfl,rfl,cpos big,?_⟩
   obtain⟨num,hnum⟩:∃num:Int,num=(if c<0 then-c else c) % 2147483647 ^ (60:Int).toNat:=⟨_,rfl⟩
   have oK:0≤num:=by rw[hnum];exact Int.emod_nonneg _ (Int.ne_of_gt big)
   dsimp only[aH]
   refine Bw (t:=Bc _ _ _) (u:=Fc _ _ _) (fun σ H2=>∃(num:Int) (ms:List Int) (v5:Option V),σ=[some (.ref sa),some (.ref d),some (.int i),some (.int c),some (.int num),v5]∧0≤num∧Same H H2∧H2 sl=some (.lst (ns.map V.int))∧H2 d=some (.lst (ms.map V.int))∧ms.length≤67*i+7∧NN ms) ?_ (fun rest=>?_)
   ·
    rintro σ H2 ⟨num,ms,v5,rfl,oK,s2,es2,lV,hl2,zY⟩
    refine⟨(60:Int),rfl,by decide,by decide,dR (fun j σ H3=>∃(num:Int) (ms:List Int) (v5:Option V),σ=[some (.ref sa),some (.ref d),some (.int i),some (.int c),some (.int num),v5]∧0≤num∧Same H H3∧H3 sl=some (.lst (ns.map V.int))∧H3 d=some (.lst (ms.map V.int))∧ms.length≤67*i+7+j∧NN ms)
     ⟨num,ms,v5,rfl,oK,s2,es2,lV,hl2,zY⟩ ?_ ?_⟩
    ·rintro j σ H3 hj ⟨num,ms,v5,rfl,oK,s3,CQ,zZ,hl3,CS⟩
     have hj':j<60:=hj
     refine⟨_,rfl,_,_,rfl,rfl,_,rfl,?_⟩
     refine cG (fun hpos=>?_) (fun _=>?_)
     ·
      refine⟨_,rfl,.inl ⟨rfl,_,.of zZ⟩,_,rfl,_,_,rfl,rfl,cpos (by decide),d,_,_,rfl,rfl,zZ,?_,?_⟩
      ·rw[List.length_map];exact Nat.lt_of_lt_of_le (show ms.length<10000 by omega) (by decide)
      refine⟨_,rfl,_,_,rfl,rfl,⟨by decide,by decide⟩,num / 2147483647,ms++[num % 2147483647],_,rfl,Int.ediv_nonneg oK (by decide),s3.kbn hd KB.write,?_,?_,?_,CS.app (NN.one (Int.emod_nonneg _ (by decide)))⟩
      ·rw[ao Gv.symm];exact CQ
      ·rw[af,List.map_append];rfl
      ·rw[List.length_append];show ms.length+1≤_;omega
     ·exact⟨num,ms,_,rfl,oK,s3,CQ,zZ,by omega,CS⟩
    ·rintro σ H3 ⟨num,ms,v5,rfl,oK,s3,CQ,zZ,hl3,CS⟩
     have Ta:ms.length≤67*i+7+60:=hl3
     exact⟨ms,_,_,_,_,rfl,s3,CQ,zZ,by omega,CS⟩
   ·refine⟨_,rfl,_,_,rfl,rfl,⟨by decide,by decide,by decide⟩,_,_,rfl,rfl,_,rfl,?_⟩
    have lV:(upd H1 pp (.tup [.int i,.int c])) d=some (.lst (ms.map V.int)):=by rw[ao PF];exact zX
    have es2:(upd H1 pp (.tup [.int i,.int c])) sl=some (.lst (ns.map V.int)):=by rw[ao PH];exact es1
    refine cG (fun _=>?_) (fun _=>?_)
    ·
     refine⟨_,rfl,.inl ⟨rfl,_,.of lV⟩,7,rfl,by decide,by decide,fun C hC=>?_⟩
     have Tv:d≠C:=ay lV hC
     have Tx:sl≠C:=ay es2 hC
     have s2:Same H (upd H1 pp (.tup [.int i,.int c])):=s1.trans sp
     refine fJ (fun j σ H'=>∃(rs:List Int) (v:Option V),σ=[v,some (.int num),some (.int i)]∧Same (upd H1 pp (.tup [.int i,.int c])) H'∧H' C=some (.lst (rs.map V.int))∧rs.length=j∧NN rs)
      ⟨[],none,by rw[hnum];rfl,Same.new hC,af,rfl,fun m h=>(nomatch h)⟩ ?_ ?_
     ·rintro j σ H3 hj ⟨rs,v,rfl,s3,n6,lr,nr⟩
      have hj':j<7:=hj
      refine⟨_,rfl,_,rfl,_,_,rfl,rfl,.inl (by decide),_,rfl,_,_,rfl,rfl,num,_,rfl,rs.map V.int,n6,?_,rs++[kg num (7*(i:Int)+(0+(j:Int)))],_,rfl,s3.kbn hC KB.write,?_,?_,nr.app (NN.one (qw _ _).1)⟩
      ·rw[List.length_map];exact Nat.lt_of_lt_of_le (show rs.length<100 by omega) (by decide)
      ·rw[af,List.map_append];rfl
      ·rw[List.length_append];show rs.length+1=_;omega
     ·rintro σ H3 ⟨rs,v,rfl,s3,n6,lr,nr⟩
      have Tz:rs.length=7:=lr
      refine⟨d,C,ms.map V.int,rs.map V.int,rfl,rfl,s3 _ _ lV,n6,?_,?_⟩
      ·rw[List.length_map,List.length_map];exact Nat.le_trans (show ms.length+rs.length≤10000 by omega) (by decide)
      refine rest _ _ ⟨0,ms++rs,_,rfl,Int.le_refl _,(s2.trans s3).kbn hd KB.write,?_,?_,?_,nn.app nr⟩
      ·rw[ao Gv.symm];exact s3 _ _ es2
      ·rw[af,List.map_append]
      ·rw[List.length_append];omega
    ·exact rest _ _ ⟨num,ms,_,by rw[hnum];rfl,oK,s1.trans sp,es2,lV,by omega,nn⟩
  ·rintro σ H1 ⟨ms,v2,v3,v4,v5,rfl,s1,es1,zX,hl,nn⟩
   rw[List.length_map] at hl
   refine⟨_,rfl,_,ms.length,rfl,.inl ⟨_,.of zX,by rw[List.length_map]⟩,(ms.length:Int),60,rfl,by omega,dR (fun j σ H'=>∃(oa:List Int) (v2 v3 v4 v5:Option V),σ=[some (.ref sa),some (.ref d),v2,v3,v4,v5]∧Same H H'∧H' d=some (.lst (oa.map V.int))∧oa.length=ms.length+j∧NN oa)
    ⟨ms,v2,v3,v4,v5,rfl,s1,zX,rfl,nn⟩ ?_ ?_⟩
   ·rintro j σ H2 hj ⟨oa,v2,v3,v4,v5,rfl,s2,lV,hl2,zY⟩
    refine⟨_,rfl,.inl ⟨rfl,_,.of lV⟩,_,rfl,_,rfl,sa,ns.map V.int,rfl,s2.seq hS,fun z hz=>?_⟩
    have PJ:d≠z:=ay lV hz
    rw[CP ns hns]
    refine⟨z,ns,rfl,.of af,_,rfl,_,_,rfl,d,_,_,rfl,rfl,(by rw[ao PJ];exact lV),?_,?_⟩
    ·rw[List.length_map];exact Nat.lt_of_lt_of_le (show oa.length<10000 by omega) (by decide)
    refine⟨oa++[kg ns.sum ((ms.length:Int)+(j:Int))],_,_,_,_,rfl,(s2.trans (Same.new hz)).kbn hd KB.write,?_,?_,zY.app (NN.one (qw _ _).1)⟩
    ·rw[af,List.map_append];rfl
    ·rw[List.length_append];show oa.length+1=_;omega
   ·rintro σ H2 ⟨oa,v2,v3,v4,v5,rfl,s2,lV,hl2,zY⟩
    refine⟨_,rfl,_,rfl,d,_,rfl,.of lV,fun D hD=>?_⟩
    rw[show(some (900:Int))=some ((900:Nat):Int) from rfl,Ez]
    refine k D _ (s2.free hD) (s2.trans (Same.new hD)) ⟨oa.take 900,af,fun z=>?_,fun m hm=>zY m (List.mem_of_mem_take hm)⟩
    have z':(oa.take 900).length=0:=by rw[z];rfl
    rw[List.length_take] at z'
    omega
def Gw:Sp:=fun vs H Q _=>∃(d:Addr) (m:Int),vs=[.ref d,.int m]∧cT H d∧0<m∧∀(r:Int) (H':Hp),0≤r→r<m→KB d H H'→cT H' d→Q (.int r) H'
theorem z_:aY ["_law_deck_here","_law_many"] ["_law_deck_here","_law_many"] (aq hJ):=⟨rfl,rfl,rfl,by decide+kernel,rfl,by decide+kernel,by decide+kernel⟩
theorem j_ {a:eK} (T:Txt K mg a):bR P w K mg base dr 2 a.lj a.mL ["_law_deck_here","_law_many"] Gw:=by
 have iI:=pC (P:=P) (w:=w) (base:=base) T
 refine T.BO.ok z_ (fun vs H Q E h=>?_) (fun cdv A outer s H vs Q E hr h=>?_)
 ·obtain⟨d,m,rfl,_⟩:=h
  rfl
 ·obtain⟨d,m,rfl,⟨ms,hd,hne,nn⟩,hm,k⟩:=h
  have gT:aX 1 _:=hr
  refine⟨_,(ah (bZ (bA kR (aL (aW K) (by rfl) T.cF bP (ae (pv 0) ag)) ak (bw _))
   (ax (aS (aF ja (cE PySem.F.plainAttrs_list PySem.F.slot_list_pop PySem.F.type_list_pop Bq (pv 0) (ae ak ag)) (pv 1))))
   br)
  (ah (iF (aG iI gT rfl T.jX T.jY T.jZ .nil aO (ae (aE (aM K) (pv 0) ak (fun _ _=>rfl)) (ae ak ag))) (oX (pv 0) ak set_list))
  (ax (aS (aF ja (aG iI gT rfl T.jX T.jY T.jZ .nil aO (ae (aE (aM K) (pv 0) ak (fun _ _=>rfl)) (ae ak ag))) (pv 1)))))),?_⟩
  obtain⟨x,xs,rfl⟩:∃x xs,ms=x::xs:=by cases ms with | nil=>exact absurd rfl hne | cons x xs=>exact⟨x,xs,rfl⟩
  refine⟨_,rfl,_,(x::xs).length,rfl,.inl ⟨_,.of hd,by rw[List.length_map]⟩,_,_,rfl,rfl,_,rfl,?_⟩
  refine cG (fun hl=>?_) (fun _=>?_)
  ·have hl':xs≠[]:=by
    intro z;subst z
    have:=of_decide_eq_true hl
    simp at this
   refine⟨_,rfl,.inl ⟨rfl,_,.of hd⟩,d,_,0,0,V.int x,rfl,rfl,hd,by decide,by decide,?_,rfl,_,rfl,_,_,rfl,rfl,cpos hm,?_⟩
   ·show seqIndex? 0 _=_
    rw[List.length_map]
    exact(p6 (n:=(x::xs).length) (i:=0) (j:=0) (by unfold jL;rw[if_pos (by omega),if_pos (by simp)];rfl)).1
   ·exact k _ _ (Int.emod_nonneg _ (by omega)) (Int.emod_lt_of_pos _ hm) KB.write ⟨xs,by rw[af];rfl,hl',fun z hz=>nn z (List.mem_cons_of_mem _ hz)⟩
  ·refine⟨_,rfl,d,_,0,V.int x,rfl,rfl,.of hd,aD (j:=0) rfl,x,11,rfl,?_⟩
   refine⟨_,rfl,d,_,0,0,rfl,rfl,hd,?_,?_⟩
   ·rw[List.length_map];unfold jL;rw[if_pos (by omega),if_pos (by simp)];rfl
   ·have e1:(upd H d (.lst (((x::xs).map V.int).set 0 (V.int (kg x 11))))) d=some (.lst ((kg x 11::xs).map V.int)):=by rw[af];rfl
    refine⟨_,rfl,d,_,0,V.int (kg x 11),rfl,rfl,.of e1,aD (j:=0) rfl,kg x 11,5,rfl,_,rfl,_,_,rfl,rfl,cpos hm,?_⟩
    exact k _ _ (Int.emod_nonneg _ (by omega)) (Int.emod_lt_of_pos _ hm) KB.write ⟨kg x 11::xs,e1,by simp,fun z hz=>(List.mem_cons.mp hz).elim (fun e=>e▸(qw x 11).1) fun h=>nn z (List.mem_cons_of_mem _ h)⟩
def aj (ds:List Nat):List Int:=ds.map fun(d:Nat)=>(d:Int)
theorem ic (ds:List Nat) (i:Nat):(aj ds)[i]? =ds[i]?.map fun(d:Nat)=>(d:Int):=by simp[aj]
theorem cx {ds:List Nat} {i:Nat} {x:V} (h:((aj ds).map V.int)[i]? =some x):∃n:Nat,x=.int (n:Int)∧ds[i]? =some n:=by
 obtain⟨f,rfl,hf⟩:=Ec h
 rw[ic] at hf
 cases e:ds[i]? with
 | none=>rw[e] at hf;cases hf
 | some n=>rw[e] at hf;exact⟨n,by rw[←Option.some.inj hf],rfl⟩
theorem cV {rs:List Addr} {i:Nat} {x:V} (h:(rs.map V.ref)[i]? =some x):∃r,x=.ref r∧rs[i]? =some r:=by
 rw[List.getElem?_map] at h
 cases e:rs[i]? with
 | none=>rw[e] at h;cases h
 | some r=>rw[e] at h;exact⟨r,(Option.some.inj h).symm,rfl⟩
theorem take_snoc {α:Type} {xs:List α} {i:Nat} {x:α} (h:xs[i]? =some x):xs.take (i+1)=xs.take i++[x]:=by rw[List.take_add_one,h];rfl
theorem aA (ds:List Nat):(aj ds).length=ds.length:=by simp[aj]
theorem bt (xs ys:List Nat):aj (xs++ys)=aj xs++aj ys:=by simp[aj]
structure Moves (n b:Nat) (mv:List (List Nat)):Prop where
 len:mv.length=n
 lead:∀l∈mv,l.length=b∧∀x∈l,x<n
theorem item_at {α:Type} {xs:List α} {i:Nat} (d:α) (h:i<xs.length):xs[i]? =some (xs.getD i d):=by rw[List.getD_eq_getElem?_getD,List.getElem?_eq_getElem h];rfl
theorem dv {ds:List Nat} {i:Nat} (h:i<ds.length):((aj ds).map V.int)[i]? =some (.int (ds.getD i 0:Nat)):=by
 rw[List.getElem?_map,ic,item_at 0 h];rfl
theorem Moves.row {H:Hp} {n b:Nat} {mv:List (List Nat)} {ps:List Addr} (h:Moves n b mv) (tp:bD H ps (mv.map aj)) {r:Nat} (hr:r<n):
  ps[r]? =some (ps.getD r 0)∧H (ps.getD r 0)=some (.tup ((aj (mv.getD r [])).map V.int))∧(mv.getD r []).length=b:=by
 have lp:ps.length=n:=by rw[Paired.length tp,List.length_map,h.len]
 have hp:=item_at 0 (show r<ps.length by omega)
 obtain⟨l',hl',el⟩:=tp.get hp
 have hm:=item_at [] (show r<mv.length by rw[h.len];exact hr)
 rw[List.getElem?_map,hm] at hl'
 have:=Option.some.inj hl'
 subst this
 exact⟨hp,el,(h.lead _ (List.mem_of_getElem? hm)).1⟩
def cy (H:Hp) (ma nm:Addr) (bs:List Bool) (mv:List (List Nat)):Prop:=∃(ya va:Addr) (ps:List Addr),H ma=some (.tup [.ref nm,.ref ya,.ref va])∧H ya=some (.tup (bs.map V.bl))∧H va=some (.tup (ps.map V.ref))∧bD H ps (mv.map aj)
theorem cy.keep {H H':Hp} {ma nm:Addr} {bs:List Bool} {mv:List (List Nat)} (h:cy H ma nm bs mv) (k:cH H H'):cy H' ma nm bs mv:=by
 obtain⟨ya,va,ps,h1,h2,h3,h4⟩:=h
 exact⟨ya,va,ps,k _ _ h1,k _ _ h2,k _ _ h3,h4.keep k⟩
theorem lB {bs:List Bool} {i:Nat} {x:V} (h:(bs.map V.bl)[i]? =some x):∃c,x=.bl c∧bs[i]? =some c:=by
 rw[List.getElem?_map] at h
 obtain⟨c,e,rfl⟩:=Option.map_eq_some_iff.mp h
 exact⟨c,rfl,e⟩
def lift (mv:List (List Nat)) (g:Nat→Nat) (r:Nat):Nat:=((mv.getD r []).map g).sum
def U (mv:List (List Nat)):Nat→(Nat→Nat)→Nat
 | 0,g=>g 0
 | p+1,g=>U mv p (lift mv g)
theorem sum_map_add (g h:Nat→Nat):∀l:List Nat,(l.map fun x=>g x+h x).sum=(l.map g).sum+(l.map h).sum
 | []=>rfl
 | x::l=>by
  have:=sum_map_add g h l
  simp only[List.map_cons,List.sum_cons]
  omega
theorem B_ (mv:List (List Nat)) (g h:Nat→Nat):lift mv (fun r=>g r+h r)=fun r=>lift mv g r+lift mv h r:=funext fun _=>sum_map_add g h _
theorem CT (mv:List (List Nat)):∀(p:Nat) (g h:Nat→Nat),U mv p (fun r=>g r+h r)=U mv p g+U mv p h
 | 0,_,_=>rfl
 | p+1,g,h=>by
  show U mv p (lift mv fun r=>g r+h r)=_
  rw[B_]
  exact CT mv p _ _
theorem sum_map_congr {g h:Nat→Nat}:∀{l:List Nat},(∀x∈l,g x=h x)→(l.map g).sum=(l.map h).sum:=fun e=>by rw[List.map_congr_left e]
theorem wL {n B:Nat} {mv:List (List Nat)} (m:Moves n B mv) (n0:0<n):∀(p:Nat) (g h:Nat→Nat),(∀r,r<n→g r=h r)→U mv p g=U mv p h
 | 0,g,h,e=>e 0 n0
 | p+1,g,h,e=>wL m n0 p _ _ fun r hr=>sum_map_congr fun x hx=>e x ((m.lead _ (List.mem_of_getElem? (item_at [] (by rw[m.len];exact hr)))).2 x hx)
theorem rB (c:Nat):∀l:List Nat,(l.map fun _=>c).sum=c*l.length
 | []=>rfl
 | x::l=>by
  rw[List.map_cons,List.sum_cons,rB c l,List.length_cons,Nat.mul_succ]
  omega
theorem dF:∀(n:Nat) (l:List Nat),l.Nodup→(∀x∈l,x<n)→l.length≤n
 | 0,[],_,_=>Nat.le_refl _
 | 0,x::l,_,h=>absurd (h x List.mem_cons_self) (Nat.not_lt_zero _)
 | n+1,l,nd,h=>by
  by_cases q:n∈l
  ·have h1:=dF n (l.erase n) (nd.erase n) fun x hx=>by
    have h2:=(nd.mem_erase_iff).mp hx
    have:=h x h2.2
    omega
   rw[List.length_erase_of_mem q] at h1
   omega
  ·have:=dF n l nd fun x hx=>by
    have h1:=h x hx
    have h2:x≠n:=fun z=>q (z▸hx)
    omega
   omega
def rn (st:Nat→Nat→Nat):Nat→List Nat→Nat
 | r,[]=>r
 | r,a::w=>rn st (st r a) w
theorem bG (st:Nat→Nat→Nat):∀(u w:List Nat) (r:Nat),rn st r (u++w)=rn st (rn st r u) w
 | [],w,r=>rfl
 | a::u,w,r=>bG st u w (st r a)
def Wd (B:Nat):Nat→List (List Nat)
 | 0=>[[]]
 | p+1=>(List.range B).flatMap fun a=>(Wd B p).map (· ++[a])
def Fw (st:Nat→Nat→Nat) (B:Nat):Nat→(Nat→Bool)→List (List Nat)
 | 0,g=>if g 0=true then [[]] else []
 | p+1,g=>(List.range B).flatMap fun a=>(Fw st B p fun r=>g (st r a)).map (· ++[a])
theorem cA {st:Nat→Nat→Nat} {B:Nat}:∀{p:Nat} {g:Nat→Bool} {w:List Nat},w∈Fw st B p g↔w.length=p∧(∀a∈w,a<B)∧g (rn st 0 w)=true
 | 0,g,w=>by
  unfold Fw
  by_cases h:g 0=true
  ·rw[if_pos h,List.mem_singleton]
   constructor
   ·rintro rfl;exact⟨rfl,by simp,h⟩
   ·intro q;exact List.length_eq_zero_iff.mp q.1
  ·rw[if_neg h]
   constructor
   ·intro q;cases q
   ·rintro⟨q1,_,q3⟩
    rw[List.length_eq_zero_iff.mp q1] at q3
    exact absurd q3 h
 | p+1,g,w=>by
  unfold Fw
  rw[List.mem_flatMap]
  constructor
  ·rintro⟨a,ha,hw⟩
   obtain⟨u,hu,rfl⟩:=List.mem_map.mp hw
   obtain⟨h1,h2,h3⟩:=cA.mp hu
   refine⟨by simp[h1],fun b hb=>?_,by rw[bG];exact h3⟩
   rcases List.mem_append.mp hb with q | q
   ·exact h2 b q
   ·rw[List.mem_singleton.mp q];exact List.mem_range.mp ha
  ·rintro⟨h1,h2,h3⟩
   have hne:w≠[]:=fun z=>by rw[z] at h1;cases h1
   have e:=List.dropLast_concat_getLast hne
   refine⟨w.getLast hne,List.mem_range.mpr (h2 _ (List.getLast_mem hne)),List.mem_map.mpr ⟨w.dropLast,cA.mpr ⟨by rw[List.length_dropLast];omega,fun a ha=>h2 a (List.dropLast_subset _ ha),?_⟩,e⟩⟩
   have h4:=h3
   rw[←e,bG] at h4
   exact h4
theorem ck {α β:Type} {f g:α→List β}:∀{l:List α},(∀a∈l,f a=g a)→l.flatMap f=l.flatMap g
 | [],_=>rfl
 | a::l,h=>by rw[List.flatMap_cons,List.flatMap_cons,h a List.mem_cons_self,ck fun b hb=>h b (List.mem_cons_of_mem _ hb)]
theorem oM {st:Nat→Nat→Nat} {B n:Nat} (hst:∀r a,r<n→a<B→st r a<n) (h0:0<n):∀(p:Nat) (g h:Nat→Bool),(∀r,r<n→g r=h r)→Fw st B p g=Fw st B p h
 | 0,g,h,e=>by unfold Fw;rw[e 0 h0]
 | p+1,g,h,e=>by
  unfold Fw
  refine ck fun a ha=>?_
  rw[oM hst h0 p _ (fun r=>h (st r a)) fun r hr=>e _ (hst r a hr (List.mem_range.mp ha))]
def Tw (st:Nat→Nat→Nat) (B:Nat) (g:Nat→Bool):Nat→List (List Nat)
 | 0=>[]
 | p+1=>(List.range' 1 (B-1)).flatMap fun a=>(Fw st B p fun r=>g (st r a)).map (· ++[a])
def Nw (st:Nat→Nat→Nat) (B:Nat) (g:Nat→Bool):Nat→List (List Nat)
 | 0=>Fw st B 0 g
 | p+1=>Nw st B g p++Tw st B g (p+1)
theorem og {B:Nat} (h:0<B):List.range B=0::List.range' 1 (B-1):=by
 obtain⟨k,rfl⟩:∃k,B=k+1:=⟨B-1,by omega⟩
 rw[List.range_eq_range',List.range'_succ,Nat.add_sub_cancel]
theorem B0 {st:Nat→Nat→Nat} {B:Nat} (hB:0<B) (g:Nat→Bool) (p:Nat):Fw st B (p+1) g=(Fw st B p fun r=>g (st r 0)).map (· ++[0])++Tw st B g (p+1):=by
 show(List.range B).flatMap _=_
 rw[og hB,List.flatMap_cons];rfl
theorem pE {st:Nat→Nat→Nat} {B n:Nat} {g:Nat→Bool} (hst:∀r a,r<n→a<B→st r a<n) (h0:0<n) (hB:0<B) (hg:∀r,r<n→g (st r 0)=g r):∀p,(Nw st B g p).length=(Fw st B p g).length
 | 0=>rfl
 | p+1=>by
  rw[B0 hB]
  show(Nw st B g p++Tw st B g (p+1)).length=_
  rw[List.length_append,List.length_append,List.length_map,pE hst h0 hB hg p,oM hst h0 p _ g hg]
theorem kC {st:Nat→Nat→Nat} {B:Nat} {g:Nat→Bool} {p:Nat} {w:List Nat}:w∈Tw st B g p↔w∈Fw st B p g∧∃u a,w=u++[a]∧0<a:=by
 cases p with
 | zero=>
  constructor
  ·intro h;cases h
  ·rintro⟨h,u,a,rfl,_⟩
   have:=(cA.mp h).1
   simp at this
 | succ p=>
  unfold Tw
  rw[List.mem_flatMap]
  constructor
  ·rintro⟨a,ha,hw⟩
   obtain⟨u,hu,rfl⟩:=List.mem_map.mp hw
   have ha:=List.mem_range'_1.mp ha
   obtain⟨h1,h2,h3⟩:=cA.mp hu
   refine⟨cA.mpr ⟨by simp[h1],fun b hb=>?_,by rw[bG];exact h3⟩,u,a,rfl,by omega⟩
   rcases List.mem_append.mp hb with q | q
   ·exact h2 b q
   ·rw[List.mem_singleton.mp q];omega
  ·rintro⟨h,u,a,rfl,ha⟩
   obtain⟨h1,h2,h3⟩:=cA.mp h
   have hB:=h2 a (by simp)
   refine⟨a,List.mem_range'_1.mpr ⟨by omega,by omega⟩,List.mem_map.mpr ⟨u,cA.mpr ⟨by simp at h1;exact h1,fun b hb=>h2 b (by simp[hb]),?_⟩,rfl⟩⟩
   rw[bG] at h3
   exact h3
theorem uJ {st:Nat→Nat→Nat} {B:Nat} {g:Nat→Bool}:∀{p:Nat} {w:List Nat},w∈Nw st B g p→w.length≤p∧(∀a∈w,a<B)∧g (rn st 0 w)=true∧(w=[]∨∃u a,w=u++[a]∧0<a)
 | 0,w,h=>by
  obtain⟨h1,h2,h3⟩:=cA.mp h
  exact⟨by omega,h2,h3,.inl (List.length_eq_zero_iff.mp h1)⟩
 | p+1,w,h=>by
  rcases List.mem_append.mp h with q | q
  ·obtain⟨h1,h2⟩:=uJ q
   exact⟨by omega,h2⟩
  ·obtain⟨h1,h2⟩:=kC.mp q
   obtain⟨h3,h4,h5⟩:=cA.mp h1
   exact⟨by omega,h4,h5,.inr h2⟩
theorem pF (st:Nat→Nat→Nat) (B:Nat) (g:Nat→Bool) (p:Nat):∀q,∃r,Nw st B g (p+q)=Nw st B g p++r
 | 0=>⟨[],by simp⟩
 | q+1=>by
  obtain⟨r,e⟩:=pF st B g p q
  refine⟨r++Tw st B g (p+q+1),?_⟩
  show Nw st B g (p+q)++Tw st B g (p+q+1)=_
  rw[e,List.append_assoc]
def ahead (st:Nat→Nat→Nat) (B:Nat):(Nat→Bool)→List Nat→Nat→Nat
 | g,[],_=>0
 | g,a::ru,lo=>((List.range' lo (a-lo)).map fun b=>(Fw st B ru.length fun r=>g (st r b)).length).sum+ahead st B (fun r=>g (st r a)) ru 0
theorem gU (st:Nat→Nat→Nat) (B:Nat) (g:Nat→Bool) (a:Nat) (ru:List Nat) (lo:Nat):ahead st B g (a::ru) lo=((List.range' lo (a-lo)).map fun b=>(Fw st B ru.length fun r=>g (st r b)).length).sum+ahead st B (fun r=>g (st r a)) ru 0:=rfl
theorem oN {α:Type} {f:Nat→List α} {a:Nat} {x:α} (hx:∀(b i:Nat),(f b)[i]? =some x→b=a):∀(k lo i:Nat),((List.range' lo k).flatMap f)[i]? =some x→∃j,(f a)[j]? =some x∧i=((List.range' lo (a-lo)).map fun b=>(f b).length).sum+j∧lo≤a∧a<lo+k
 | 0,lo,i,h=>by simp at h
 | k+1,lo,i,h=>by
  rw[List.range'_succ,List.flatMap_cons] at h
  by_cases hi:i<(f lo).length
  ·rw[List.getElem?_append_left hi] at h
   have e:=hx lo i h
   subst e
   exact⟨i,h,by simp,Nat.le_refl _,by omega⟩
  ·rw[List.getElem?_append_right (by omega)] at h
   obtain⟨j,h1,h2,h3,h4⟩:=oN hx k (lo+1) _ h
   refine⟨j,h1,?_,by omega,by omega⟩
   rw[show a-lo=(a-(lo+1))+1 by omega,List.range'_succ,List.map_cons,List.sum_cons]
   omega
theorem rC {st:Nat→Nat→Nat} {B p:Nat} {G:Nat→Nat→Bool} {u:List Nat} {a:Nat}:∀(b i:Nat),((Fw st B p (G b)).map (· ++[b]))[i]? =some (u++[a])→b=a:=fun b i h=>by
 rw[List.getElem?_map] at h
 cases e:(Fw st B p (G b))[i]? with
 | none=>rw[e] at h;cases h
 | some v=>
  rw[e] at h
  have h:v++[b]=u++[a]:=Option.some.inj h
  have:=(List.append_inj' h rfl).2
  simpa using this
theorem Aa {u:List Nat} {a:Nat} {l:List (List Nat)} {j:Nat} (h:(l.map (· ++[a]))[j]? =some (u++[a])):l[j]? =some u:=by
 rw[List.getElem?_map] at h
 cases e:l[j]? with
 | none=>rw[e] at h;cases h
 | some v=>
  rw[e] at h
  have h:v++[a]=u++[a]:=Option.some.inj h
  rw[(List.append_inj' h rfl).1]
theorem CU {st:Nat→Nat→Nat} {B:Nat}:∀(ru:List Nat) (g:Nat→Bool) (i:Nat),(Fw st B ru.length g)[i]? =some ru.reverse→i=ahead st B g ru 0
 | [],g,i,h=>by
  have:i<(Fw st B 0 g).length:=(List.getElem?_eq_some_iff.mp h).1
  have hl:(Fw st B 0 g).length≤1:=by unfold Fw;split<;>simp
  show i=0
  omega
 | a::ru,g,i,h=>by
  rw[List.reverse_cons] at h
  have h:((List.range B).flatMap fun b=>(Fw st B ru.length fun r=>g (st r b)).map (· ++[b]))[i]? =some (ru.reverse++[a]):=h
  rw[List.range_eq_range'] at h
  obtain⟨j,h1,h2,_,_⟩:=oN (f:=fun b=>(Fw st B ru.length fun r=>g (st r b)).map (· ++[b])) (a:=a) (fun b i=>rC (G:=fun b r=>g (st r b)) b i) B 0 i h
  have h3:=CU ru _ j (Aa h1)
  rw[h2,h3,gU]
  simp only[List.length_map]
theorem Jz {st:Nat→Nat→Nat} {B:Nat} {g:Nat→Bool} {a:Nat} {ru:List Nat} {i:Nat} (h:(Tw st B g (ru.length+1))[i]? =some (a::ru).reverse):i=ahead st B g (a::ru) 1:=by
 rw[List.reverse_cons] at h
 have h:((List.range' 1 (B-1)).flatMap fun b=>(Fw st B ru.length fun r=>g (st r b)).map (· ++[b]))[i]? =some (ru.reverse++[a]):=h
 obtain⟨j,h1,h2,_,_⟩:=oN (f:=fun b=>(Fw st B ru.length fun r=>g (st r b)).map (· ++[b])) (a:=a) (fun b i=>rC (G:=fun b r=>g (st r b)) b i) (B-1) 1 i h
 have h3:=CU ru _ j (Aa h1)
 rw[h2,h3,gU]
 simp only[List.length_map]
theorem CV {st:Nat→Nat→Nat} {B:Nat} {g:Nat→Bool}:∀{p k:Nat} {w:List Nat},(Nw st B g p)[k]? =some w→(w=[]∧k=0)∨∃a ru,w=(a::ru).reverse∧k=(Nw st B g ru.length).length+ahead st B g (a::ru) 1
 | 0,k,w,h=>by
  have hw:=(cA.mp (List.mem_of_getElem? h)).1
  have hk:=(List.getElem?_eq_some_iff.mp h).1
  have hl:(Fw st B 0 g).length≤1:=by unfold Fw;split<;>simp
  have hk:k<(Fw st B 0 g).length:=hk
  exact .inl ⟨List.length_eq_zero_iff.mp hw,by omega⟩
 | p+1,k,w,h=>by
  have h:(Nw st B g p++Tw st B g (p+1))[k]? =some w:=h
  by_cases hk:k<(Nw st B g p).length
  ·rw[List.getElem?_append_left hk] at h
   exact CV h
  ·rw[List.getElem?_append_right (by omega)] at h
   have hm:=kC.mp (List.mem_of_getElem? h)
   obtain⟨h1,u,a,rfl,ha⟩:=hm
   have hl:u.length=p:=by have:=(cA.mp h1).1;simp at this;exact this
   have e:u++[a]=(a::u.reverse).reverse:=by simp
   rw[e] at h ⊢
   refine .inr ⟨a,u.reverse,rfl,?_⟩
   have:=Jz (ru:=u.reverse) (a:=a) (by rw[List.length_reverse,hl];exact h)
   rw[List.length_reverse,hl]
   omega
theorem lC {α β γ:Type} (f:α→List β) (h:β→γ):∀l:List α,(l.flatMap f).map h=l.flatMap fun x=>(f x).map h
 | []=>rfl
 | x::l=>by rw[List.flatMap_cons,List.flatMap_cons,List.map_append,lC f h l]
theorem ie {α β γ:Type} (f:α→β) (g:β→List γ):∀l:List α,(l.map f).flatMap g=l.flatMap fun x=>g (f x)
 | []=>rfl
 | x::l=>by rw[List.map_cons,List.flatMap_cons,List.flatMap_cons,ie f g l]
theorem iJ {α β γ:Type} (f:α→List β) (g:β→List γ):∀l:List α,(l.flatMap f).flatMap g=l.flatMap fun x=>(f x).flatMap g
 | []=>rfl
 | x::l=>by rw[List.flatMap_cons,List.flatMap_cons,List.flatMap_append,iJ f g l]
def lower (B:Nat) (l:List (List Nat)):List (List Nat):=l.flatMap fun s=>(List.range B).map (· ::s)
theorem oO (B:Nat):∀p,Wd B (p+1)=lower B (Wd B p)
 | 0=>by
  show(List.range B).flatMap (fun a=>[[]].map (· ++[a]))=([[]]:List (List Nat)).flatMap fun s=>(List.range B).map (· ::s)
  rw[List.flatMap_cons,List.flatMap_nil,List.append_nil]
  generalize List.range B=l
  induction l with
  | nil=>rfl
  | cons a l ih=>rw[List.flatMap_cons,List.map_cons,ih];rfl
 | p+1=>by
  show(List.range B).flatMap (fun a=>(Wd B (p+1)).map (· ++[a]))=lower B ((List.range B).flatMap fun a=>(Wd B p).map (· ++[a]))
  rw[oO B p]
  unfold lower
  rw[iJ]
  refine ck fun a _=>?_
  rw[lC,ie]
  refine ck fun s _=>?_
  rw[List.map_map];rfl
theorem rD {st:Nat→Nat→Nat} {B:Nat}:∀(p:Nat) (g:Nat→Bool),Fw st B p g=(Wd B p).filter fun u=>g (rn st 0 u)
 | 0,g=>by
  show(if g 0=true then [[]] else [])=[[]].filter fun u=>g (rn st 0 u)
  by_cases h:g 0=true
  ·rw[if_pos h,List.filter_cons_of_pos (by exact h)];rfl
  ·rw[if_neg h,List.filter_cons_of_neg (by exact h)];rfl
 | p+1,g=>by
  show(List.range B).flatMap _=((List.range B).flatMap fun a=>(Wd B p).map (· ++[a])).filter _
  rw[List.filter_flatMap]
  refine ck fun a _=>?_
  rw[rD p,List.filter_map]
  congr 1
  refine List.filter_congr fun u _=>?_
  show g (st (rn st 0 u) a)=g (rn st 0 (u++[a]))
  rw[bG];rfl
def Xw (B:Nat):Nat→List (List Nat)
 | 0=>[]
 | p+1=>(List.range' 1 (B-1)).flatMap fun a=>(Wd B p).map (· ++[a])
theorem Ab {st:Nat→Nat→Nat} {B:Nat} (g:Nat→Bool):∀p,Tw st B g p=(Xw B p).filter fun u=>g (rn st 0 u)
 | 0=>rfl
 | p+1=>by
  show(List.range' 1 (B-1)).flatMap _=((List.range' 1 (B-1)).flatMap fun a=>(Wd B p).map (· ++[a])).filter _
  rw[List.filter_flatMap]
  refine ck fun a _=>?_
  rw[rD p,List.filter_map]
  congr 1
  refine List.filter_congr fun u _=>?_
  show g (st (rn st 0 u) a)=g (rn st 0 (u++[a]))
  rw[bG];rfl
theorem B1 (B:Nat) (p:Nat):Xw B (p+2)=lower B (Xw B (p+1)):=by
 show(List.range' 1 (B-1)).flatMap (fun a=>(Wd B (p+1)).map (· ++[a]))=lower B ((List.range' 1 (B-1)).flatMap fun a=>(Wd B p).map (· ++[a]))
 rw[oO B p]
 unfold lower
 rw[iJ]
 refine ck fun a _=>?_
 rw[lC,ie]
 refine ck fun s _=>?_
 rw[List.map_map];rfl
theorem Gx (B:Nat):Xw B 1=(List.range' 1 (B-1)).map fun a=>[a]:=by
 show(List.range' 1 (B-1)).flatMap (fun a=>[[]].map (· ++[a]))=_
 generalize List.range' 1 (B-1)=l
 induction l with
 | nil=>rfl
 | cons a l ih=>rw[List.flatMap_cons,List.map_cons,ih];rfl
theorem uK {B:Nat} {P Q:List Nat→Bool} (l:List (List Nat)) (h:∀s∈l,∀a,a<B→Q (a::s)=true→P s=true):(lower B l).filter Q=(l.filter P).flatMap fun s=>((List.range B).map (· ::s)).filter Q:=by
 unfold lower
 rw[List.filter_flatMap]
 induction l with
 | nil=>rfl
 | cons s l ih=>
  rw[List.flatMap_cons,ih fun s hs=>h s (List.mem_cons_of_mem _ hs)]
  by_cases hp:P s=true
  ·rw[List.filter_cons_of_pos hp,List.flatMap_cons]
  ·rw[List.filter_cons_of_neg hp]
   have:((List.range B).map (· ::s)).filter Q=[]:=by
    rw[List.filter_eq_nil_iff]
    intro x hx q
    obtain⟨a,ha,rfl⟩:=List.mem_map.mp hx
    exact hp (h s List.mem_cons_self a (List.mem_range.mp ha) q)
   rw[this,List.nil_append]
theorem Ac {α β:Type} (f:α→List β):∀(m:Nat) (l:List α),(∀x∈l,f x≠[])→((l.take m).flatMap f).take m=(l.flatMap f).take m
 | 0,l,_=>by simp
 | m+1,[],_=>by simp
 | m+1,x::l,h=>by
  rw[List.take_succ_cons,List.flatMap_cons,List.flatMap_cons]
  obtain⟨y,ys,e⟩:∃y ys,f x=y::ys:=by
   cases q:f x with
   | nil=>exact absurd q (h x List.mem_cons_self)
   | cons y ys=>exact⟨y,ys,rfl⟩
  rw[e,List.cons_append,List.cons_append,List.take_succ_cons,List.take_succ_cons]
  congr 1
  have key:∀(k:Nat) (l:List α) (ys:List β),(∀x∈l,f x≠[])→∀j,j≤k→(ys++(l.take k).flatMap f).take j=(ys++l.flatMap f).take j:=by
   intro k
   induction k with
   | zero=>intro l ys _ j hj;rw[show j=0 by omega];simp
   | succ k ih=>
    intro l ys hl j hj
    cases l with
    | nil=>simp
    | cons z l=>
     rw[List.take_succ_cons,List.flatMap_cons,List.flatMap_cons,←List.append_assoc,←List.append_assoc]
     have hz:=hl z List.mem_cons_self
     cases j with
     | zero=>simp
     | succ j=>
      cases q:ys++f z with
      | nil=>exact absurd (List.append_eq_nil_iff.mp q).2 hz
      | cons w ws=>
       rw[List.cons_append,List.cons_append,List.take_succ_cons,List.take_succ_cons]
       congr 1
       exact ih l ws (fun x hx=>hl x (List.mem_cons_of_mem _ hx)) j (by omega)
  exact key m l ys (fun x hx=>h x (List.mem_cons_of_mem _ hx)) m (Nat.le_refl _)
def Ends (st:Nat→Nat→Nat) (B:Nat) (y:Nat→Bool) (r:Nat):Prop:=∃a,0<a∧a<B∧y (st r a)=true
def Lets (B:Nat) (w:List Nat):Prop:=∀a∈w,a<B
def Lt (st:Nat→Nat→Nat) (B:Nat) (y:Nat→Bool) (r:Nat):Prop:=∃u,Lets B u∧Ends st B y (rn st r u)
def Ly (st:Nat→Nat→Nat) (B:Nat) (y:Nat→Bool):Nat→Nat→Prop
 | 0,r=>r=0∧Lt st B y 0
 | i+1,r=>Lt st B y r∧∃r' a,Ly st B y i r'∧a<B∧st r' a=r
theorem EA {st:Nat→Nat→Nat} {B:Nat} {y:Nat→Bool} {r a:Nat} (ha:a<B) (h:Lt st B y (st r a)):Lt st B y r:=by
 obtain⟨u,h1,h2⟩:=h
 exact⟨a::u,fun b hb=>by rcases List.mem_cons.mp hb with rfl | q;exact ha;exact h1 b q,h2⟩
theorem CW {st:Nat→Nat→Nat} {B:Nat} {y:Nat→Bool}:∀{i r:Nat},Ly st B y i r→Lt st B y r
 | 0,r,h=>by obtain⟨rfl,h⟩:=h;exact h
 | i+1,r,h=>h.1
theorem sQ {st:Nat→Nat→Nat} {B:Nat} {y:Nat→Bool}:∀(ru:List Nat),Lets B ru→Lt st B y (rn st 0 ru.reverse)→Ly st B y ru.length (rn st 0 ru.reverse)
 | [],_,h=>⟨rfl,h⟩
 | a::ru,hl,h=>by
  have ha:=hl a List.mem_cons_self
  rw[List.reverse_cons,bG] at h ⊢
  have h':Lt st B y (st (rn st 0 ru.reverse) a):=h
  exact⟨h',_,a,sQ ru (fun b hb=>hl b (List.mem_cons_of_mem _ hb)) (EA ha h'),ha,rfl⟩
theorem jd {st:Nat→Nat→Nat} {B:Nat} {y:Nat→Bool}:∀{i r:Nat},Ly st B y i r→∃u,u.length=i∧Lets B u∧rn st 0 u=r
 | 0,r,h=>⟨[],rfl,fun a q=>(nomatch q),h.1.symm⟩
 | i+1,r,h=>by
  obtain⟨_,r',a,h1,h2,h3⟩:=h
  obtain⟨u,e1,e2,e3⟩:=jd h1
  refine⟨u++[a],by simp[e1],fun b hb=>?_,by rw[bG,e3];exact h3⟩
  rcases List.mem_append.mp hb with q | q
  ·exact e2 b q
  ·rw[List.mem_singleton.mp q];exact h2
def Kept (st:Nat→Nat→Nat) (B:Nat) (y:Nat→Bool) (l:Nat) (s:List Nat):Prop:=∃r,Ly st B y (l-s.length) r∧y (rn st r s)=true
theorem EB {st:Nat→Nat→Nat} {B:Nat} {y:Nat→Bool} {l a:Nat} {s:List Nat} (hl:s.length+1≤l) (ha:a<B) (hlt:∀r,Ly st B y (l-(s.length+1)) r→y (rn st r (a::s))=true→Lt st B y (st r a)) (h:Kept st B y l (a::s)):Kept st B y l s:=by
 obtain⟨r,h1,h2⟩:=h
 have h1':Ly st B y (l-(s.length+1)) r:=h1
 refine⟨st r a,?_,h2⟩
 rw[show l-s.length=(l-(s.length+1))+1 by omega]
 exact⟨hlt r h1' h2,r,a,h1',ha,rfl⟩
theorem Ad {st:Nat→Nat→Nat} {B:Nat} {y:Nat→Bool} {l:Nat} {s:List Nat} (hl:s.length<l) (h:Kept st B y l s):∃a,a<B∧Kept st B y l (a::s):=by
 obtain⟨r,h1,h2⟩:=h
 rw[show l-s.length=(l-(s.length+1))+1 by omega] at h1
 obtain⟨_,r',a,h3,h4,h5⟩:=h1
 exact⟨a,h4,r',h3,by show y (rn st (st r' a) s)=true;rw[h5];exact h2⟩
theorem mP {st:Nat→Nat→Nat} {B:Nat} {y:Nat→Bool} {r a:Nat} {u:List Nat} (hu:Lets B u) (ha:0<a) (ha2:a<B) (h:y (rn st r (u++[a]))=true):Lt st B y r:=by
 rw[bG] at h
 exact⟨u,hu,a,ha,ha2,h⟩
theorem uL {B:Nat}:∀{p:Nat} {w:List Nat},w∈Wd B p↔w.length=p∧Lets B w
 | 0,w=>by
  show w∈[[]]↔_
  rw[List.mem_singleton]
  constructor
  ·rintro rfl;exact⟨rfl,fun a h=>(nomatch h)⟩
  ·intro h;exact List.length_eq_zero_iff.mp h.1
 | p+1,w=>by
  rw[oO]
  unfold lower
  rw[List.mem_flatMap]
  constructor
  ·rintro⟨s,hs,hw⟩
   obtain⟨a,ha,rfl⟩:=List.mem_map.mp hw
   obtain⟨h1,h2⟩:=uL.mp hs
   refine⟨by simp[h1],fun b hb=>?_⟩
   rcases List.mem_cons.mp hb with rfl | q
   ·exact List.mem_range.mp ha
   ·exact h2 b q
  ·rintro⟨h1,h2⟩
   cases w with
   | nil=>cases h1
   | cons a w=>exact⟨w,uL.mpr ⟨by simpa using h1,fun b hb=>h2 b (List.mem_cons_of_mem _ hb)⟩,List.mem_map.mpr ⟨a,List.mem_range.mpr (h2 a List.mem_cons_self),rfl⟩⟩
theorem jy {B p:Nat} {w:List Nat} (h:w∈Xw B p):w.length=p∧Lets B w∧∃u a,w=u++[a]∧0<a∧a<B∧Lets B u:=by
 cases p with
 | zero=>cases h
 | succ p=>
  obtain⟨a,ha,hw⟩:=List.mem_flatMap.mp h
  obtain⟨u,hu,rfl⟩:=List.mem_map.mp hw
  have ha:=List.mem_range'_1.mp ha
  obtain⟨h1,h2⟩:=uL.mp hu
  refine⟨by simp[h1],fun b hb=>?_,u,a,rfl,by omega,by omega,h2⟩
  rcases List.mem_append.mp hb with q | q
  ·exact h2 b q
  ·rw[List.mem_singleton.mp q];omega
theorem yh {st:Nat→Nat→Nat} {B:Nat} {y:Nat→Bool} {l j m:Nat} {kp:List Nat→Bool} (hk:∀s,kp s=true↔Kept st B y l s) (hj:j+1<l):
  (((((Xw B (j+1)).filter kp).take m).flatMap fun s=>((List.range B).map (· ::s)).filter kp)).take m=((Xw B (j+2)).filter kp).take m:=by
 rw[Ac,B1,uK (P:=kp) (Q:=kp)]
 ·intro s hs a ha q
  obtain⟨h1,h2,u,b,rfl,h3,h4,h5⟩:=jy hs
  refine(hk _).mpr (EB (by omega) ha (fun r hr yy=>?_) ((hk _).mp q))
  exact mP h5 h3 h4 yy
 ·intro s hs
  obtain⟨hs1,hs2⟩:=List.mem_filter.mp hs
  have hl:=(jy hs1).1
  obtain⟨a,ha,ka⟩:=Ad (by omega) ((hk s).mp hs2)
  intro z
  have:a::s∈((List.range B).map (· ::s)).filter kp:=List.mem_filter.mpr ⟨List.mem_map.mpr ⟨a,List.mem_range.mpr ha,rfl⟩,(hk _).mpr ka⟩
  rw[z] at this
  cases this
theorem Ae {st:Nat→Nat→Nat} {B:Nat} {y:Nat→Bool} {l:Nat} {kp:List Nat→Bool} (hk:∀s,kp s=true↔Kept st B y l s) (h0:Lt st B y 0):(Xw B l).filter kp=Tw st B y l:=by
 rw[Ab]
 refine List.filter_congr fun s hs=>?_
 have hl:=(jy hs).1
 rw[Bool.eq_iff_iff,hk]
 unfold Kept
 rw[hl,Nat.sub_self]
 constructor
 ·rintro⟨r,⟨rfl,_⟩,h⟩;exact h
 ·intro h;exact⟨0,⟨rfl,h0⟩,h⟩
theorem B2 {st:Nat→Nat→Nat} {B:Nat} {y:Nat→Bool} {l k:Nat} {w:List Nat} (hw:w∈Tw st B y l) (hk:k<l):∃r,Ly st B y k r:=by
 obtain⟨h1,u,a,rfl,ha⟩:=kC.mp hw
 obtain⟨h2,h3,h4⟩:=cA.mp h1
 have J_:u.length+1=l:=by simpa using h2
 have hu:Lets B u:=fun b hb=>h3 b (List.mem_append_left _ hb)
 have e:u=u.take k++u.drop k:=(List.take_append_drop k u).symm
 have hlt:Lt st B y (rn st 0 (u.take k)):=by
  refine mP (u:=u.drop k) (a:=a) (fun b hb=>hu b (List.mem_of_mem_drop hb)) ha (h3 a (by simp)) ?_
  rw[←bG,←List.append_assoc,List.take_append_drop];exact h4
 have:=sQ (u.take k).reverse (fun b hb=>hu b (List.mem_of_mem_take (List.mem_reverse.mp hb))) (by rw[List.reverse_reverse];exact hlt)
 rw[List.reverse_reverse,List.length_reverse,List.length_take,Nat.min_eq_left (by omega)] at this
 exact⟨_,this⟩
theorem wM {st:Nat→Nat→Nat} {B:Nat} {y:Nat→Bool} {k:Nat} {w:List Nat} (hw:w∈Tw st B y (k+1)):∃r,Ly st B y k r∧Ends st B y r:=by
 obtain⟨h1,u,a,rfl,ha⟩:=kC.mp hw
 obtain⟨h2,h3,h4⟩:=cA.mp h1
 have J_:u.length=k:=by simpa using h2
 have hu:Lets B u:=fun b hb=>h3 b (List.mem_append_left _ hb)
 rw[bG] at h4
 have he:Ends st B y (rn st 0 u):=⟨a,ha,h3 a (by simp),h4⟩
 have:=sQ u.reverse (fun b hb=>hu b (List.mem_reverse.mp hb)) (by rw[List.reverse_reverse];exact⟨[],fun b h=>(nomatch h),he⟩)
 rw[List.reverse_reverse,List.length_reverse,J_] at this
 exact⟨_,this,he⟩
theorem EC {st:Nat→Nat→Nat} {B:Nat} {y:Nat→Bool} {k r:Nat} (h:Ly st B y k r) (he:Ends st B y r):Tw st B y (k+1)≠[]:=by
 obtain⟨u,h1,h2,h3⟩:=jd h
 obtain⟨a,ha,ha2,hy⟩:=he
 intro z
 have:u++[a]∈Tw st B y (k+1):=kC.mpr ⟨cA.mpr ⟨by simp[h1],fun b hb=>by
  rcases List.mem_append.mp hb with q | q
  ·exact h2 b q
  ·rw[List.mem_singleton.mp q];exact ha2,by rw[bG,h3];exact hy⟩,u,a,rfl,ha⟩
 rw[z] at this
 cases this
theorem ED {st:Nat→Nat→Nat} {B:Nat} {y:Nat→Bool} {k:Nat} (h:∀r,¬Ly st B y k r):∀l,k<l→Tw st B y l=[]:=fun l hl=>by
 cases e:Tw st B y l with
 | nil=>rfl
 | cons w ws=>
  obtain⟨r,hr⟩:=B2 (w:=w) (by rw[e];exact List.mem_cons_self) hl
  exact absurd hr (h r)
theorem lD {st:Nat→Nat→Nat} {B:Nat} {y:Nat→Bool} {k:Nat} (h:∀r,¬Ly st B y k r):∀q,Nw st B y (k+q)=Nw st B y k
 | 0=>rfl
 | q+1=>by
  show Nw st B y (k+q)++Tw st B y (k+q+1)=_
  rw[lD h q,ED h _ (by omega),List.append_nil]
theorem CY {st:Nat→Nat→Nat} {B:Nat} {y:Nat→Bool}:∀(c:List Nat) {i r:Nat},Ly st B y i r→Lets B c→Lt st B y (rn st r c)→Ly st B y (i+c.length) (rn st r c)
 | [],i,r,h,_,_=>h
 | a::c,i,r,h,hc,hl=>by
  have ha:=hc a List.mem_cons_self
  have hc':Lets B c:=fun b hb=>hc b (List.mem_cons_of_mem _ hb)
  have hl':Lt st B y (st r a):=by
   obtain⟨u,h1,h2⟩:=hl
   exact⟨c++u,fun b hb=>(List.mem_append.mp hb).elim (hc' b) (h1 b),by rw[bG];exact h2⟩
  have:=CY c (i:=i+1) (r:=st r a) ⟨hl',r,a,h,ha,rfl⟩ hc' hl
  rw[List.length_cons,show i+(c.length+1)=i+1+c.length by omega]
  exact this
theorem wN {st:Nat→Nat→Nat} {B:Nat} {y:Nat→Bool} {k:Nat}:∀q,(∃r,Ly st B y (k+q) r)→∃r,Ly st B y k r
 | 0,h=>h
 | q+1,h=>by
  obtain⟨r,_,r',a,h1,_⟩:=h
  exact wN q ⟨r',h1⟩
theorem twice {n:Nat} {f:Nat→Nat} (h:∀i,i≤n→f i<n):∃i j,i<j∧j≤n∧f i=f j:=by
 apply Classical.byContradiction
 intro hx
 have nd:((List.range (n+1)).map f).Nodup:=by
  rw[List.nodup_iff_pairwise_ne,List.pairwise_map]
  refine List.Pairwise.imp_of_mem (fun {a b} ha hb hab q=>?_) (List.pairwise_lt_range (n:=n+1))
  have:=List.mem_range.mp hb
  exact hx ⟨a,b,hab,by omega,q⟩
 have:=dF n _ nd fun x hx=>by
  obtain⟨i,hi,rfl⟩:=List.mem_map.mp hx
  have:=List.mem_range.mp hi
  exact h i (by omega)
 rw[List.length_map,List.length_range] at this
 omega
theorem j0 {st:Nat→Nat→Nat} {B n:Nat} (hst:∀r a,r<n→a<B→st r a<n):∀(u:List Nat) {r:Nat},r<n→Lets B u→rn st r u<n
 | [],r,h,_=>h
 | a::u,r,h,hu=>j0 hst u (hst r a h (hu a List.mem_cons_self)) fun b hb=>hu b (List.mem_cons_of_mem _ hb)
theorem Gy {st:Nat→Nat→Nat} {B n:Nat} {y:Nat→Bool} (hst:∀r a,r<n→a<B→st r a<n) (h0:0<n) (h:∃r,Ly st B y n r):∀k,∃r,Ly st B y k r:=by
 obtain⟨r,hr⟩:=h
 obtain⟨u,h1,h2,h3⟩:=jd hr
 have hlt:=CW hr
 have sub:∀i,Lets B (u.take i):=fun i b hb=>h2 b (List.mem_of_mem_take hb)
 obtain⟨i,j,hij,hjn,e⟩:=twice (n:=n) (f:=fun i=>rn st 0 (u.take i)) fun i _=>j0 hst _ h0 (sub i)
 have J0:∀i,Lt st B y (rn st 0 (u.take i)):=fun i=>by
  obtain⟨v,a1,a2⟩:=hlt
  refine⟨u.drop i++v,fun b hb=>(List.mem_append.mp hb).elim (fun q=>h2 b (List.mem_of_mem_drop q)) (a1 b),?_⟩
  rw[bG,←bG st (u.take i),List.take_append_drop,h3];exact a2
 have Li:Ly st B y i (rn st 0 (u.take i)):=by
  have:=sQ (u.take i).reverse (fun b hb=>sub i b (List.mem_reverse.mp hb)) (by rw[List.reverse_reverse];exact J0 i)
  rw[List.reverse_reverse,List.length_reverse,List.length_take,Nat.min_eq_left (by omega)] at this
  exact this
 have ec:u.take j=u.take i++(u.drop i).take (j-i):=by
  rw[←List.take_add,show i+(j-i)=j by omega]
 have hc:rn st (rn st 0 (u.take i)) ((u.drop i).take (j-i))=rn st 0 (u.take i):=by rw[←bG,←ec,←e]
 have lc:((u.drop i).take (j-i)).length=j-i:=by rw[List.length_take,List.length_drop];omega
 have hcl:Lets B ((u.drop i).take (j-i)):=fun b hb=>h2 b (List.mem_of_mem_drop (List.mem_of_mem_take hb))
 have turn:∀t,Ly st B y (i+t*(j-i)) (rn st 0 (u.take i)):=fun t=>by
  induction t with
  | zero=>rw[Nat.zero_mul];exact Li
  | succ t ih=>
   have:=CY _ ih hcl (by rw[hc];exact J0 i)
   rw[hc,lc] at this
   rw[Nat.succ_mul,←Nat.add_assoc]
   exact this
 intro k
 have hk:k≤i+k*(j-i):=by
  have:k*1≤k*(j-i):=Nat.mul_le_mul_left k (by omega)
  omega
 exact wN (i+k*(j-i)-k) ⟨_,by rw[show k+(i+k*(j-i)-k)=i+k*(j-i) by omega];exact turn k⟩
theorem Gz {st:Nat→Nat→Nat} {B n:Nat} {y:Nat→Bool} (hst:∀r a,r<n→a<B→st r a<n) (h0:0<n) {k:Nat} (h:∀r,¬Ly st B y k r):∀r,¬Ly st B y n r:=fun r hr=>by
 obtain⟨r',hr'⟩:=Gy hst h0 ⟨r,hr⟩ k
 exact h r' hr'
theorem wO {n j:Nat} (h:j<n):jL n (j:Int)=some j:=by
 unfold jL
 rw[if_pos (by omega),if_pos (by omega)]
 simp
def Wf (g:Nat→Nat):List Nat→Nat→Nat
 | [],_=>0
 | c::cs,k=>c*g k+Wf g cs (k+1)
theorem Af (g:Nat→Nat) (c:Nat):∀(cs:List Nat) (t k:Nat),t<cs.length→Wf g (cs.set t (cs.getD t 0+c)) k=Wf g cs k+c*g (k+t)
 | [],t,k,h=>absurd h (Nat.not_lt_zero _)
 | x::cs,0,k,_=>by
  show(x+c)*g k+Wf g cs (k+1)=x*g k+Wf g cs (k+1)+c*g k
  rw[Nat.add_mul];omega
 | x::cs,t+1,k,h=>by
  have h':t<cs.length:=Nat.lt_of_succ_lt_succ h
  show x*g k+Wf g (cs.set t (cs.getD t 0+c)) (k+1)=x*g k+Wf g cs (k+1)+c*g (k+(t+1))
  rw[Af g c cs t (k+1) h',show k+1+t=k+(t+1) by omega];omega
theorem wQ (g:Nat→Nat) (c:Nat):∀(cs:List Nat) (k:Nat),Wf g (cs++[c]) k=Wf g cs k+c*g (k+cs.length)
 | [],k=>by simp[Wf]
 | x::cs,k=>by
  show x*g k+Wf g (cs++[c]) (k+1)=x*g k+Wf g cs (k+1)+c*g (k+(cs.length+1))
  rw[wQ g c cs (k+1),show k+1+cs.length=k+(cs.length+1) by omega];omega
theorem ig {cs:List Nat} {i c:Nat} (g:Nat→Nat) (h:cs[i]? =some c):Wf g (cs.take (i+1)) 0=Wf g (cs.take i) 0+c*g i:=by
 have hi:=(List.getElem?_eq_some_iff.mp h).1
 rw[take_snoc h,wQ,List.length_take,Nat.min_eq_left (by omega),Nat.zero_add]
theorem qx (g:Nat→Nat):∀n k,Wf g (List.replicate n 0) k=0
 | 0,_=>rfl
 | n+1,k=>by rw[List.replicate_succ];show 0*g k+Wf g (List.replicate n 0) (k+1)=0;rw[qx g n];omega
theorem CZ (m:Nat):(List.replicate m ([.int 0]:List V)).flatten=(aj (List.replicate m 0)).map V.int:=by
 induction m with
 | zero=>rfl
 | succ m ih=>rw[List.replicate_succ,List.flatten_cons,ih,List.replicate_succ];rfl
theorem Ag (cs:List Nat) (t c:Nat):((aj cs).map V.int).set t (.int (c:Nat))=(aj (cs.set t c)).map V.int:=by
 unfold aj
 rw[List.map_map,List.map_map,List.map_set]
 rfl
def jz (H:Hp) (mv:List (List Nat)) (n:Nat) (rs:List Addr):Prop:=∀(i:Nat) (r:Addr),rs[i]? =some r→∃cs:List Nat,H r=some (.lst ((aj cs).map V.int))∧cs.length=n∧∀g,Wf g cs 0=U mv i g
theorem jz.keep {H H':Hp} {mv:List (List Nat)} {n:Nat} {rs:List Addr} (h:jz H mv n rs) (s:Same H H'):jz H' mv n rs:=fun i r e=>by
 obtain⟨cs,a1,a2⟩:=h i r e
 exact⟨cs,s _ _ a1,a2⟩
def B3 (K:PySem.W.Frag):Sp:=fun vs H Q _=>∃(p B:Nat) (ma nm:Addr) (bs:List Bool) (mv:List (List Nat)),vs=[.ref ma,.int p]∧cy H ma nm bs mv∧Moves bs.length B mv∧0<bs.length∧bs.length≤100∧p≤20000∧
 ∀(C:Addr) (rs:List Addr) (H':Hp),Same H H'→H' C=some (.lst (rs.map V.ref))→rs.length=p+1→jz H' mv bs.length rs→Q (.ref C) H'
theorem cI:aY ["_law_machine_here","_law_places","_law_names","_law_yes","_law_moves","_law_counts_here","_law_place","_law_more","_law_room","_law_goes","_law_goal"] ["_law_machine_here","_law_places"] (aq fK):=⟨rfl,rfl,rfl,by decide+kernel,rfl,by decide+kernel,by decide+kernel⟩
theorem vQ {a:eK} (T:Txt K mg a):bR P w K mg base dr 1 a.i8 a.kf ["_law_machine_here","_law_places"] (B3 K):=by
 refine T.yb.ok cI (fun vs H Q E h=>?_) (fun cdv A outer s H vs Q E hr h=>?_)
 ·obtain⟨p,B,ma,nm,bs,mv,rfl,_⟩:=h
  rfl
 ·obtain⟨p,B,ma,nm,bs,mv,rfl,hma,dZ,h0,h1,hp,k⟩:=h
  refine⟨_,(ah (iF (pv 0) (dQ rfl (aK (az (i:=2) cI.nd rfl (Or.inl rfl)) (aK (az (i:=3) cI.nd rfl (Or.inl rfl)) (aK (az (i:=4) cI.nd rfl (Or.inl rfl)) bV)))))
  (ah (aC (i:=5) cI.nd rfl (Or.inl rfl) (bx (ae (aF y1 (bx (ae ak ag)) (aF tT (bx (ae ak ag)) (aF gH (aL (aW K) (by rfl) T.cF bP (ae (pv 4) ag)) ak))) ag)))
  (ah (bh PassesOwn.never rfl (cp rfl T.cw (ae (pv 1) ag)) (az (i:=6) cI.nd rfl (Or.inl rfl))
   (ah (aC (i:=7) cI.nd rfl (Or.inl rfl) (aF tT (bx (ae ak ag)) (aL (aW K) (by rfl) T.cF bP (ae (pv 4) ag))))
   (ah (bh PassesOwn.never rfl (jq rfl T.cX (ae (pv 4) ag)) (dQ rfl (aK (az (i:=8) cI.nd rfl (Or.inl rfl)) (aK (az (i:=9) cI.nd rfl (Or.inl rfl)) bV)))
    (ax (bh PassesOwn.never rfl (f_ (pv 9)) (az (i:=10) cI.nd rfl (Or.inl rfl))
     (ax (iF (aF cq (aE (aM K) (pv 7) (pv 10) (fun _ _=>rfl)) (aE (aM K) (aE (aM K) (pv 5) (pv 6) (fun _ _=>rfl)) (pv 8) (fun _ _=>rfl))) (oX (pv 7) (pv 10) set_list))))))
   (ax (bI (cE PySem.F.plainAttrs_list PySem.F.slot_list_append PySem.F.type_list_append bz (pv 5) (ae (pv 7) ag)))))))
  (ax (aS (pv 5)))))),?_⟩
  obtain⟨ya,va,ps,e1,e2,e3,tp⟩:=hma
  have big:(1000000:Nat)≤sizeLine:=by decide
  have lps:ps.length=bs.length:=by rw[Paired.length tp,List.length_map,dZ.len]
  refine⟨_,rfl,ma,_,rfl,.of e1,rfl,_,_,rfl,_,_,rfl,_,_,rfl,rfl,?_⟩
  dsimp only[aH]
  refine⟨by decide,fun X1 PL=>⟨by decide,fun X2 hX2=>?_⟩⟩
  have PN:=Same.new (o:=.lst [.int 1]) PL
  have J4:=Same.new (o:=.lst [.int 0]) hX2
  have sX:=PN.trans J4
  refine⟨_,rfl,_,bs.length,rfl,.inr ⟨_,.of (sX _ _ e3),by rw[List.length_map,lps]⟩,_,_,rfl,rfl,X2,_,_,rfl,rfl,af,by omega,by omega,?rz,fun X3 PQ=>?_⟩
  case rz=>show 1*((bs.length:Int)-1).toNat≤_;omega
  rw[CZ,show((bs.length:Int)-1).toNat=bs.length-1 by omega]
  have GA:=Same.new (o:=.lst ((aj (List.replicate (bs.length-1) 0)).map V.int)) PQ
  refine⟨X1,X3,_,_,rfl,rfl,GA _ _ (J4 _ _ af),af,?cz,fun X4 PR=>?_⟩
  case cz=>rw[List.length_map,aA,List.length_replicate];show 1+_≤_;omega
  have J5:=Same.new (o:=.lst ([.int 1]++(aj (List.replicate (bs.length-1) 0)).map V.int)) PR
  refine⟨by show 1≤sizeLine;decide,fun C hC=>?_⟩
  have sC:=Same.new (o:=.lst [.ref X4]) hC
  have Mb:=((sX.trans GA).trans J5).trans sC
  have PU:=((sX.trans GA).trans J5).free hC
  have x4:=sC _ _ (show(upd _ X4 (.lst ([.int 1]++(aj (List.replicate (bs.length-1) 0)).map V.int))) X4=_ from af)
  dsimp only[aH]
  refine⟨_,rfl,_,rfl,by omega,by omega,dR (n:=(p:Int).toNat) (fun i σ H'=>∃(rs:List Addr) (v6 v7 v8 v9 v10:Option V),σ=[some (.ref ma),some (.int (p:Nat)),some (.ref nm),some (.ref ya),some (.ref va),some (.ref C),v6,v7,v8,v9,v10]∧Same H H'∧H' C=some (.lst (rs.map V.ref))∧rs.length=i+1∧jz H' mv bs.length rs∧(∀r∈rs,r≠C))
   ⟨[X4],none,none,none,none,none,rfl,Mb,af,rfl,fun i r e=>?r0,fun r hr=>?ne⟩ ?_ ?_⟩
  case ne=>
   rw[List.mem_singleton.mp hr]
   exact ay (show(upd _ X4 (.lst ([.int 1]++(aj (List.replicate (bs.length-1) 0)).map V.int))) X4=_ from af) hC
  case r0=>
   cases i with
   | succ i=>simp at e
   | zero=>
    cases e
    refine⟨1::List.replicate (bs.length-1) 0,x4,?_,fun g=>?_⟩
    ·rw[List.length_cons,List.length_replicate];omega
    ·show 1*g 0+Wf g (List.replicate (bs.length-1) 0) 1=g 0;rw[qx];omega
  ·rintro i σ H1 hi ⟨rs,v6,v7,v8,v9,v10,rfl,s1,c1,lr,Ah,ne1⟩
   rw[Int.toNat_natCast] at hi
   obtain⟨r,er⟩:∃r,rs[i]? =some r:=⟨_,List.getElem?_eq_getElem (by omega)⟩
   obtain⟨cs,r1,lc,hW⟩:=Ah i r er
   refine⟨by decide,fun Z hZ=>?_⟩
   have sZ:=Same.new (o:=.lst [.int 0]) hZ
   refine⟨_,rfl,_,bs.length,rfl,.inr ⟨_,.of (sZ _ _ (s1 _ _ e3)),by rw[List.length_map,lps]⟩,Z,_,_,rfl,rfl,af,by omega,by omega,?PV,fun M hM=>?_⟩
   case PV=>show 1*(bs.length:Int).toNat≤_;omega
   rw[CZ,Int.toNat_natCast]
   have sM:=Same.new (o:=.lst ((aj (List.replicate bs.length 0)).map V.int)) hM
   have s2:=(s1.trans sZ).trans sM
   have GB:=(s1.trans sZ).free hM
   have c2:=sM _ _ (sZ _ _ c1)
   have r2:=sM _ _ (sZ _ _ r1)
   have J6:=(Ah.keep sZ).keep sM
   have GC:C≠M:=ay (sZ _ _ c1) hM
   have PX:r≠M:=ay (sZ _ _ r1) hM
   have m2:(upd (upd H1 Z (.lst [.int 0])) M (.lst ((aj (List.replicate bs.length 0)).map V.int))) M=_:=af
   generalize upd (upd H1 Z (.lst [.int 0])) M (.lst ((aj (List.replicate bs.length 0)).map V.int))=H2 at s2 c2 r2 J6 m2 ⊢
   dsimp only[aH]
   refine⟨_,rfl,va,rfl,⟨_,.of (s2 _ _ e3)⟩,jU (xs:=ps.map V.ref) (fun j σ H'=>∃(ms:List Nat) (v8 v9 v10:Option V),σ=[some (.ref ma),some (.int (p:Nat)),some (.ref nm),some (.ref ya),some (.ref va),some (.ref C),some (.int (0+(i:Int))),some (.ref M),v8,v9,v10]∧KB M H2 H'∧Same H H'∧H' C=some (.lst (rs.map V.ref))∧H' r=some (.lst ((aj cs).map V.int))∧H' M=some (.lst ((aj ms).map V.int))∧ms.length=bs.length∧∀g,Wf g ms 0=Wf (lift mv g) (cs.take j) 0)
    ⟨List.replicate bs.length 0,v8,v9,v10,rfl,KB.refl _ _,s2,c2,r2,m2,List.length_replicate,fun g=>(by rw[qx];rfl)⟩ (fun j σ H' _ ⟨_,_,_,_,_,_,s',_⟩=>.of (s' _ _ e3)) ?_ ?_⟩
   ·rintro j x q σ H3 hx ⟨ms,v8,v9,v10,rfl,kb3,s3,c3,r3,m3,lm,hm⟩ hq
    obtain⟨pa,rfl,GD⟩:=cV hx
    have hj:j<bs.length:=by rw[←lps];exact(List.getElem?_eq_some_iff.mp GD).1
    have sq:=Same.new (o:=.tup [.int (j:Nat),.ref pa]) hq
    have s4:=s3.trans sq
    obtain⟨w1,w2,w3⟩:=dZ.row (tp.keep s4.kt) hj
    have Mc:ps.getD j 0=pa:=by rw[w1] at GD;exact Option.some.inj GD
    rw[Mc] at w2
    obtain⟨c,ec⟩:∃c,cs[j]? =some c:=⟨_,List.getElem?_eq_getElem (by omega)⟩
    have c4:=sq _ _ c3
    have r4:=sq _ _ r3
    have m4:=sq _ _ m3
    refine⟨q,_,rfl,.of af,rfl,_,_,rfl,_,_,rfl,rfl,?_⟩
    dsimp only[aH]
    refine⟨_,rfl,pa,rfl,⟨_,.of w2⟩,ko (xs:=(aj (mv.getD j [])).map V.int) (fun l σ H'=>∃(ms:List Nat) (v10:Option V),σ=[some (.ref ma),some (.int (p:Nat)),some (.ref nm),some (.ref ya),some (.ref va),some (.ref C),some (.int (0+(i:Int))),some (.ref M),some (.int (j:Nat)),some (.ref pa),v10]∧KB M H2 H'∧Same H H'∧H' C=some (.lst (rs.map V.ref))∧H' r=some (.lst ((aj cs).map V.int))∧H' M=some (.lst ((aj ms).map V.int))∧H' pa=some (.tup ((aj (mv.getD j [])).map V.int))∧ms.length=bs.length∧∀g,Wf g ms 0=Wf (lift mv g) (cs.take j) 0+c*(((mv.getD j []).take l).map g).sum)
     ⟨ms,v10,rfl,kb3.trans sq.kb,s4,c4,r4,m4,w2,lm,fun g=>(by rw[hm g];simp)⟩ (fun l σ H' _ ⟨_,_,_,_,_,_,_,_,h,_⟩=>.of h) ?_ ?_⟩
    ·rintro l x σ H4 hx ⟨ms,v10,rfl,GF,s5,c5,r5,m5,p5,lm,hm⟩
     obtain⟨t,rfl,et⟩:=cx hx
     have ht:t<bs.length:=(dZ.lead _ (List.mem_of_getElem? (item_at [] (show j<mv.length by rw[dZ.len];exact hj)))).2 t (List.mem_of_getElem? et)
     refine⟨_,rfl,_,rfl,M,_,_,_,rfl,rfl,.of m5,aD (dv (by omega)),_,rfl,_,rfl,C,_,_,.ref r,rfl,rfl,.of c5,?ai,_,rfl,r,_,_,.int (c:Nat),rfl,rfl,.of r5,aD (by rw[List.getElem?_map,ic,ec];rfl),_,_,rfl,rfl,_,rfl,_,rfl,M,_,_,t,rfl,rfl,m5,wO (by rw[List.length_map,aA];omega),?_⟩
     case ai=>
      rw[show(0:Int)+(i:Int)=(i:Int) by omega]
      exact aD (by rw[List.getElem?_map,er];rfl)
     have ee:((ms.getD t 0:Nat):Int)+(c:Int)=((ms.getD t 0+c:Nat):Int):=by omega
     refine⟨ms.set t (ms.getD t 0+c),some (.int (t:Int)),rfl,GF.trans KB.write,s5.kbn GB KB.write,by rw[ao GC];exact c5,by rw[ao PX];exact r5,?_,?_,by rw[List.length_set];exact lm,fun g=>?_⟩
     ·rw[af]
      show some (HO.lst (((aj ms).map V.int).set t (.int (((ms.getD t 0:Nat):Int)+(c:Int)))))=_
      rw[ee,Ag]
     ·rw[ao (bF p5 m5 (fun z=>nomatch z))];exact p5
     ·rw[Af g c ms t 0 (by omega),hm g,Nat.zero_add,take_snoc et,List.map_append,List.sum_append]
      simp only[List.map_cons,List.map_nil,List.sum_cons,List.sum_nil,Nat.add_zero]
      rw[Nat.mul_add];omega
    ·rintro σ H4 ⟨ms,v10,rfl,GF,s5,c5,r5,m5,p5,lm,hm⟩
     refine⟨ms,_,_,_,rfl,GF,s5,c5,r5,m5,lm,fun g=>?_⟩
     rw[ig _ ec,hm g,List.length_map,aA,List.take_length]
     rfl
   ·rintro σ H3 ⟨ms,v8,v9,v10,rfl,kb3,s3,c3,r3,m3,lm,hm⟩
    refine⟨_,rfl,.inl ⟨rfl,_,.of c3⟩,_,rfl,C,_,_,rfl,rfl,c3,?_,rs++[M],_,_,_,_,_,rfl,s3.kbn PU KB.write,?_,by rw[List.length_append,lr];rfl,fun l x ex=>?_,fun x hx=>?_⟩
    ·rw[List.length_map];omega
    ·rw[af,List.map_append];rfl
    ·by_cases z:l<rs.length
     ·rw[List.getElem?_append_left z] at ex
      obtain⟨cs',a1,a2,a3⟩:=J6 l x ex
      have PY:x≠M:=fun q=>by
       obtain⟨TB,b1,_⟩:=Ah l x ex
       have:=sZ _ _ b1
       rw[q,hM] at this;cases this
      refine⟨cs',?_,a2,a3⟩
      rw[ao (ne1 x (List.mem_of_getElem? ex))]
      exact kb3 _ _ a1 PY
     ·have hl:l=i+1:=by
       have:=(List.getElem?_eq_some_iff.mp ex).1
       rw[List.length_append,List.length_singleton] at this
       omega
      subst hl
      rw[List.getElem?_append_right (by omega),lr,Nat.sub_self] at ex
      cases ex
      refine⟨ms,by rw[ao GC.symm];exact m3,lm,fun g=>?_⟩
      rw[hm g,List.length_map,lps,←lc,List.take_length,hW]
      rfl
    ·rcases List.mem_append.mp hx with z | z
     ·exact ne1 x z
     ·rw[List.mem_singleton.mp z];exact GC.symm
  ·rintro σ H1 ⟨rs,v6,v7,v8,v9,v10,rfl,s1,c1,lr,Ah,ne1⟩
   rw[Int.toNat_natCast] at lr
   exact⟨_,rfl,k C rs H1 s1 c1 lr Ah⟩
theorem _root_.L2.cT.ne {H:Hp} {d N:Addr} (h:cT H d) (e:H N=none):N≠d:=by
 obtain⟨ms,a,_⟩:=h
 exact(ay a e).symm
theorem _root_.L2.cT.lo {H H':Hp} {d N:Addr} (h:cT H' d) (k:KB d H H') (e:H' N=none):H N=none:=by
 have n1:=h.ne e
 cases z:H N with
 | none=>rfl
 | some o=>have:=k N o z n1;rw[e] at this;cases this
theorem _root_.L2.cT.upd {H:Hp} {d N:Addr} {o:HO} (h:cT H d) (n:N≠d):cT (upd H N o) d:=by
 obtain⟨ms,a,c⟩:=h
 exact⟨ms,by rw[ao n.symm];exact a,c⟩
theorem _root_.L2.cT.ktu {H H':Hp} {d:Addr} (h:cT H d) (k:KB d H H'):cH H H':=by
 obtain⟨ms,a,_⟩:=h
 exact cH.kb a k
theorem KB.mQ {H H':Hp} {d N:Addr} {o:HO} (k:KB d H H') (e:H N=none):KB d H (upd H' N o):=fun b p h n=>by
 rw[ao (ay h e)]
 exact k b p h n
theorem GG {T:(Bool→Hp→Prop)→Prop} {Qf:Bool→Hp→Prop} (S:Hp→Prop) (h:∀Qc:Bool→Hp→Prop,(∀c H',S H'→Qc c H')→T Qc) (x:∀c H',S H'→Qf c H'):T Qf:=h Qf x
theorem EE (l:List Str):(l.map V.str).all gJ=true:=by rw[List.all_map];exact List.all_eq_true.mpr fun _ _=>rfl
def lE:Str:="abcdefghijklmnopqrstuvwxyz"
theorem uM:lE.length≤sizeLine:=by
 have:lE.length=26:=by decide+kernel
 rw[this];decide
theorem Ai {r:Int} (h0:0≤r) (h1:r<26):∃c,iX lE.cps.toList r=some c:=by
 obtain⟨n,rfl⟩:∃n:Nat,r=(n:Int):=⟨r.toNat,by omega⟩
 have:lE.cps.toList.length=26:=by decide+kernel
 exact⟨_,aD (List.getElem?_eq_getElem (by omega))⟩
def B4:Sp:=fun vs H Q _=>∃(d:Addr) (m:Nat),vs=[.ref d,.int m]∧cT H d∧m≤6∧
 ∀(N:Addr) (ss:List Str) (H':Hp),H N=none→KB d H H'→cT H' d→H' N=some (.lst (ss.map V.str))→ss.length=m→Q (.ref N) H'
theorem bS:aY ["_law_deck_here","_law_many","_law_letters_here","_law_names","_law_k","_law_name","_law_turn"] ["_law_deck_here","_law_many"] (aq bY):=⟨rfl,rfl,rfl,by decide+kernel,rfl,by decide+kernel,by decide+kernel⟩
theorem mR {a:eK} (T:Txt K mg a):bR P w K mg base dr 3 a.eM a.fB ["_law_deck_here","_law_many"] B4:=by
 have bT:=j_ (P:=P) (w:=w) (base:=base) T
 refine T.nJ.ok bS (fun vs H Q E h=>?_) (fun cdv A outer s H vs Q E hr h=>?_)
 ·obtain⟨d,m,rfl,_⟩:=h
  rfl
 ·obtain⟨d,m,rfl,hd,hm,k⟩:=h
  have bH:aX 2 _:=hr
  refine⟨_,(ah (aC (i:=2) bS.nd rfl (Or.inr rfl) iD)
  (ah (aC (i:=3) bS.nd rfl (Or.inl rfl) (bx ag))
  (ah (bh PassesOwn.never rfl (cp rfl T.cw (ae (pv 1) ag)) (az (i:=4) bS.nd rfl (Or.inl rfl))
   (ah (aC (i:=5) bS.nd rfl (Or.inl rfl) (cE PySem.F.plainAttrs_str PySem.F.slot_str_join PySem.F.type_str_join (BA K) iD (ae (cg (aJ.mk' (esc:=aq bY) (N:=["_law_deck_here","_law_many","_law_letters_here","_law_names","_law_k","_law_name","_law_turn"]) (own:=["_law_j"]) (bu:=["_law_letters_here","_law_deck_here"]) (bB:=[2,0]) rfl rfl (by decide+kernel)) rfl (cp rfl T.cw (ae (aF cq ak (aG bT bH rfl T.cJ T.cK T.cL .nil aO (ae (pv 0) (ae ak ag)))) ag)) (fun _ _ _ _=>(az (i:=0) (show List.Nodup (["_law_j","_law_letters_here","_law_deck_here"]:List Str) by decide+kernel) rfl (Or.inl rfl))) (fun _ _ _ _=>bM) (fun _ _ _ _=>(aE yV (pv 1) (aG bT bH rfl T.cJ T.cK T.cL .nil aO (ae (pv 2) (ae ak ag))) (fun _ _=>rfl)))) ag)))
   (ah (bh PassesOwn.never rfl (cp rfl T.cw (ae ak ag)) (az (i:=6) bS.nd rfl (Or.inl rfl))
    (ax (bZ (PW.pt (nh (bA (zg K) (pv 5) (pv 3) (by with_unfolding_all rfl)) (mr (bA (zg K) (pv 5) (bx (ae iD (ae iD (ae iD (ae iD (ae iD ag)))))) (by with_unfolding_all rfl)))))
     (ax (aC (i:=5) bS.nd rfl (Or.inl rfl) (aF xu (df FY (pv 5) dJ (dM ak)) (aE yV (pv 2) (aF ja (pv 6) ak) (fun _ _=>rfl)))))
     br)))
   (ax (bI (cE PySem.F.plainAttrs_list PySem.F.slot_list_append PySem.F.type_list_append bz (pv 3) (ae (pv 5) ag)))))))
  (ax (aS (aL (vG K) (by rfl) T.uI qW (ae (pv 3) ag))))))),?_⟩
  have big:(10000:Nat)≤sizeLine:=by decide
  dsimp only[tJ,ou,tC,aH]
  refine⟨by decide,fun N hN=>?_⟩
  have nN:=hd.ne hN
  refine⟨_,rfl,_,rfl,by omega,by omega,dR (n:=(m:Int).toNat) (fun i σ H'=>∃(ss:List Str) (v4 v5 v6:Option V),σ=[some (.ref d),some (.int (m:Nat)),some (.str lE),some (.ref N),v4,v5,v6]∧KB d H H'∧cT H' d∧H' N=some (.lst (ss.map V.str))∧ss.length=i)
   ⟨[],none,none,none,rfl,(Same.new hN).kb,hd.same (Same.new hN),af,rfl⟩ ?_ ?_⟩
  ·rintro i σ H1 hi ⟨ss,v4,v5,v6,rfl,k1,d1,n1,ls⟩
   rw[Int.toNat_natCast] at hi
   refine⟨rfl,_,rfl,d,3,rfl,d1,by decide,fun t H2 t0 t1 k2 d2=>⟨_,_,rfl,rfl,_,rfl,by omega,by omega,fun C hC=>?_⟩⟩
   have n2:=k2 _ _ n1 nN
   have nC:=d2.ne hC
   refine fJ (fun j σ H'=>∃(ys:List Str) (v:Option V),σ=[v,some (.str lE),some (.ref d)]∧KB d H2 H'∧cT H' d∧H' C=some (.lst (ys.map V.str))∧ys.length=j∧(ys.map (·.length)).sum=j)
    ⟨[],none,?sg,(Same.new hC).kb,d2.same (Same.new hC),af,rfl,rfl⟩ ?_ ?_
   case sg=>rfl
   ·rintro j σ H3 hj ⟨ys,v,rfl,k3,d3,c3,ly,C_⟩
    refine⟨_,rfl,_,rfl,d,26,rfl,d3,by decide,fun r H4 r0 r1 k4 d4=>?_⟩
    obtain⟨c,hc⟩:=Ai r0 r1
    refine⟨lE,r,c,rfl,rfl,uM,hc,_,k4 _ _ c3 nC,?_,ys++[⟨#[c]⟩],_,rfl,KB.mQ (k3.trans k4) hC,d4.upd nC,?_,?_,?_⟩
    ·rw[List.length_map];omega
    ·rw[af,List.map_append];rfl
    ·rw[List.length_append,ly];rfl
    ·rw[List.map_append,List.sum_append,C_];rfl
   rintro σ H3 ⟨ys,v,rfl,k3,d3,c3,ly,C_⟩
   have n3:=k3 _ _ n2 nN
   have e0:(Str.length ("":Str))=0:=rfl
   refine⟨"",C,ys,rfl,rfl,.of c3,by rw[C_,ly,e0];omega,fun z hz J7=>?_⟩
   have zl:z.length≤3:=by
    rw[J7]
    exact Nat.le_trans (zr ys) (by rw[C_];omega)
   clear J7
   dsimp only[aH]
   refine⟨_,rfl,by decide,by decide,dR (n:=(30:Int).toNat) (fun j σ H'=>∃(z:Str) (v6:Option V),σ=[some (.ref d),some (.int (m:Nat)),some (.str lE),some (.ref N),some (.int (0+(i:Int))),some (.str z),v6]∧Same H3 H'∧z.length≤3+j)
    ⟨z,v6,rfl,.refl _,zl⟩ ?_ ?_⟩
   ·rintro j σ H4 hj ⟨z,v6,rfl,s4,zl⟩
    have hj':j<30:=hj
    have n4:=s4 _ _ n3
    dsimp only[aH,Bc]
    refine GG (Same H4) (fun Qc hq=>?_) (fun c H5 s5=>?_)
    ·refine⟨_,rfl,_,rfl,N,_,rfl,.inl (.of n4),rfl,EE ss,_,rfl,?_⟩
     refine cG (fun _=>hq _ _ (.refl _)) (fun _=>?_)
     exact⟨_,rfl,by show 5≤sizeLine;decide,fun Z hZ=>⟨Z,_,rfl,.inl (.of af),rfl,rfl,_,rfl,hq _ _ (Same.new hZ)⟩⟩
    ·refine cG (fun _=>?_) (fun _=>⟨z,_,rfl,s4.trans s5,by omega⟩)
     obtain⟨cc,hcc⟩:=Ai (r:=(0+(j:Int)) % 26) (Int.emod_nonneg _ (by decide)) (Int.emod_lt_of_pos _ (by decide))
     have sl:=Txt.slice_le z none (some 2)
     have e1:Str.length (⟨#[cc]⟩:Str)=1:=rfl
     refine⟨_,rfl,_,rfl,z,rfl,by omega,_,rfl,_,rfl,_,_,rfl,rfl,cpos (by decide),lE,_,cc,rfl,rfl,uM,hcc,_,_,rfl,rfl,by rw[e1];omega,Txt.slice z none (some 2)++⟨#[cc]⟩,_,rfl,s4.trans s5,?_⟩
     show((Txt.slice z none (some 2)).cps++ #[cc]).size≤_
     rw[Array.size_append]
     have:(Txt.slice z none (some 2)).cps.size≤z.length:=sl
     show _+1≤_
     omega
   ·rintro σ H4 ⟨z,v6,rfl,s4,_⟩
    have n4:=s4 _ _ n3
    refine⟨_,rfl,.inl ⟨rfl,_,.of n4⟩,_,rfl,N,_,_,rfl,rfl,n4,?_,ss++[z],_,_,_,rfl,?_,?_,?_,?_⟩
    ·rw[List.length_map];omega
    ·exact KB.mQ (((k1.trans k2).trans k3).trans s4.kb) hN
    ·exact(d3.same s4).upd nN
    ·rw[af,List.map_append];rfl
    ·rw[List.length_append,ls];rfl
  ·rintro σ H1 ⟨ss,v4,v5,v6,rfl,k1,d1,n1,ls⟩
   rw[Int.toNat_natCast] at ls
   refine⟨_,rfl,N,ss,rfl,.of n1,by omega,fun p zs hp perm _=>?_⟩
   have sp:=Same.new (o:=.lst (zs.map V.str)) hp
   exact k p zs _ (d1.lo k1 hp) (k1.trans sp.kb) (d1.same sp) af (by rw[perm.length_eq,ls])
theorem EF:∀m:Nat,m<5→∃v:Nat,v<3∧iX ([.int 0,.int 0,.int 0,.int 1,.int 2]:List V) (m:Int)=some (.int (v:Nat))
 | 0,_=>⟨0,by decide,rfl⟩
 | 1,_=>⟨0,by decide,rfl⟩
 | 2,_=>⟨0,by decide,rfl⟩
 | 3,_=>⟨1,by decide,rfl⟩
 | 4,_=>⟨2,by decide,rfl⟩
 | m+5,h=>absurd h (by omega)
theorem B5 {n a b c:Nat} (ha:a<n) (hb:b<n) (hc:c<n):∀v:Nat,v<3→∃x:Nat,x<n∧iX ([.int (a:Nat),.int (b:Nat),.int (c:Nat)]:List V) (v:Int)=some (.int (x:Nat))
 | 0,_=>⟨a,ha,rfl⟩
 | 1,_=>⟨b,hb,rfl⟩
 | 2,_=>⟨c,hc,rfl⟩
 | v+3,h=>absurd h (by omega)
theorem toN {r:Int} (h:0≤r):∃n:Nat,r=(n:Int):=⟨r.toNat,(Int.toNat_of_nonneg h).symm⟩
def EG:Sp:=fun vs H Q _=>∃(d:Addr) (b most m:Nat),vs=[.ref d,.int b,.int most,.int m]∧cT H d∧2≤b∧b≤4∧0<most∧most≤50∧m≤3∧
 ∀(ma nm:Addr) (ss:List Str) (bs:List Bool) (mv:List (List Nat)) (H':Hp),H ma=none→KB d H H'→cT H' d→H' nm=some (.tup (ss.map V.str))→ss.length=m→cy H' ma nm bs mv→Moves bs.length (b ^ m) mv→0<bs.length→bs.length≤most→(∀r,r<bs.length→bs.getD ((mv.getD r []).getD 0 0) false=bs.getD r false)→Q (.ref ma) H'
theorem bE:aY ["_law_deck_here","_law_base","_law_most","_law_many","_law_names","_law_letters_here","_law_name","_law_rooms","_law_share","_law_yes","_law_moves","_law_room","_law_like","_law_goes","_law_k"] ["_law_deck_here","_law_base","_law_most","_law_many"] (aq dA):=⟨rfl,rfl,rfl,by decide+kernel,rfl,by decide+kernel,by decide+kernel⟩
theorem uN {a:eK} (T:Txt K mg a):bR P w K mg base dr 4 a.iA a.jt ["_law_deck_here","_law_base","_law_most","_law_many"] EG:=by
 have bT:=j_ (P:=P) (w:=w) (base:=base) T
 have nQ:=mR (P:=P) (w:=w) (base:=base) T
 refine T.vL.ok bE (fun vs H Q E h=>?_) (fun cdv A outer s H vs Q E hr h=>?_)
 ·obtain⟨d,b,most,m,rfl,_⟩:=h
  rfl
 ·obtain⟨d,b,most,m,rfl,hd,hb2,hb4,hm0,hm1,C0,k⟩:=h
  have bH:aX 2 _:=hr.mono (by decide)
  have mS:aX 3 _:=hr
  refine⟨_,(ah (aC (i:=4) bE.nd rfl (Or.inl rfl) (b_ (dy K) (by rfl) T.fR eV (ae (aG nQ mS rfl T.nK T.nO T.nP .nil aO (ae (pv 0) (ae (pv 3) ag))) ag)))
  (ah (aC (i:=5) bE.nd rfl (Or.inl rfl) ak)
  (ah (bh PassesOwn.never rfl (f_ (pv 4)) (az (i:=6) bE.nd rfl (Or.inl rfl))
   (ax (aC (i:=5) bE.nd rfl (Or.inl rfl) (aF fc (pv 5) (pv 1)))))
  (ah (aC (i:=7) bE.nd rfl (Or.inl rfl) (aF cq ak (aG bT bH rfl T.cJ T.cK T.cL .nil aO (ae (pv 0) (ae (pv 2) ag)))))
  (ah (aC (i:=8) bE.nd rfl (Or.inr rfl) (aF cq ak (aG bT bH rfl T.cJ T.cK T.cL .nil aO (ae (pv 0) (ae ak ag)))))
  (ah (aC (i:=9) bE.nd rfl (Or.inr rfl) (b_ (dy K) (by rfl) T.fR eV (ae (cg (aJ.mk' (esc:=aq dA) (N:=["_law_deck_here","_law_base","_law_most","_law_many","_law_names","_law_letters_here","_law_name","_law_rooms","_law_share","_law_yes","_law_moves","_law_room","_law_like","_law_goes","_law_k"]) (own:=["_law_room"]) (bu:=["_law_deck_here","_law_share"]) (bB:=[0,8]) rfl rfl (by decide+kernel)) rfl (cp rfl T.cw (ae (pv 7) ag)) (fun _ _ _ _=>(az (i:=0) (show List.Nodup (["_law_room","_law_deck_here","_law_share"]:List Str) by decide+kernel) rfl (Or.inl rfl))) (fun _ _ _ _=>bM) (fun _ _ _ _=>(g5 kQ (aG bT bH rfl T.cJ T.cK T.cL .nil aO (ae (pv 1) (ae (pv 2) ag))) ak (bw _)))) ag)))
  (ah (aC (i:=10) bE.nd rfl (Or.inl rfl) (bx ag))
  (ah (bh PassesOwn.never rfl (cp rfl T.cw (ae (pv 7) ag)) (az (i:=11) bE.nd rfl (Or.inr rfl))
   (ah (dU (i:=12) (aJ.mk' (esc:=aq dA) (N:=["_law_deck_here","_law_base","_law_most","_law_many","_law_names","_law_letters_here","_law_name","_law_rooms","_law_share","_law_yes","_law_moves","_law_room","_law_like","_law_goes","_law_k"]) (own:=["_law_other"]) (bu:=["_law_yes","_law_room"]) (bB:=[9,11]) rfl rfl (by decide+kernel)) rfl (cp rfl T.cw (ae (pv 7) ag)) (fun _ _ _ _=>(az (i:=0) (show List.Nodup (["_law_other","_law_yes","_law_room"]:List Str) by decide+kernel) rfl (Or.inl rfl))) (fun _ _ _ _=>(gx (bA kQ (aE (aP K) (pv 1) (pv 0) (fun _ _=>rfl)) (aE (aP K) (pv 1) (pv 2) (fun _ _=>rfl)) (bw _)))) (fun _ _ _ _=>(pv 0)) bE.nd rfl rfl)
   (ah (aC (i:=13) bE.nd rfl (Or.inl rfl) (bx (ae (aE (aM K) (pv 12) (aG bT bH rfl T.cJ T.cK T.cL .nil aO (ae (pv 0) (ae (aL (aW K) (by rfl) T.cF bP (ae (pv 12) ag)) ag))) (fun _ _=>rfl)) ag)))
   (ah (bh PassesOwn.never rfl (cp rfl T.cw (ae (aF gH (pv 5) ak) ag)) (az (i:=14) bE.nd rfl (Or.inl rfl))
    (ax (bI (cE PySem.F.plainAttrs_list PySem.F.slot_list_append PySem.F.type_list_append bz (pv 13) (ae (aE (aM K) (bx (ae (aG bT bH rfl T.cJ T.cK T.cL .nil aO (ae (pv 0) (ae (pv 7) ag))) (ae (aE (aM K) (pv 13) ak (fun _ _=>rfl)) (ae (pv 11) ag)))) (aE (aM K) (bx (ae ak (ae ak (ae ak (ae ak (ae ak ag)))))) (aG bT bH rfl T.cJ T.cK T.cL .nil aO (ae (pv 0) (ae ak ag))) (fun _ _=>rfl)) (fun _ _=>rfl)) ag)))))
   (ax (bI (cE PySem.F.plainAttrs_list PySem.F.slot_list_append PySem.F.type_list_append bz (pv 10) (ae (b_ (dy K) (by rfl) T.fR eV (ae (pv 13) ag)) ag))))))))
  (ax (aS (bX (ae (pv 4) (ae (pv 9) (ae (b_ (dy K) (by rfl) T.fR eV (ae (pv 10) ag)) ag)))))))))))))),?_⟩
  have big:(10000:Nat)≤sizeLine:=by decide
  refine⟨_,rfl,_,rfl,d,m,rfl,hd,by omega,fun N ss H1 hN k1 d1 n1 lW=>?_⟩
  refine⟨N,_,rfl,.inl ⟨.of n1,fun nm hnm=>?_⟩⟩
  have C1:=Same.new (o:=.tup (ss.map V.str)) hnm
  have k2:KB d H (upd H1 nm (.tup (ss.map V.str))):=k1.trans C1.kb
  have d2:=d1.same C1
  have e2:(upd H1 nm (.tup (ss.map V.str))) nm=some (.tup (ss.map V.str)):=af
  generalize upd H1 nm (.tup (ss.map V.str))=H2 at k2 d2 e2 ⊢
  dsimp only[tJ,ou,tC,aH]
  refine⟨_,rfl,nm,rfl,⟨_,.of e2⟩,ko (xs:=ss.map V.str) (fun i σ H'=>∃v6:Option V,σ=[some (.ref d),some (.int (b:Nat)),some (.int (most:Nat)),some (.int (m:Nat)),some (.ref nm),some (.int (b ^ i:Nat)),v6,none,none,none,none,none,none,none,none]∧H'=H2)
   ⟨none,rfl,rfl⟩ (fun i σ H' _ ⟨_,_,e⟩=>by rw[e];exact .of e2) ?_ ?_⟩
  ·rintro i x σ H3 hx ⟨v6,rfl,rfl⟩
   refine⟨_,rfl,_,rfl,_,_,rfl,rfl,.inr (by constructor<;>omega),some x,?_,rfl⟩
   have e1:(b ^ (i+1):Nat)=b ^ i*b:=Nat.pow_succ ..
   have e3:((b ^ i:Nat):Int)*(b:Int)=((b ^ (i+1):Nat):Int):=by rw[e1,Int.natCast_mul]
   rw[←e3]
   rfl
  rintro σ H3 ⟨v6,rfl,rfl⟩
  rw[List.length_map,lW]
  have PZ:0<b ^ m:=Nat.pow_pos (by omega)
  have Md:b ^ m≤64:=Nat.le_trans (Nat.pow_le_pow_left hb4 _) (Nat.le_trans (Nat.pow_le_pow_right (show 0<4 by decide) C0) (by decide))
  generalize b ^ m=B at PZ Md k ⊢
  refine⟨_,rfl,_,rfl,d,(most:Int),rfl,d2,by omega,fun r H4 r0 r1 k4 d4=>⟨_,_,rfl,rfl,?_⟩⟩
  obtain⟨r',rfl⟩:=toN r0
  have en:(1:Int)+(r':Int)=((1+r':Nat):Int):=by omega
  dsimp only[aH]
  rw[en]
  generalize hN':1+r'=n
  have n0:0<n:=by omega
  have n50:n≤most:=by omega
  refine⟨_,rfl,d,3,rfl,d4,by decide,fun u H5 u0 u1 k5 d5=>⟨_,_,rfl,rfl,?_⟩⟩
  dsimp only[aH]
  refine⟨_,rfl,_,rfl,by omega,by omega,fun C hC=>?_⟩
  have nC:=d5.ne hC
  refine fJ (fun j σ H'=>∃(bs:List Bool) (v:Option V),σ=[v,some (.ref d),some (.int (2+u))]∧KB d H5 H'∧cT H' d∧H' C=some (.lst (bs.map V.bl))∧bs.length=j)
   ⟨[],none,?sg,(Same.new hC).kb,d5.same (Same.new hC),af,rfl⟩ ?_ ?_
  case sg=>rfl
  ·rintro j σ H6 hj ⟨bs,v,rfl,k6,d6,c6,lb⟩
   rw[Int.toNat_natCast] at hj
   refine⟨_,rfl,_,rfl,d,2+u,rfl,d6,by omega,fun q H7 q0 q1 k7 d7=>⟨rfl,?_⟩⟩
   refine⟨_,k7 _ _ c6 nC,?_,bs++[decide (V.int q=V.int 0)],_,rfl,KB.mQ (k6.trans k7) hC,d7.upd nC,?_,by rw[List.length_append,lb];rfl⟩
   ·rw[List.length_map];omega
   ·rw[af,List.map_append];rfl
  rintro σ H6 ⟨bs,v,rfl,k6,d6,c6,lb⟩
  rw[Int.toNat_natCast] at lb
  refine⟨C,_,rfl,.inl ⟨.of c6,fun Y hY=>?_⟩⟩
  have sY:=Same.new (o:=.tup (bs.map V.bl)) hY
  have d7:=d6.same sY
  have y7:(upd H6 Y (.tup (bs.map V.bl))) Y=some (.tup (bs.map V.bl)):=af
  have GH:KB d H3 (upd H6 Y (.tup (bs.map V.bl))):=((k4.trans k5).trans k6).trans sY.kb
  have e7:=d2.ktu GH _ _ e2
  have GI:=k2.trans GH
  clear GH c6 sY k6 d6
  generalize upd H6 Y (.tup (bs.map V.bl))=H7 at d7 y7 e7 GI ⊢
  dsimp only[aH]
  refine⟨by decide,fun M hM=>?_⟩
  have nM:=d7.ne hM
  have GB:=d7.lo GI hM
  have sM:=Same.new (o:=.lst []) hM
  refine⟨_,rfl,_,rfl,by omega,by omega,dR (n:=(n:Int).toNat) (fun i σ H'=>∃(ps:List Addr) (mv:List (List Nat)) (v11 kD lX iK:Option V),σ=[some (.ref d),some (.int (b:Nat)),some (.int (most:Nat)),some (.int (m:Nat)),some (.ref nm),some (.int (B:Nat)),v6,some (.int (n:Nat)),some (.int (2+u)),some (.ref Y),some (.ref M),v11,kD,lX,iK]∧KB d H H'∧cH H7 H'∧cT H' d∧H' M=some (.lst (ps.map V.ref))∧bD H' ps (mv.map aj)∧mv.length=i∧(∀l∈mv,l.length=B∧∀x∈l,x<n)∧∀r,r<i→bs.getD ((mv.getD r []).getD 0 0) false=bs.getD r false)
   ⟨[],[],none,none,none,none,rfl,GI.trans sM.kb,sM.kt,d7.same sM,af,.nil,rfl,fun l hl=>(by cases hl),fun r hr=>absurd hr (Nat.not_lt_zero _)⟩ ?_ ?_⟩
  ·rintro i σ H8 hi ⟨ps,mv,v11,kD,lX,iK,rfl,k8,t8,d8,m8,C2,lm,GJ,C3⟩
   rw[Int.toNat_natCast] at hi
   have y8:=t8 _ _ y7
   have lps:ps.length=i:=by rw[Paired.length C2,List.length_map,lm]
   obtain⟨yi,GK⟩:∃y,bs[i]? =some y:=⟨_,List.getElem?_eq_getElem (by omega)⟩
   have ei:(0:Int)+(i:Int)=(i:Int):=by omega
   refine⟨_,rfl,_,rfl,by omega,by omega,fun L hL=>?_⟩
   refine fJ (fun j σ H'=>∃(ls:List Nat) (v:Option V),σ=[v,some (.ref Y),some (.int (0+(i:Int)))]∧Same H8 H'∧H' L=some (.lst ((aj ls).map V.int))∧ls.length≤j∧(∀x∈ls,x<n∧bs.getD x false=yi)∧(i<j→ls≠[]))
    ⟨[],none,?sg2,Same.new hL,af,Nat.le_refl _,fun x hx=>(by cases hx),fun z=>absurd z (Nat.not_lt_zero _)⟩ ?_ ?_
   case sg2=>rfl
   ·rintro j σ H9 hj ⟨ls,v,rfl,s9,l9,ll,hls,hne⟩
    rw[Int.toNat_natCast] at hj
    have ej:(0:Int)+(j:Int)=(j:Int):=by omega
    obtain⟨yj,C4⟩:∃y,bs[j]? =some y:=⟨_,List.getElem?_eq_getElem (by omega)⟩
    refine⟨_,rfl,_,rfl,Y,_,_,.bl yj,rfl,rfl,.of (s9 _ _ y8),by rw[ej];exact aD (by rw[List.getElem?_map,C4];rfl),_,rfl,_,rfl,Y,_,_,.bl yi,rfl,rfl,.of (s9 _ _ y8),by rw[ei];exact aD (by rw[List.getElem?_map,GK];rfl),rfl,_,rfl,?_⟩
    refine cG (fun z=>?_) (fun z=>?_)
    ·refine⟨_,rfl,_,l9,?_,ls++[j],_,rfl,s9.kbn hL KB.write,?_,by rw[List.length_append];show ls.length+1≤j+1;omega,fun x hx=>?_,fun _=>by simp⟩
     ·rw[List.length_map,aA];omega
     ·rw[af,bt,List.map_append,ej];rfl
     ·rcases List.mem_append.mp hx with y | y
      ·exact hls x y
      ·rw[List.mem_singleton.mp y];exact⟨hj,by rw[List.getD_eq_getElem?_getD,C4];simpa using z⟩
    ·refine⟨ls,_,rfl,s9,l9,by omega,hls,fun hij=>hne ?_⟩
     rcases Nat.lt_or_ge i j with q | q
     ·exact q
     ·have:i=j:=by omega
      subst this
      rw[GK] at C4
      rw[Option.some.inj C4] at z
      simp at z
   rintro σ H9 ⟨ls,v,rfl,s9,l9,ll,hls,hne⟩
   rw[Int.toNat_natCast] at ll hne
   have Tb:0<ls.length:=List.length_pos_iff.mpr (hne hi)
   have d9:=d8.same s9
   have nL:L≠d:=d8.ne hL
   refine⟨_,rfl,_,rfl,_,rfl,_,ls.length,rfl,.inl ⟨_,.of l9,by rw[List.length_map,aA]⟩,d,(ls.length:Int),rfl,d9,by omega,fun q Ha q0 q1 ka da=>?_⟩
   obtain⟨q',rfl⟩:=toN q0
   have hq':q'<ls.length:=by omega
   refine⟨L,_,_,_,rfl,rfl,.of (ka _ _ l9 nL),aD (dv hq'),by show 1≤sizeLine;decide,fun G hG=>?_⟩
   obtain⟨hg0,J8⟩:ls.getD q' 0<n∧bs.getD (ls.getD q' 0) false=yi:=hls _ (List.mem_of_getElem? (item_at 0 hq'))
   have nG:=da.ne hG
   have J9:KB d H8 Ha:=s9.kb.trans ka
   have P_:=da.lo J9 hG
   have sG:=Same.new (o:=.lst [.int (ls.getD q' 0:Nat)]) hG
   generalize ls.getD q' 0=g0 at hg0 J8 sG ⊢
   dsimp only[aH]
   refine⟨_,rfl,_,_,rfl,rfl,_,rfl,by omega,by omega,dR (n:=((B:Int)-1).toNat) (fun j σ H'=>∃(gs:List Nat) (iK:Option V),σ=[some (.ref d),some (.int (b:Nat)),some (.int (most:Nat)),some (.int (m:Nat)),some (.ref nm),some (.int (B:Nat)),v6,some (.int (n:Nat)),some (.int (2+u)),some (.ref Y),some (.ref M),some (.int (0+(i:Int))),some (.ref L),some (.ref G),iK]∧KB d H8 H'∧cT H' d∧H' G=some (.lst ((aj (g0::gs)).map V.int))∧gs.length=j∧∀x∈gs,x<n)
    ⟨[],iK,rfl,J9.trans sG.kb,da.same sG,af,rfl,fun x hx=>(by cases hx)⟩ ?_ ?_⟩
   ·rintro j σ Hb hj ⟨gs,iK,rfl,kb,db,gb,lg,hgs⟩
    refine⟨_,rfl,.inl ⟨rfl,_,.of gb⟩,_,rfl,_,rfl,d,(n:Int),rfl,db,by omega,fun q2 Hc P0 TC kc dc=>?_⟩
    obtain⟨GL,rfl⟩:=toN P0
    have gc:=kc _ _ gb nG
    refine⟨_,rfl,G,_,_,.int (g0:Nat),rfl,rfl,.of gc,aD (j:=0) rfl,_,rfl,by show 3≤sizeLine;decide,fun Z1 C5=>?_⟩
    have Aj:=Same.new (o:=.lst [.int (GL:Nat),.int (g0:Nat),.int (0+(i:Int))]) C5
    refine⟨by show 5≤sizeLine;decide,fun Z2 C6=>?_⟩
    have uO:=Same.new (o:=.lst [.int 0,.int 0,.int 0,.int 1,.int 2]) C6
    have sZ:=Aj.trans uO
    have dz:=dc.same sZ
    have P1:Z1≠d:=dc.ne C5
    have P2:Z2≠d:=(dc.same Aj).ne C6
    refine⟨_,rfl,d,5,rfl,dz,by decide,fun q3 Hd P4 TF kd dd=>?_⟩
    obtain⟨P5,rfl⟩:=toN P4
    obtain⟨v,hv,ev⟩:=EF P5 (by omega)
    obtain⟨x,hx,ex⟩:=B5 (n:=n) (a:=GL) (b:=g0) (c:=i) (by omega) hg0 hi v hv
    have z2:=kd _ _ (show(upd _ Z2 (.lst [.int 0,.int 0,.int 0,.int 1,.int 2])) Z2=_ from af) P2
    have z1:=kd _ _ (uO _ _ (show(upd Hc Z1 (.lst [.int (GL:Nat),.int (g0:Nat),.int (0+(i:Int))])) Z1=_ from af)) P1
    rw[ei] at z1
    have gd:=kd _ _ (sZ _ _ gc) nG
    refine⟨Z2,_,_,_,rfl,rfl,.of z2,ev,Z1,_,_,_,rfl,rfl,.of z1,ex,G,_,_,rfl,rfl,gd,?_,gs++[x],_,rfl,KB.mQ (((kb.trans kc).trans sZ.kb).trans kd) P_,dd.upd nG,?_,by rw[List.length_append,lg];rfl,fun y hy=>?_⟩
    ·rw[List.length_map,aA,List.length_cons];omega
    ·rw[af,←List.cons_append,bt,List.map_append];rfl
    ·rcases List.mem_append.mp hy with w | w
     ·exact hgs y w
     ·rw[List.mem_singleton.mp w];exact hx
   rintro σ Hb ⟨gs,iK,rfl,kb,db,gb,lg,hgs⟩
   have mb:=kb _ _ m8 nM
   have tb:=d8.ktu kb
   refine⟨_,rfl,.inl ⟨rfl,_,.of mb⟩,_,rfl,G,_,rfl,.inl ⟨.of gb,fun Dd P6=>?_⟩⟩
   have sD:=Same.new (o:=.tup ((aj (g0::gs)).map V.int)) P6
   have mD:=sD _ _ mb
   have ktM:cH (upd Hb Dd (.tup ((aj (g0::gs)).map V.int))) (upd (upd Hb Dd (.tup ((aj (g0::gs)).map V.int))) M (.lst (ps.map V.ref++[.ref Dd]))):=cH.lst mD
   refine⟨M,_,_,rfl,rfl,mD,?_,ps++[Dd],mv++[g0::gs],_,_,_,_,rfl,?_,?_,?_,?_,?_,by rw[List.length_append,lm];rfl,fun l hl=>?_,fun r hr=>?_⟩
   ·rw[List.length_map];omega
   ·exact KB.mQ ((k8.trans kb).trans sD.kb) GB
   ·exact(t8.trans (tb.trans sD.kt)).trans ktM
   ·exact(db.same sD).upd nM
   ·rw[af,List.map_append];rfl
   ·rw[List.map_append]
    exact dk (((C2.keep tb).keep sD.kt).keep ktM) (.cons (ktM _ _ af) .nil)
   ·rcases List.mem_append.mp hl with z | z
    ·exact GJ l z
    ·rw[List.mem_singleton.mp z]
     refine⟨by rw[List.length_cons,lg];omega,fun x hx=>?_⟩
     rcases List.mem_cons.mp hx with w | w
     ·rw[w];exact hg0
     ·exact hgs x w
   ·rw[List.getD_eq_getElem?_getD (l:=mv++[g0::gs])]
    by_cases z:r<i
    ·rw[List.getElem?_append_left (by omega),←List.getD_eq_getElem?_getD];exact C3 r z
    ·have:r=i:=by omega
     subst this
     rw[List.getElem?_append_right (by omega),lm,Nat.sub_self]
     show bs.getD g0 false=bs.getD r false
     rw[J8,List.getD_eq_getElem?_getD,GK];rfl
  rintro σ H8 ⟨ps,mv,v11,kD,lX,iK,rfl,k8,t8,d8,m8,C2,lm,GJ,C3⟩
  rw[Int.toNat_natCast] at lm C3
  refine⟨_,rfl,_,rfl,_,rfl,M,_,rfl,.inl ⟨.of m8,fun V' hV=>?_⟩⟩
  have sV:=Same.new (o:=.tup (ps.map V.ref)) hV
  refine⟨by show 3≤sizeLine;decide,fun ma hma=>?_⟩
  have uP:=Same.new (o:=.tup [.ref nm,.ref Y,.ref V']) hma
  have sA:=sV.trans uP
  exact k ma nm ss bs mv _ (cT.lo (d8.same sV) (k8.trans sV.kb) hma) (k8.trans sA.kb) (d8.same sA) (sA _ _ (t8 _ _ e7)) lW ⟨Y,V',ps,af,sA _ _ (t8 _ _ y7),uP _ _ af,C2.keep sA.kt⟩ (by rw[lb];exact⟨lm,GJ⟩) (by omega) (by omega) (by rw[lb];exact C3)
def JA:Sp:=fun vs H Q _=>∃(ma nm:Addr) (bs:List Bool) (mv:List (List Nat)) (ns:List V),vs=[.ref ma]∧cy H ma nm bs mv∧H nm=some (.tup ns)∧ns.length≤100∧
 ∀(p:Addr) (H':Hp),Same H H'→H' p=some (.tup ((aj (List.replicate ns.length 0)).map V.int))→Q (.ref p) H'
def JB:Sp:=fun vs H Q _=>∃(ma nm:Addr) (bs:List Bool) (mv:List (List Nat)),vs=[.ref ma]∧cy H ma nm bs mv∧bs.length≤60∧
 ∀(p:Addr) (H':Hp),Same H H'→H' p=some (.tup ((aj ((List.range bs.length).filter fun r=>bs.getD r false)).map V.int))→Q (.ref p) H'
def more (b:Nat) (ns fs:List Nat):List Nat:=List.zipWith (fun n f=>n*b+f) ns fs
def GN:Sp:=fun vs H Q _=>∃(b:Nat) (na la:Addr) (ns fs:List Nat),vs=[.int b,.ref na,.ref la]∧H na=some (.tup ((aj ns).map V.int))∧H la=some (.tup ((aj fs).map V.int))∧b≤100∧ns.length=fs.length∧ns.length≤100∧
 ∀(p:Addr) (H':Hp),Same H H'→H' p=some (.tup ((aj (more b ns fs)).map V.int))→Q (.ref p) H'
theorem Ak {b:Nat} {ns fs:List Nat} {i n f:Nat} (hn:ns[i]? =some n) (hf:fs[i]? =some f):more b (ns.take (i+1)) (fs.take (i+1))=more b (ns.take i) (fs.take i)++[n*b+f]:=by
 unfold more
 rw[take_snoc hn,take_snoc hf,List.zipWith_append]
 ·rfl
 ·have h1:=(List.getElem?_eq_some_iff.mp hn).1
  have h2:=(List.getElem?_eq_some_iff.mp hf).1
  rw[List.length_take,List.length_take];omega
theorem sf:aY ["machine"] ["machine"] (aq eP):=⟨rfl,rfl,rfl,by decide+kernel,rfl,by decide+kernel,by decide+kernel⟩
theorem iT {a:eK} (T:Txt K mg a):bR P w K mg base dr 1 a.gM a.iQ ["machine"] JA:=by
 refine T.uz.ok sf (fun vs H Q E h=>?_) (fun cdv A outer s H vs Q E hr h=>?_)
 ·obtain⟨ma,nm,bs,mv,ns,rfl,_⟩:=h
  rfl
 ·obtain⟨ma,nm,bs,mv,ns,rfl,hma,hnm,hn,k⟩:=h
  refine⟨_,(ax (aS (aF (g9 K) (bX (ae ak ag)) (aL (aW K) (by rfl) T.cF bP (ae (aE (aP K) (pv 0) ak (fun _ _=>rfl)) ag))))),?_⟩
  obtain⟨ya,va,ps,e1,e2,e3,tp⟩:=hma
  refine⟨by decide,fun p hp=>?_⟩
  have sp:=Same.new (o:=.tup [.int 0]) hp
  refine⟨_,rfl,ma,_,_,.ref nm,rfl,rfl,.of (sp _ _ e1),aD (j:=0) rfl,_,_,rfl,.inr ⟨_,.of (sp _ _ hnm),rfl⟩,p,[.int 0],ns.length,rfl,rfl,.of af,by simp,by simp;omega,fun z=>?_,fun q hq=>?_⟩
  ·refine k p _ sp ?_
   rw[z];exact af
  ·refine k q _ (sp.trans (Same.new hq)) ?_
   rw[af]
   congr 2
   unfold aj
   clear hn k hnm
   generalize ns.length=m
   induction m with
   | zero=>rfl
   | succ m ih=>rw[List.replicate_succ,List.replicate_succ,List.flatten_cons,ih];rfl
theorem uQ:aY ["machine"] ["machine"] (aq eI):=⟨rfl,rfl,rfl,by decide+kernel,rfl,by decide+kernel,by decide+kernel⟩
theorem mT {a:eK} (T:Txt K mg a):bR P w K mg base dr 1 a.iy a.js ["machine"] JB:=by
 refine T.vK.ok uQ (fun vs H Q E h=>?_) (fun cdv A outer s H vs Q E hr h=>?_)
 ·obtain⟨ma,nm,bs,mv,rfl,_⟩:=h
  rfl
 ·obtain⟨ma,nm,bs,mv,rfl,hma,hn,k⟩:=h
  refine⟨_,(ax (aS (b_ (dy K) (by rfl) T.fR eV (ae (cg (aJ.mk' (esc:=aq eI) (N:=["machine"]) (own:=["room","yes"]) (bu:=[]) (bB:=[]) rfl rfl (by decide+kernel)) rfl (jq rfl T.cX (ae (aE (aP K) (pv 0) ak (fun _ _=>rfl)) ag)) (fun _ _ _ _=>(jb K (n:=2) rfl (aK (az (i:=0) (show List.Nodup (["room","yes"]:List Str) by decide+kernel) rfl (Or.inl rfl)) (aK (az (i:=1) (show List.Nodup (["room","yes"]:List Str) by decide+kernel) rfl (Or.inl rfl)) bV)))) (fun _ _ _ _=>(gx (cb K (pv 1) (fun _=>rfl)))) (fun _ _ _ _=>(pv 0))) ag)))),?_⟩
  obtain⟨ya,va,ps,e1,e2,e3,tp⟩:=hma
  have big:(100000:Nat)≤sizeLine:=by decide
  refine⟨_,rfl,ma,_,_,.ref ya,rfl,rfl,.of e1,aD (j:=1) rfl,_,rfl,⟨_,.of e2⟩,fun D hD=>?_⟩
  refine xO (xs:=bs.map V.bl) (fun i σ H'=>∃v0 v1:Option V,σ=[v0,v1]∧Same H H'∧H' D=some (.lst ((aj ((List.range i).filter fun r=>bs.getD r false)).map V.int)))
   ⟨none,none,?sg,Same.new hD,af⟩ (fun i σ H' _ ⟨_,_,_,s,_⟩=>.of (s _ _ e2)) ?_ ?_
  case sg=>rfl
  ·rintro i x p σ H3 hx ⟨v0,v1,rfl,s3,d3⟩ hp
   obtain⟨tv,rfl,et⟩:=lB hx
   have hi:=(List.getElem?_eq_some_iff.mp et).1
   have sp:=Same.new (o:=.tup [.int (i:Nat),.bl tv]) hp
   have rE:bs.getD i false=tv:=by rw[List.getD_eq_getElem?_getD,et];rfl
   refine⟨p,_,rfl,.of af,rfl,_,_,rfl,_,_,rfl,rfl,?_⟩
   refine⟨_,rfl,tv,rfl,?_⟩
   refine cG (fun z=>?_) (fun z=>?_)
   ·refine⟨_,rfl,_,sp _ _ d3,?_,_,_,rfl,(s3.trans sp).kbn hD KB.write,?_⟩
    ·rw[List.length_map,aA]
     have:=List.length_filter_le (fun r=>bs.getD r false) (List.range i)
     rw[List.length_range] at this
     omega
    ·rw[af,List.range_succ,List.filter_append,List.filter_cons,if_pos (by rw[rE];exact z),bt,List.map_append];rfl
   ·exact⟨_,_,rfl,s3.trans sp,by rw[List.range_succ,List.filter_append,List.filter_cons,if_neg (by rw[rE];exact z),List.filter_nil,List.append_nil];exact sp _ _ d3⟩
  rintro σ H3 ⟨v0,v1,rfl,s3,d3⟩
  rw[List.length_map] at d3
  exact⟨D,_,rfl,.inl ⟨.of d3,fun l hl=>k l _ (s3.trans (Same.new hl)) af⟩⟩
theorem qy:aY ["base","numbers","letter"] ["base","numbers","letter"] (aq dn):=⟨rfl,rfl,rfl,by decide+kernel,rfl,by decide+kernel,by decide+kernel⟩
theorem kE {a:eK} (T:Txt K mg a):bR P w K mg base dr 1 a.gm a.ib ["base","numbers","letter"] GN:=by
 refine T.r6.ok qy (fun vs H Q E h=>?_) (fun cdv A outer s H vs Q E hr h=>?_)
 ·obtain⟨b,na,la,ns,fs,rfl,_⟩:=h
  rfl
 ·obtain⟨b,na,la,ns,fs,rfl,e1,e2,hb,hl,hn,k⟩:=h
  refine⟨_,(ax (aS (b_ (dy K) (by rfl) T.fR eV (ae (cg (aJ.mk' (esc:=aq dn) (N:=["base","numbers","letter"]) (own:=["number","figure"]) (bu:=["base"]) (bB:=[0]) rfl rfl (by decide+kernel)) rfl (Ej rfl T.sP (ae (pv 1) (ae (pv 2) ag))) (fun _ _ _ _=>(jb K (n:=2) rfl (aK (az (i:=0) (show List.Nodup (["number","figure","base"]:List Str) by decide+kernel) rfl (Or.inl rfl)) (aK (az (i:=1) (show List.Nodup (["number","figure","base"]:List Str) by decide+kernel) rfl (Or.inl rfl)) bV)))) (fun _ _ _ _=>bM) (fun _ _ _ _=>(aF cq (aF fc (pv 0) (pv 2)) (pv 1)))) ag)))),?_⟩
  have big:(100000:Nat)≤sizeLine:=by decide
  refine⟨_,rfl,_,rfl,_,_,rfl,⟨_,.of e1⟩,⟨_,.of e2⟩,fun D hD=>?_⟩
  refine zR (xs:=(aj ns).map V.int) (ys:=(aj fs).map V.int) (fun i σ H'=>∃v0 v1:Option V,σ=[v0,v1,some (.int (b:Nat))]∧Same H H'∧H' D=some (.lst ((aj (more b (ns.take i) (fs.take i))).map V.int)))
   (by rw[List.length_map,List.length_map,aA,aA,hl]) ⟨none,none,?sg,Same.new hD,af⟩ (fun i σ H' _ ⟨_,_,_,s,_⟩=>⟨.of (s _ _ e1),.of (s _ _ e2)⟩) ?_ ?_
  case sg=>rfl
  ·rintro i x y p σ H3 hx hy ⟨v0,v1,rfl,s3,d3⟩ hp
   obtain⟨n,rfl,en⟩:=cx hx
   obtain⟨f,rfl,ef⟩:=cx hy
   have sp:=Same.new (o:=.tup [.int (n:Nat),.int (f:Nat)]) hp
   have hi:=(List.getElem?_eq_some_iff.mp en).1
   refine⟨p,_,rfl,.of af,rfl,_,_,rfl,_,_,rfl,rfl,?_⟩
   refine⟨_,rfl,_,rfl,_,_,rfl,rfl,.inr ⟨by omega,by omega⟩,_,rfl,_,_,rfl,rfl,_,sp _ _ d3,?_,_,_,rfl,(s3.trans sp).kbn hD KB.write,?_⟩
   ·rw[List.length_map,aA]
    unfold more
    rw[List.length_zipWith,List.length_take,List.length_take];omega
   ·have ev:(n:Int)*(b:Int)+(f:Int)=((n*b+f:Nat):Int):=by rw[Int.natCast_add,Int.natCast_mul]
    rw[af,Ak en ef,bt,List.map_append]
    dsimp only
    rw[ev];rfl
  rintro σ H3 ⟨v0,v1,rfl,s3,d3⟩
  rw[List.length_map,aA,List.take_length,hl,List.take_length] at d3
  exact⟨D,_,rfl,.inl ⟨.of d3,fun l hl=>k l _ (s3.trans (Same.new hl)) af⟩⟩
def fE (bs:List Bool) (l:List Nat):Bool:=(l.drop 1).any fun t=>bs.getD t false
def GO:Sp:=fun vs H Q _=>∃(ma nm:Addr) (bs:List Bool) (mv:List (List Nat)) (B:Nat),vs=[.ref ma]∧cy H ma nm bs mv∧Moves bs.length B mv∧bs.length≤60∧B≤300∧0<B∧
 ∀(p:Addr) (H':Hp),H p=none→Same H H'→H' p=some (.lst ((mv.map (fE bs)).map V.bl))→Q (.ref p) H'
def aR (es:List Nat):List (Key×V):=es.map fun(r:Nat)=>(Sum.inl ((r:Nat):Int),V.bl true)
theorem mU {es:List Nat} {i:Nat} {k:Key} {v:V} (h:(aR es)[i]? =some (k,v)):∃r,es[i]? =some r∧k=Sum.inl (r:Int)∧v=.bl true:=by
 unfold aR at h
 rw[List.getElem?_map] at h
 obtain⟨r,e,z⟩:=Option.map_eq_some_iff.mp h
 cases z
 exact⟨r,e,rfl,rfl⟩
theorem fS (es:List Nat):(aR es).length=es.length:=by unfold aR;rw[List.length_map]
theorem wR (es:List Nat) (t:Nat):((aR es).any fun kv=>decide (kv.1=(Sum.inl (t:Int):Key)))=decide (t∈es):=by
 induction es with
 | nil=>rfl
 | cons x es ih=>
  show(decide ((Sum.inl (x:Int):Key)=Sum.inl (t:Int))||(aR es).any _)=_
  rw[ih]
  by_cases e:t=x
  ·subst e;simp
  ·have:¬(Sum.inl (x:Int):Key)=Sum.inl (t:Int):=fun z=>e (by have:=Sum.inl.inj z;omega)
   rw[decide_eq_false this,Bool.false_or]
   simp[e]
theorem wU (es:List Nat) (t:Nat):(bW (aR es) (Sum.inl (t:Int))).isSome=decide (t∈es):=by rw[←g6];exact wR es t
def kh (es:List Nat) (t:Nat):List Nat:=if t∈es then es else es++[t]
theorem qz (es:List Nat) (t:Nat):putK (aR es) (Sum.inl (t:Int)) (.bl true)=aR (kh es t):=by
 unfold putK kh
 rw[wR]
 by_cases e:t∈es
 ·rw[if_pos (by simpa using e),if_pos e]
  unfold aR
  rw[List.map_map]
  refine List.map_congr_left fun x _=>?_
  show(if _ then _ else _)=_
  split<;>rfl
 ·rw[if_neg (by simpa using e),if_neg e]
  unfold aR
  rw[List.map_append];rfl
theorem jA {es:List Nat} {t x:Nat}:x∈kh es t↔x∈es∨x=t:=by
 unfold kh
 by_cases e:t∈es
 ·rw[if_pos e];exact⟨.inl,fun z=>z.elim id fun y=>y▸e⟩
 ·rw[if_neg e,List.mem_append,List.mem_singleton]
theorem wV {es:List Nat} {t:Nat} (h:es.Nodup):(kh es t).Nodup:=by
 unfold kh
 by_cases e:t∈es
 ·rw[if_pos e];exact h
 ·rw[if_neg e,List.nodup_append]
  exact⟨h,by simp,fun x hx y hy z=>e (by rw[←List.mem_singleton.mp hy,←z];exact hx)⟩
def JC:Sp:=fun vs H Q _=>∃(ma nm rd la:Addr) (bs:List Bool) (mv:List (List Nat)) (B:Nat) (o:Obj) (rs:List Nat) (ls:List Bool),vs=[.ref ma,.ref rd,.ref la]∧cy H ma nm bs mv∧Moves bs.length B mv∧bs.length≤60∧
 H rd=some (.bN o (.dK (aR rs)))∧(∀r∈rs,r<bs.length)∧H la=some (.lst (ls.map V.bl))∧ls.length=bs.length∧
 ∀(F:Addr) (es:List Nat) (H':Hp),H F=none→Same H H'→H' F=some (.dK (aR es))→es.Nodup→(∀t,t∈es↔t<bs.length∧ls.getD t false=true∧∃r∈rs,t∈mv.getD r [])→Q (.ref F) H'
theorem fT:aY ["machine","rooms","let","found","room","to"] ["machine","rooms","let"] (aq dN):=⟨rfl,rfl,rfl,by decide+kernel,rfl,by decide+kernel,by decide+kernel⟩
theorem kF {a:eK} (T:Txt K mg a):bR P w K mg base dr 1 a.gk a.h9 ["machine","rooms","let"] JC:=by
 refine T.r_.ok fT (fun vs H Q E h=>?_) (fun cdv A outer s H vs Q E hr h=>?_)
 ·obtain⟨ma,nm,rd,la,bs,mv,B,o,rs,ls,rfl,_⟩:=h
  rfl
 ·obtain⟨ma,nm,rd,la,bs,mv,B,o,rs,ls,rfl,hma,dZ,hn,uR,hrs,uS,hls,k⟩:=h
  refine⟨_,(ah (aC (i:=3) fT.nd rfl (Or.inl rfl) kS)
  (ah (bh PassesOwn.never rfl (oA (pv 1)) (az (i:=4) fT.nd rfl (Or.inl rfl))
   (ax (bh PassesOwn.never rfl (f_ (aE (aP K) (aE (aP K) (pv 0) ak (fun _ _=>rfl)) (pv 4) (fun _ _=>rfl))) (az (i:=5) fT.nd rfl (Or.inl rfl))
    (ax (bZ (cb K (aE (aM K) (pv 2) (pv 5) (fun _ _=>rfl)) (fun _=>rfl))
     (ax (qc (jN hr) (pv 3) (pv 5) cZ rfl))
     br)))))
  (ax (aS (pv 3))))),?_⟩
  obtain⟨ya,va,ps,e1,e2,e3,tp⟩:=hma
  have big:(100000:Nat)≤sizeLine:=by decide
  refine fun F hF=>?_
  refine⟨_,rfl,rd,aR rs,o,rfl,Same.new hF _ _ uR,?_⟩
  refine oB (fun j σ H'=>∃(es:List Nat) (v4 v5:Option V),σ=[some (.ref ma),some (.ref rd),some (.ref la),some (.ref F),v4,v5]∧Same H H'∧H' F=some (.dK (aR es))∧es.Nodup∧∀t,t∈es↔t<bs.length∧ls.getD t false=true∧∃r∈rs.take j,t∈mv.getD r [])
   ⟨[],none,none,rfl,Same.new hF,af,by simp,by simp⟩ (fun j σ H' _ ⟨_,_,_,_,s',_⟩=>s' _ _ uR) ?_ ?_
  ·rintro j kk vv σ H2 hk ⟨es,v4,v5,rfl,s2,f2,nd,hes⟩
   obtain⟨r,hr',rfl,rfl⟩:=mU hk
   have j1:=hrs r (List.mem_of_getElem? hr')
   obtain⟨r1,r2,r3⟩:=dZ.row (tp.keep s2.kt) j1
   refine⟨_,rfl,ma,_,_,_,rfl,rfl,.of (s2 _ _ e1),aD (j:=2) rfl,_,rfl,va,_,_,_,rfl,rfl,.of (s2 _ _ e3),aD (by rw[List.getElem?_map,r1];rfl),_,rfl,⟨_,.of r2⟩,ko (xs:=(aj (mv.getD r [])).map V.int) (fun l σ H'=>∃(es:List Nat) (v5:Option V),σ=[some (.ref ma),some (.ref rd),some (.ref la),some (.ref F),some (.int (r:Nat)),v5]∧Same H H'∧H' F=some (.dK (aR es))∧H' (ps.getD r 0)=some (.tup ((aj (mv.getD r [])).map V.int))∧es.Nodup∧∀t,t∈es↔t<bs.length∧ls.getD t false=true∧((∃r∈rs.take j,t∈mv.getD r [])∨t∈(mv.getD r []).take l))
    ⟨es,v5,rfl,s2,f2,r2,nd,fun t=>(by rw[hes t];simp)⟩ (fun l σ H' _ ⟨_,_,_,_,_,h,_⟩=>.of h) ?_ ?_⟩
   ·rintro l x σ H3 hx ⟨es,v5,rfl,s3,f3,t3,nd,hes⟩
    obtain⟨t,rfl,et⟩:=cx hx
    have ht:t<bs.length:=(dZ.lead _ (List.mem_of_getElem? (item_at [] (show r<mv.length by rw[dZ.len];exact j1)))).2 t (List.mem_of_getElem? et)
    have hll:ls[t]? =some (ls.getD t false):=item_at false (by rw[hls];exact ht)
    refine⟨_,rfl,_,rfl,la,_,_,.bl (ls.getD t false),rfl,rfl,.of (s3 _ _ uS),aD (by rw[List.getElem?_map,hll];rfl),ls.getD t false,rfl,?_⟩
    have step:∀u:Nat,(u<bs.length∧ls.getD u false=true∧((∃r∈rs.take j,u∈mv.getD r [])∨u∈(mv.getD r []).take (l+1)))↔(u<bs.length∧ls.getD u false=true∧((∃r∈rs.take j,u∈mv.getD r [])∨u∈(mv.getD r []).take l))∨(u=t∧ls.getD t false=true):=fun u=>by
     rw[take_snoc et,List.mem_append,List.mem_singleton]
     constructor
     ·rintro⟨h1,h2,h3 | h3 | h3⟩
      ·exact .inl ⟨h1,h2,.inl h3⟩
      ·exact .inl ⟨h1,h2,.inr h3⟩
      ·exact .inr ⟨h3,h3▸h2⟩
     ·rintro(⟨h1,h2,h3 | h3⟩ | ⟨h1,h2⟩)
      ·exact⟨h1,h2,.inl h3⟩
      ·exact⟨h1,h2,.inr (.inl h3)⟩
      ·exact⟨h1▸ht,h1▸h2,.inr (.inr h1)⟩
    refine cG (fun z=>?_) (fun z=>?_)
    ·refine⟨_,rfl,_,rfl,F,_,rfl,j8.k (k:=Sum.inl (t:Int)) f3 ?len,?_⟩
     case len=>
      rw[fS]
      have h1:=dF _ _ nd (fun x hx=>((hes x).mp hx).1)
      omega
     refine⟨kh es t,_,rfl,s3.kbn hF KB.write,?_,?_,wV nd,fun u=>?_⟩
     ·rw[af,qz]
     ·rw[ao (bF t3 f3 (fun z=>nomatch z))];exact t3
     ·rw[jA,hes u,step u]
      exact⟨fun h=>h.elim .inl fun y=>.inr ⟨y,z⟩,fun h=>h.elim .inl fun y=>.inr y.1⟩
    ·refine⟨es,_,rfl,s3,f3,t3,nd,fun u=>?_⟩
     rw[hes u,step u]
     exact⟨.inl,fun h=>h.elim id fun y=>absurd y.2 z⟩
   ·rintro σ H3 ⟨es,v5,rfl,s3,f3,t3,nd,hes⟩
    refine⟨es,_,_,rfl,s3,f3,nd,fun t=>?_⟩
    rw[hes t,List.length_map,aA,List.take_length,take_snoc hr']
    refine and_congr Iff.rfl (and_congr Iff.rfl ?_)
    constructor
    ·rintro(⟨q,h1,h2⟩ | h)
     ·exact⟨q,List.mem_append.mpr (.inl h1),h2⟩
     ·exact⟨r,List.mem_append.mpr (.inr (List.mem_singleton.mpr rfl)),h⟩
    ·rintro⟨q,h1,h2⟩
     rcases List.mem_append.mp h1 with z | z
     ·exact .inl ⟨q,z,h2⟩
     ·rw[List.mem_singleton.mp z] at h2;exact .inr h2
  ·rintro σ H2 ⟨es,v4,v5,rfl,s2,f2,nd,hes⟩
   rw[fS,List.take_length] at hes
   exact⟨_,rfl,k F es H2 hF s2 f2 nd hes⟩
theorem EH {xs:List V} (h:0<xs.length):eO xs (some 1) none=xs.drop 1∧¬(HT.aU xs.length 0 (some 1)=0∧HT.aU xs.length xs.length none=xs.length):=by
 have e:HT.aU xs.length 0 (some 1)=1:=by
  have:HT.aU xs.length 0 (some 1)=min 1 xs.length:=rfl
  rw[this]
  omega
 refine⟨?_,fun z=>by rw[e] at z;exact absurd z.1 (by decide)⟩
 unfold eO
 have el:xs.length-1=(xs.drop 1).length:=by rw[List.length_drop]
 rw[e,HT.ow,el,List.take_length]
theorem pG:aY ["machine","yes"] ["machine"] (aq fA):=⟨rfl,rfl,rfl,by decide+kernel,rfl,by decide+kernel,by decide+kernel⟩
theorem pH {a:eK} (T:Txt K mg a):bR P w K mg base dr 1 a.jV a.kZ ["machine"] GO:=by
 refine T.zU.ok pG (fun vs H Q E h=>?_) (fun cdv A outer s H vs Q E hr h=>?_)
 ·obtain⟨ma,nm,bs,mv,B,rfl,_⟩:=h
  rfl
 ·obtain⟨ma,nm,bs,mv,B,rfl,hma,dZ,hn,hB,pI,k⟩:=h
  refine⟨_,(ah (aC (i:=1) pG.nd rfl (Or.inr rfl) (aE (aP K) (pv 0) ak (fun _ _=>rfl)))
  (ax (aS (cg (aJ.mk' (esc:=aq fA) (N:=["machine","yes"]) (own:=["leads"]) (bu:=["yes"]) (bB:=[1]) rfl rfl (by decide+kernel)) rfl (f_ (aE (aP K) (pv 0) ak (fun _ _=>rfl))) (fun _ _ _ _=>(az (i:=0) (show List.Nodup (["leads","yes"]:List Str) by decide+kernel) rfl (Or.inl rfl))) (fun _ _ _ _=>bM) (fun _ _ _ _=>(aL (mH K rfl) (by rfl) T.sJ pf (ae (cg (aJ.mk' (esc:=_) (N:=["leads","yes"]) (own:=["to"]) (bu:=["yes"]) (bB:=[1]) rfl rfl (by rfl)) rfl (Ek K (df (Ei K) (pv 0) (dM ak) dJ)) (fun _ _ _ _=>(az (i:=0) (show List.Nodup (["to","yes"]:List Str) by decide+kernel) rfl (Or.inl rfl))) (fun _ _ _ _=>bM) (fun _ _ _ _=>(aE (aP K) (pv 1) (pv 0) (fun _ _=>rfl)))) ag))))))),?_⟩
  obtain⟨ya,va,ps,e1,e2,e3,tp⟩:=hma
  have big:(100000:Nat)≤sizeLine:=by decide
  have lps:ps.length=bs.length:=by rw[Paired.length tp,List.length_map,dZ.len]
  refine⟨_,rfl,ma,_,_,.ref ya,rfl,rfl,.of e1,aD (j:=1) rfl,?_⟩
  refine⟨_,rfl,ma,_,_,.ref va,rfl,rfl,.of e1,aD (j:=2) rfl,_,rfl,⟨_,.of e3⟩,fun D hD=>?_⟩
  refine jl (xs:=ps.map V.ref) (fun i σ H'=>∃v0:Option V,σ=[v0,some (.ref ya)]∧Same H H'∧H' D=some (.lst (((mv.take i).map (fE bs)).map V.bl)))
   ⟨none,?sg,Same.new hD,af⟩ (fun i σ H' _ ⟨_,_,s,_⟩=>.of (s _ _ e3)) ?_ ?_
  case sg=>rfl
  ·rintro i x σ H3 hx ⟨v0,rfl,s3,d3⟩
   obtain⟨q,rfl,eq⟩:=cV hx
   have hi:i<bs.length:=by rw[←lps];exact(List.getElem?_eq_some_iff.mp eq).1
   obtain⟨r1,r2,r3⟩:=dZ.row (tp.keep s3.kt) hi
   rw[r1] at eq
   have eq':=Option.some.inj eq
   subst eq'
   have GP:mv[i]? =some (mv.getD i []):=item_at [] (by rw[dZ.len];exact hi)
   have hlt:=(dZ.lead _ (List.mem_of_getElem? GP)).2
   obtain⟨c1,c2⟩:=EH (xs:=(aj (mv.getD i [])).map V.int) (by rw[List.length_map,aA,r3];exact pI)
   refine⟨_,rfl,_,rfl,_,_,rfl,.of r2,fun z=>absurd z c2,fun _ c hc=>?_⟩
   rw[c1,←List.map_drop]
   have sc:=Same.new (o:=.tup (((aj (mv.getD i [])).drop 1).map V.int)) hc
   have P7:(aj (mv.getD i [])).drop 1=aj ((mv.getD i []).drop 1):=by unfold aj;rw[List.map_drop]
   have s4:=s3.trans sc
   have e4:(upd H3 c (.tup (((aj (mv.getD i [])).drop 1).map V.int))) c=some (.tup ((aj ((mv.getD i []).drop 1)).map V.int)):=by rw[af,P7]
   have d4:=sc _ _ d3
   generalize upd H3 c (.tup (((aj (mv.getD i [])).drop 1).map V.int))=H4 at s4 e4 d4 ⊢
   refine⟨_,rfl,⟨_,.of e4⟩,fun L hL=>?_⟩
   have hL0:H L=none:=s4.free hL
   have GQ:D≠L:=ay d4 hL
   refine jl (xs:=(aj ((mv.getD i []).drop 1)).map V.int) (fun j σ H'=>∃v:Option V,σ=[v,some (.ref ya)]∧Same H4 H'∧H' L=some (.lst (((((mv.getD i []).drop 1).take j).map fun t=>bs.getD t false).map V.bl)))
    ⟨none,?sg2,Same.new hL,af⟩ (fun j σ H' _ ⟨_,_,s',_⟩=>.of (s' _ _ e4)) ?_ ?_
   case sg2=>rfl
   ·rintro j z σ H5 hz ⟨v,rfl,s5,l5⟩
    obtain⟨t,rfl,et⟩:=cx hz
    have ht:t<bs.length:=hlt t (List.mem_of_mem_drop (List.mem_of_getElem? et))
    have hj:=(List.getElem?_eq_some_iff.mp et).1
    rw[List.length_drop,r3] at hj
    refine⟨_,rfl,_,rfl,ya,_,_,.bl (bs.getD t false),rfl,rfl,.of (s5 _ _ (s4 _ _ e2)),aD (by rw[List.getElem?_map,item_at false ht];rfl),_,l5,?_,_,rfl,s5.kbn hL KB.write,?_⟩
    ·rw[List.length_map,List.length_map,List.length_take];omega
    ·rw[af,take_snoc et,List.map_append,List.map_append];rfl
   rintro σ H5 ⟨v,rfl,s5,l5⟩
   rw[List.length_map,aA,List.take_length] at l5
   refine⟨L,_,rfl,.of l5,?_⟩
   rw[List.any_map]
   refine⟨_,s5 _ _ d4,?_,_,rfl,(s4.trans s5).kbn hD KB.write,?_⟩
   ·rw[List.length_map,List.length_map,List.length_take,dZ.len];omega
   ·rw[af,take_snoc GP,List.map_append,List.map_append];rfl
  rintro σ H3 ⟨v0,rfl,s3,d3⟩
  rw[List.length_map,lps,←dZ.len,List.take_length] at d3
  exact k D H3 hD s3 d3
def stp (mv:List (List Nat)) (r a:Nat):Nat:=(mv.getD r []).getD a 0
def run (mv:List (List Nat)):Nat→List Nat→Nat
 | r,[]=>r
 | r,a::w=>run mv (stp mv r a) w
def lang (bs:List Bool) (mv:List (List Nat)) (r:Nat) (w:List Nat):Bool:=bs.getD (run mv r w) false
theorem Moves.stp {n B:Nat} {mv:List (List Nat)} (m:Moves n B mv) {r a:Nat} (hr:r<n) (ha:a<B):stp mv r a<n:=by
 unfold My.stp
 have h1:mv[r]? =some (mv.getD r []):=item_at [] (by rw[m.len];exact hr)
 obtain⟨h2,h3⟩:=m.lead _ (List.mem_of_getElem? h1)
 have h4:=item_at 0 (show a<(mv.getD r []).length by rw[h2];exact ha)
 exact h3 _ (List.mem_of_getElem? h4)
def lets (b:Nat):Nat→List (List Int)
 | 0=>[[]]
 | n+1=>(lets b n).flatMap fun l=>(List.range b).map fun(f:Nat)=>l++[(f:Int)]
theorem jB (b:Nat):∀n,(lets b n).length=b ^ n
 | 0=>rfl
 | n+1=>by
  show((lets b n).flatMap fun l=>(List.range b).map fun(f:Nat)=>l++[(f:Int)]).length=_
  rw[List.length_flatMap]
  have:(List.map (fun l:List Int=>((List.range b).map fun(f:Nat)=>l++[(f:Int)]).length) (lets b n))=List.replicate (lets b n).length b:=by
   rw[List.map_congr_left (g:=fun _=>b) (fun l _=>by simp)]
   exact List.map_const' ..
  rw[this,List.sum_replicate_nat,jB b n,Nat.pow_succ]
theorem uT (b:Nat):∀(n:Nat) (l:List Int),l∈lets b n→l.length=n
 | 0,l,h=>by
  have h':l∈[([]:List Int)]:=h
  simp at h';subst h';rfl
 | n+1,l,h=>by
  have h':l∈(lets b n).flatMap fun l=>(List.range b).map fun(f:Nat)=>l++[(f:Int)]:=h
  obtain⟨l',h1,h2⟩:=List.mem_flatMap.mp h'
  obtain⟨f,_,rfl⟩:=List.mem_map.mp h2
  rw[List.length_append,uT b n l' h1];rfl
theorem B6 (b:Nat) (ls:List (List Int)):(ls.flatMap fun l=>(List.range b).map fun(f:Nat)=>l++[(f:Int)]).length=ls.length*b:=by
 rw[List.length_flatMap]
 have:(List.map (fun l:List Int=>((List.range b).map fun(f:Nat)=>l++[(f:Int)]).length) ls)=List.replicate ls.length b:=by
  rw[List.map_congr_left (g:=fun _=>b) (fun l _=>by simp)]
  exact List.map_const' ..
 rw[this,List.sum_replicate_nat]
def Al:Sp:=fun vs H Q _=>∃(b n:Nat),vs=[.int b,.int n]∧b≤4∧n≤4∧∀(D:Addr) (ps:List Addr) (H':Hp),H D=none→Same H H'→H' D=some (.lst (ps.map V.ref))→bD H' ps (lets b n)→Q (.ref D) H'
theorem dC:aY ["base","many","letters","spot","longer","letter"] ["base","many"] (aq dm):=⟨rfl,rfl,rfl,by decide+kernel,rfl,by decide+kernel,by decide+kernel⟩
theorem iL {b n:Nat} (hb:b≤4) (hn:n≤4):b ^ n≤256:=
 Nat.le_trans (Nat.pow_le_pow_left hb n) (Nat.pow_le_pow_right (by decide) hn)
theorem kG {a:eK} (T:Txt K mg a):bR P w K mg base dr 1 a.gj a.h_ ["base","many"] Al:=by
 refine T.rZ.ok dC (fun vs H Q E h=>?_) (fun cdv A outer s H vs Q E hr h=>?_)
 ·obtain⟨b,n,rfl,_⟩:=h
  rfl
 ·obtain⟨b,n,rfl,hb,hn,k⟩:=h
  refine⟨_,(ah (aC (i:=2) dC.nd rfl (Or.inl rfl) (bx (ae (bX ag) ag)))
  (ah (bh PassesOwn.never rfl (cp rfl T.cw (ae (pv 1) ag)) (az (i:=3) dC.nd rfl (Or.inl rfl))
   (ah (aC (i:=4) dC.nd rfl (Or.inl rfl) (bx ag))
   (ah (bh PassesOwn.never rfl (c_ (pv 2)) (az (i:=5) dC.nd rfl (Or.inr rfl))
    (ax (bI (cE PySem.F.plainAttrs_list PySem.F.slot_list_extend PySem.F.type_list_extend jM (pv 4) (ae (cg (aJ.mk' (esc:=aq dm) (N:=["base","many","letters","spot","longer","letter"]) (own:=["figure"]) (bu:=["letter"]) (bB:=[5]) rfl rfl (by decide+kernel)) rfl (cp rfl T.cw (ae (pv 0) ag)) (fun _ _ _ _=>(az (i:=0) (show List.Nodup (["figure","letter"]:List Str) by decide+kernel) rfl (Or.inl rfl))) (fun _ _ _ _=>bM) (fun _ _ _ _=>(aF (Bv K) (pv 1) (bX (ae (pv 0) ag))))) ag)))))
   (ax (aC (i:=2) dC.nd rfl (Or.inl rfl) (pv 4))))))
  (ax (aS (pv 2))))),?_⟩
  refine⟨by decide,fun p hp=>⟨by show 1≤sizeLine;decide,fun D hD=>?_⟩⟩
  have P8:H D=none:=(Same.new hp).free hD
  refine⟨_,rfl,n,rfl,by omega,by omega,dR (lo:=0) (n:=(n:Int).toNat) (fun i σ H'=>∃(D:Addr) (ps:List Addr) (v3 v4 v5:Option V),σ=[some (.int b),some (.int n),some (.ref D),v3,v4,v5]∧H D=none∧Same H H'∧H' D=some (.lst (ps.map V.ref))∧bD H' ps (lets b i))
   ⟨D,[p],none,none,none,rfl,P8,(Same.new hp).trans (Same.new hD),af,.cons (by rw[ao (ay (o:=.tup []) af hD)];exact af) .nil⟩ ?_ ?_⟩
  ·rintro i σ H1 hi ⟨D,ps,v3,v4,v5,rfl,hD,s1,eD,t1⟩
   rw[Int.toNat_natCast] at hi
   have lps:ps.length=b ^ i:=by rw[Paired.length t1,jB]
   have bi:b ^ i≤256:=iL hb (by omega)
   have TH:b ^ (i+1)≤256:=iL hb (by omega)
   refine⟨by decide,fun E hE=>?_⟩
   have J':H E=none:=s1.free hE
   have GR:D≠E:=ay eD hE
   refine⟨_,rfl,D,rfl,⟨ps.map V.ref,.of (by rw[ao GR];exact eD)⟩,g_ (xs:=ps.map V.ref) (fun j σ H'=>∃(qs:List Addr) (v5:Option V),σ=[some (.int b),some (.int n),some (.ref D),some (.int (0+(i:Int))),some (.ref E),v5]∧
     Same H H'∧H' D=some (.lst (ps.map V.ref))∧bD H' ps (lets b i)∧H' E=some (.lst (qs.map V.ref))∧bD H' qs (((lets b i).take j).flatMap fun l=>(List.range b).map fun(f:Nat)=>l++[(f:Int)]))
    ⟨[],v5,rfl,s1.trans (Same.new hE),by rw[ao GR];exact eD,t1.keep (Same.new hE).kt,af,.nil⟩ (fun j σ H' _ ⟨_,_,_,_,h,_⟩=>.of h) ?_ ?_⟩
   ·rintro j y σ H2 hj ⟨qs,v5,rfl,s2,GS,t2,Am,u2⟩
    rw[List.getElem?_map] at hj
    cases ep:ps[j]? with
    | none=>rw[ep] at hj;cases hj
    | some p=>
     rw[ep] at hj
     have ey:y=.ref p:=(Option.some.inj hj).symm
     subst ey
     obtain⟨l,el,hl⟩:=t2.get ep
     have TJ:j<ps.length:=(List.getElem?_eq_some_iff.mp ep).1
     refine⟨_,rfl,.inl ⟨rfl,_,.of Am⟩,_,rfl,b,rfl,by omega,by omega,fun C hC=>?_⟩
     have TK:E≠C:=ay Am hC
     have TL:D≠C:=ay GS hC
     refine fJ (fun f σ H'=>∃(rs:List Addr) (v:Option V),σ=[v,some (.ref p)]∧Same H2 H'∧H' C=some (.lst (rs.map V.ref))∧bD H' rs ((List.range f).map fun(f:Nat)=>l++[(f:Int)]))
      ⟨[],none,rfl,Same.new hC,af,.nil⟩ ?_ ?_
     ·rintro f σ H3 hf ⟨rs,v,rfl,s3,n6,t3⟩
      refine⟨_,rfl,_,rfl,by show 1≤sizeLine;decide,fun q hq=>?_⟩
      have lrs:rs.length=f:=by rw[Paired.length t3];simp
      have GU:C≠q:=ay n6 hq
      have ll:l.length=i:=uT b i l (List.mem_of_getElem? el)
      have e0:(0:Int)+(f:Int)=(f:Int):=by omega
      have hq2:H2 q=none:=s3.free hq
      have Ka:(rs.map V.ref).length<sizeLine:=by rw[List.length_map,lrs];exact Nat.lt_of_lt_of_le (show f<10 by omega) (by decide)
      have s4:Same H2 (upd H3 q (.tup [.int (0+(f:Int))])):=s3.trans (Same.new hq)
      have t4:=t3.keep (Same.new (o:=.tup [.int (0+(f:Int))]) hq).kt
      refine⟨p,q,l.map V.int,[.int (0+(f:Int))],rfl,rfl,.of (s4 _ _ hl),.of af,by simp,?_,fun hl0=>?_,fun hl0 r hr=>?_⟩
      ·rw[List.length_map,ll];exact Nat.le_trans (show i+1≤10 by omega) (by decide)
      ·have hl1:l=[]:=by cases l with | nil=>rfl | cons _ _=>cases hl0
       subst hl1
       have uU:(upd H3 q (.tup [.int (0+(f:Int))])) C=some (.lst (rs.map V.ref)):=by rw[ao GU];exact n6
       refine⟨rs.map V.ref,uU,Ka,rs++[q],_,rfl,?_,by rw[af,List.map_append];rfl,?_⟩
       ·exact s4.kbn hC KB.write
       ·rw[List.range_succ,List.map_append]
        refine dk (t4.keep (cH.lst uU)) (.cons (cH.lst uU _ _ ?_) .nil)
        rw[af]
        simp
      ·have P9:C≠r:=ay (by rw[ao GU];exact n6) hr
       have uU:(upd (upd H3 q (.tup [.int (0+(f:Int))])) r (.tup (l.map V.int++[.int (0+(f:Int))]))) C=some (.lst (rs.map V.ref)):=by rw[ao P9,ao GU];exact n6
       refine⟨rs.map V.ref,uU,Ka,rs++[r],_,rfl,?_,by rw[af,List.map_append];rfl,?_⟩
       ·exact(s4.trans (Same.new hr)).kbn hC KB.write
       ·rw[List.range_succ,List.map_append]
        refine dk ((t4.keep (Same.new hr).kt).keep (cH.lst uU)) (.cons (cH.lst uU _ _ ?_) .nil)
        rw[af]
        simp
     ·rintro σ H3 ⟨rs,v,rfl,s3,n6,t3⟩
      have lrs:rs.length=b:=by rw[Paired.length t3];simp
      have oh:qs.length≤1024:=by
       rw[Paired.length u2,B6,List.length_take]
       have:=Nat.mul_le_mul (show min j (lets b i).length≤256 by rw[jB];omega) hb
       omega
      have Kb:=s3 _ _ Am
      refine⟨E,C,qs.map V.ref,rs.map V.ref,rfl,rfl,Kb,n6,?_,?_⟩
      ·rw[List.length_map,List.length_map,lrs];exact Nat.le_trans (show qs.length+b≤2000 by omega) (by decide)
      ·have kt:=cH.lst (o:=.lst (qs.map V.ref++rs.map V.ref)) Kb
       refine⟨qs++rs,_,rfl,(s2.trans s3).kbn J' KB.write,?_,(t2.keep s3.kt).keep kt,?_,?_⟩
       ·rw[ao GR];exact s3 _ _ GS
       ·rw[af,List.map_append]
       ·have e1:(lets b i).take (j+1)=(lets b i).take j++[l]:=by rw[List.take_add_one,el];rfl
        rw[e1,List.flatMap_append]
        refine dk ((u2.keep s3.kt).keep kt) ?_
        rw[List.flatMap_singleton]
        have:=t3.keep kt
        rwa [show((b:Nat):Int).toNat=b from Int.toNat_natCast b] at this
   ·rintro σ H2 ⟨qs,v5,rfl,s2,GS,t2,Am,u2⟩
    refine⟨_,rfl,E,qs,_,_,_,rfl,J',s2,Am,?_⟩
    have e1:(lets b i).take (ps.map V.ref).length=lets b i:=by rw[List.length_map,Paired.length t2];exact List.take_length ..
    rw[e1] at u2
    exact u2
  ·rintro σ H1 ⟨D,ps,v3,v4,v5,rfl,hD,s1,eD,t1⟩
   exact⟨_,rfl,k D ps H1 hD s1 eD (by rwa [Int.toNat_natCast] at t1)⟩
def bO (H:Hp) (as:List Addr) (xss:List (List Nat)):Prop:=Paired (fun(b:Addr) (l:List Nat)=>H b=some (.lst ((aj l).map V.int))) as xss
theorem bO.keep {H H':Hp} {as:List Addr} {xss:List (List Nat)} (h:bO H as xss) (k:∀b∈as,∀o,H b=some o→H' b=some o):bO H' as xss:=by
 unfold bO at h ⊢
 induction h with
 | nil=>exact .nil
 | cons r t ih=>exact .cons (k _ List.mem_cons_self _ r) (ih fun b hb=>k b (List.mem_cons_of_mem _ hb))
theorem bO.at {H:Hp} {as:List Addr} {xss:List (List Nat)} {i:Nat} {b:Addr} (h:bO H as xss) (hi:as[i]? =some b):∃l,xss[i]? =some l∧H b=some (.lst ((aj l).map V.int)):=dW h hi
theorem bO.back {H:Hp}:∀{as:List Addr} {xss:List (List Nat)} {i:Nat} {l:List Nat},bO H as xss→xss[i]? =some l→∃b,as[i]? =some b∧H b=some (.lst ((aj l).map V.int))
 | _,_,_,_,.nil,e=>by simp at e
 | _,_,0,_,.cons r _,e=>by simp at e;subst e;exact⟨_,rfl,r⟩
 | _,_,i+1,_,.cons _ t,e=>by
  simp only[List.getElem?_cons_succ] at e ⊢
  exact bO.back t e
theorem bO.snoc {H:Hp} {as:List Addr} {xss:List (List Nat)} {b:Addr} {l:List Nat} (h:bO H as xss) (e:H b=some (.lst ((aj l).map V.int))):bO H (as++[b]) (xss++[l]):=by
 unfold bO at h ⊢
 induction h with
 | nil=>exact .cons e .nil
 | cons r t ih=>exact .cons r ih
theorem bO.mem {H:Hp} {as:List Addr} {xss:List (List Nat)} {b:Addr} (h:bO H as xss) (hb:b∈as):∃l,H b=some (.lst ((aj l).map V.int)):=by
 obtain⟨i,hi⟩:=List.getElem?_of_mem hb
 obtain⟨l,_,e⟩:=h.at hi
 exact⟨l,e⟩
theorem bO.set {H:Hp}:∀{as:List Addr} {xss:List (List Nat)} {i:Nat} {b:Addr} {l:List Nat},bO H as xss→as.Nodup→as[i]? =some b→bO (upd H b (.lst ((aj l).map V.int))) as (xss.set i l)
 | _,_,_,_,_,.nil,_,e=>by simp at e
 | a::as,x::xss,0,b,l,.cons r t,nd,e=>by
  simp at e;subst e
  refine .cons af (bO.keep t fun c hc o q=>?_)
  rw[ao (fun z:c=a=>(List.nodup_cons.mp nd).1 (z▸hc))];exact q
 | a::as,x::xss,i+1,b,l,.cons r t,nd,e=>by
  simp only[List.getElem?_cons_succ] at e
  refine .cons ?_ (bO.set t (List.nodup_cons.mp nd).2 e)
  rw[ao (fun z:a=b=>(List.nodup_cons.mp nd).1 (z▸List.mem_of_getElem? e))];exact r
def gn (mv:List (List Nat)) (n x i:Nat):List (List Nat):=(List.range n).map fun t=>(List.range i).filter fun r=>stp mv r x == t
theorem lF {mv:List (List Nat)} {n x i t:Nat} (h:t<n):(gn mv n x i)[t]? =some ((List.range i).filter fun r=>stp mv r x == t):=by
 unfold gn
 rw[List.getElem?_map,List.getElem?_range h];rfl
theorem yk {mv:List (List Nat)} {n x i:Nat} (h:stp mv i x<n):gn mv n x (i+1)=(gn mv n x i).set (stp mv i x) (((List.range i).filter fun r=>stp mv r x == stp mv i x)++[i]):=by
 have ln:∀j,(gn mv n x j).length=n:=fun j=>by unfold gn;rw[List.length_map,List.length_range]
 refine List.ext_getElem? fun t=>?_
 by_cases ht:t<n
 ·rw[lF ht]
  by_cases e:t=stp mv i x
  ·subst e
   rw[List.getElem?_set_self (by rw[ln];exact h),List.range_succ,List.filter_append]
   congr 2
   simp
  ·rw[List.getElem?_set_ne (Ne.symm e),lF ht,List.range_succ,List.filter_append]
   congr 1
   have:(stp mv i x == t)=false:=beq_false_of_ne (Ne.symm e)
   simp[this]
 ·rw[List.getElem?_eq_none (by rw[ln];omega),List.getElem?_eq_none (by rw[List.length_set,ln];omega)]
def GV (K:PySem.W.Frag):Sp:=fun vs H Q _=>∃(va:Addr) (ps:List Addr) (mv:List (List Nat)) (n B x:Nat),vs=[.ref va,.int x]∧H va=some (.tup (ps.map V.ref))∧bD H ps (mv.map aj)∧Moves n B mv∧x<B∧n≤1000∧
 ∀(t:Addr) (as:List Addr) (H':Hp),H t=none→(∀b∈as,H b=none)→as.Nodup→t ∉ as→Same H H'→H' t=some (.lst (as.map V.ref))→bO H' as (gn mv n x n)→Q (.ref t) H'
theorem gq:aY ["moves","letter","into","room","leads"] ["moves","letter"] (aq dD):=⟨rfl,rfl,rfl,by decide+kernel,rfl,by decide+kernel,by decide+kernel⟩
theorem sh {a:eK} (T:Txt K mg a):bR P w K mg base dr 1 a.gL a.iP ["moves","letter"] (GV K):=by
 refine T.uv.ok gq (fun vs H Q E h=>?_) (fun cdv A outer s H vs Q E hr h=>?_)
 ·obtain⟨va,ps,mv,n,B,x,rfl,_⟩:=h
  rfl
 ·obtain⟨va,ps,mv,n,B,x,rfl,e3,tp,dZ,hx,hn,k⟩:=h
  refine⟨_,(ah (dU (i:=2) (aJ.mk' (esc:=aq dD) (N:=["moves","letter","into","room","leads"]) (own:=["leads"]) (bu:=[]) (bB:=[]) rfl rfl (by decide+kernel)) rfl (f_ (pv 0)) (fun _ _ _ _=>(az (i:=0) (show List.Nodup (["leads"]:List Str) by decide+kernel) rfl (Or.inl rfl))) (fun _ _ _ _=>bM) (fun _ _ _ _=>(bx ag)) gq.nd rfl rfl)
  (ah (bh PassesOwn.never rfl (jq rfl T.cX (ae (pv 0) ag)) (dQ rfl (aK (az (i:=3) gq.nd rfl (Or.inl rfl)) (aK (az (i:=4) gq.nd rfl (Or.inl rfl)) bV)))
   (ax (bI (cE PySem.F.plainAttrs_list PySem.F.slot_list_append PySem.F.type_list_append bz (aE (aM K) (pv 2) (aE (aP K) (pv 4) (pv 1) (fun _ _=>rfl)) (fun _ _=>rfl)) (ae (pv 3) ag)))))
  (ax (aS (pv 2))))),?_⟩
  have big:(2000:Nat)≤sizeLine:=by decide
  have lps:ps.length=n:=by rw[Paired.length tp,List.length_map,dZ.len]
  refine⟨_,rfl,va,rfl,⟨_,.of e3⟩,fun L hL=>?_⟩
  refine jl (xs:=ps.map V.ref) (fun j σ H'=>∃(v:Option V) (as:List Addr),σ=[v]∧Same H H'∧H' L=some (.lst (as.map V.ref))∧as.length=j∧(∀b∈as,H b=none)∧as.Nodup∧L ∉ as∧bO H' as ((List.range j).map fun _=>[]))
   ⟨none,[],?sg,Same.new hL,af,rfl,fun b hb=>(by cases hb),by simp,by simp,.nil⟩ (fun j σ H' _ ⟨_,_,_,s',_⟩=>.of (s' _ _ e3)) ?_ ?_
  case sg=>rfl
  ·rintro j y σ H1 hy ⟨v,as,rfl,s1,l1,la,fr,nd,nl,ls⟩
   have hj:j<n:=by
    have:=(List.getElem?_eq_some_iff.mp hy).1
    rw[List.length_map,lps] at this;exact this
   refine⟨by show 0≤sizeLine;omega,fun b hb=>?_⟩
   have An:L≠b:=ay l1 hb
   have sb:=Same.new (o:=.lst []) hb
   have bn:b ∉ as:=fun z=>by obtain⟨l,e⟩:=ls.mem z;rw[hb] at e;cases e
   refine⟨_,sb _ _ l1,by rw[List.length_map];omega,_,as++[b],rfl,(s1.trans sb).kbn hL KB.write,by rw[af,List.map_append];rfl,by rw[List.length_append,la];rfl,fun c hc=>?_,?_,?_,?_⟩
   ·rcases List.mem_append.mp hc with z | z
    ·exact fr c z
    ·rw[List.mem_singleton.mp z];exact s1.free hb
   ·rw[List.nodup_append]
    exact⟨nd,by simp,fun x hx y hy e=>bn (by rw[←List.mem_singleton.mp hy,←e];exact hx)⟩
   ·intro z
    rcases List.mem_append.mp z with z | z
    ·exact nl z
    ·exact An (List.mem_singleton.mp z)
   ·rw[List.range_succ,List.map_append]
    refine bO.snoc (ls.keep fun c hc o q=>?_) ?_
    ·rw[ao (fun z:c=L=>nl (z▸hc))];exact sb _ _ q
    ·rw[ao An.symm,af];rfl
  rintro σ H1 ⟨v,as,rfl,s1,l1,la,fr,nd,nl,ls⟩
  rw[List.length_map,lps] at la ls
  have e0:((List.range n).map fun _=>([]:List Nat))=gn mv n x 0:=by unfold gn;simp
  rw[e0] at ls
  dsimp only[aH]
  refine⟨_,rfl,_,rfl,⟨_,.of (s1 _ _ e3)⟩,?_⟩
  refine jU (xs:=ps.map V.ref) (fun i σ H'=>∃v3 v4:Option V,σ=[some (.ref va),some (.int (x:Nat)),some (.ref L),v3,v4]∧Same H H'∧H' L=some (.lst (as.map V.ref))∧bO H' as (gn mv n x i))
   ⟨none,none,rfl,s1,l1,ls⟩ (fun i σ H' _ ⟨_,_,_,s',_⟩=>.of (s' _ _ e3)) ?_ ?_
  ·rintro i y p σ H2 hy ⟨v3,v4,rfl,s2,l2,lY⟩ hp
   obtain⟨q,rfl,eq⟩:=cV hy
   have hi:i<n:=by rw[←lps];exact(List.getElem?_eq_some_iff.mp eq).1
   obtain⟨r1,r2,r3⟩:=dZ.row (tp.keep s2.kt) hi
   rw[r1] at eq
   have eq':=Option.some.inj eq
   subst eq'
   have sp:=Same.new (o:=.tup [.int (i:Nat),.ref (ps.getD i 0)]) hp
   have hst:=dZ.stp hi hx
   have ex:((aj (mv.getD i [])).map V.int)[x]? =some (.int (stp mv i x:Nat)):=dv (by rw[r3];exact hx)
   obtain⟨b,hb⟩:∃b,as[stp mv i x]? =some b:=⟨_,List.getElem?_eq_getElem (by rw[la];exact hst)⟩
   obtain⟨l,el,hl⟩:=lY.at hb
   rw[lF hst] at el
   have Kc:=Option.some.inj el
   have bL:L≠b:=fun z=>nl (z▸List.mem_of_getElem? hb)
   have ym:H b=none:=fr b (List.mem_of_getElem? hb)
   refine⟨p,_,rfl,.of af,rfl,_,_,rfl,_,_,rfl,rfl,?_⟩
   refine⟨_,rfl,_,rfl,_,rfl,_,_,_,_,rfl,rfl,.of (sp _ _ r2),aD ex,L,_,_,V.ref b,rfl,rfl,.of (sp _ _ l2),aD (by rw[List.getElem?_map,hb];rfl),Or.inl ⟨rfl,_,.of (sp _ _ hl)⟩,_,rfl,b,_,_,rfl,rfl,sp _ _ hl,?_,?_⟩
   ·rw[List.length_map,aA,←Kc]
    have:=List.length_filter_le (fun r=>stp mv r x == stp mv i x) (List.range i)
    rw[List.length_range] at this
    omega
   ·refine⟨_,_,rfl,(s2.trans sp).kbn ym KB.write,by rw[ao bL];exact sp _ _ l2,?_⟩
    rw[yk hst,Kc]
    have:=bO.set (l:=l++[i]) (lY.keep fun c _ o q=>sp c o q) nd hb
    rw[bt,List.map_append] at this
    exact this
  ·rintro σ H2 ⟨v3,v4,rfl,s2,l2,lY⟩
   rw[List.length_map,lps] at lY
   exact⟨_,rfl,k L as H2 hL fr nd nl s2 l2 lY⟩
structure mV (n:Nat) (mv:List (List Nat)) (cs:List Nat) (i j:Nat) (d_:List (List Nat)):Prop where
 len:d_.length=n
 size:∀(u:Nat) (l:List Nat),d_[u]? =some l→l.length≤i*cs.length+j
 mem:∀(u:Nat) (l:List Nat),d_[u]? =some l→∀r,r∈l↔(r<i∧∃c∈cs,stp mv r c=u)∨(r=i∧∃c∈cs.take j,stp mv i c=u)
theorem mV.begin {n:Nat} {mv:List (List Nat)} {cs:List Nat}:mV n mv cs 0 0 ((List.range n).map fun _=>[]):=by
 refine⟨by simp,fun u l h=>?_,fun u l h r=>?_⟩
 ·rw[List.getElem?_map] at h
  obtain⟨_,_,rfl⟩:=Option.map_eq_some_iff.mp h
  simp
 ·rw[List.getElem?_map] at h
  obtain⟨_,_,rfl⟩:=Option.map_eq_some_iff.mp h
  simp
theorem mV.put {n:Nat} {mv:List (List Nat)} {cs:List Nat} {i j c:Nat} {d_:List (List Nat)} {l:List Nat} (h:mV n mv cs i j d_) (hc:cs[j]? =some c) (hl:d_[stp mv i c]? =some l):mV n mv cs i (j+1) (d_.set (stp mv i c) (l++[i])):=by
 have hlt:=(List.getElem?_eq_some_iff.mp hl).1
 have tk:∀P:Nat→Prop,(∃x∈cs.take (j+1),P x)↔(∃x∈cs.take j,P x)∨P c:=fun P=>by
  rw[take_snoc hc]
  constructor
  ·rintro⟨x,hx,p⟩
   rcases List.mem_append.mp hx with z | z
   ·exact .inl ⟨x,z,p⟩
   ·rw[List.mem_singleton.mp z] at p;exact .inr p
  ·rintro(⟨x,hx,p⟩ | p)
   ·exact⟨x,List.mem_append.mpr (.inl hx),p⟩
   ·exact⟨c,List.mem_append.mpr (.inr (List.mem_singleton.mpr rfl)),p⟩
 refine⟨by rw[List.length_set];exact h.len,fun u m hm=>?_,fun u m hm r=>?_⟩
 ·by_cases e:stp mv i c=u
  ·subst e
   rw[List.getElem?_set_self hlt] at hm
   have:=Option.some.inj hm
   subst this
   have:=h.size _ _ hl
   rw[List.length_append,List.length_singleton];omega
  ·rw[List.getElem?_set_ne e] at hm
   have:=h.size _ _ hm
   omega
 ·rw[tk]
  by_cases e:stp mv i c=u
  ·subst e
   rw[List.getElem?_set_self hlt] at hm
   have:=Option.some.inj hm
   subst this
   rw[List.mem_append,h.mem _ _ hl r,List.mem_singleton]
   constructor
   ·rintro((z | ⟨z,y⟩) | z)
    ·exact .inl z
    ·exact .inr ⟨z,.inl y⟩
    ·exact .inr ⟨z,.inr rfl⟩
   ·rintro(z | ⟨z,y | y⟩)
    ·exact .inl (.inl z)
    ·exact .inl (.inr ⟨z,y⟩)
    ·exact .inr z
  ·rw[List.getElem?_set_ne e] at hm
   rw[h.mem _ _ hm r]
   refine or_congr Iff.rfl (and_congr Iff.rfl ?_)
   exact⟨.inl,fun z=>z.elim id fun y=>absurd y e⟩
theorem mV.next {n:Nat} {mv:List (List Nat)} {cs:List Nat} {i:Nat} {d_:List (List Nat)} (h:mV n mv cs i cs.length d_):mV n mv cs (i+1) 0 d_:=by
 refine⟨h.len,fun u l hl=>?_,fun u l hl r=>?_⟩
 ·have:=h.size u l hl
  rw[Nat.add_mul,Nat.one_mul];omega
 ·rw[h.mem u l hl r,List.take_length,List.take_zero]
  constructor
  ·rintro(⟨z,y⟩ | ⟨z,y⟩)
   ·exact .inl ⟨by omega,y⟩
   ·subst z;exact .inl ⟨by omega,y⟩
  ·rintro(⟨z,y⟩ | ⟨_,_,z,_⟩)
   ·by_cases e:r=i
    ·subst e;exact .inr ⟨rfl,y⟩
    ·exact .inl ⟨by omega,y⟩
   ·cases z
def C7 (H:Hp) (m nm y v:Addr) (ps:List Addr) (bs:List Bool) (mv:List (List Nat)) (B:Nat):Prop:=H m=some (.tup [.ref nm,.ref y,.ref v])∧H y=some (.lst (bs.map V.bl))∧H v=some (.tup (ps.map V.ref))∧bD H ps (mv.map aj)∧Moves bs.length B mv
def JD:Sp:=fun vs H Q _=>∃(m nm y v lt:Addr) (ps:List Addr) (bs:List Bool) (mv:List (List Nat)) (B:Nat) (cs:List Nat),vs=[.ref m,.ref lt]∧C7 H m nm y v ps bs mv B∧H lt=some (.lst ((aj cs).map V.int))∧(∀c∈cs,c<B)∧bs.length≤60∧cs.length≤300∧
 ∀(t:Addr) (as:List Addr) (d_:List (List Nat)) (H':Hp),Same H H'→H' t=some (.lst (as.map V.ref))→bO H' as d_→d_.length=bs.length→(∀(u:Nat) (l:List Nat),d_[u]? =some l→l.length≤20000∧∀r,r∈l↔r<bs.length∧∃c∈cs,stp mv r c=u)→Q (.ref t) H'
theorem ez:aY ["machine","letters","before","room","leads","letter"] ["machine","letters"] (aq cU):=⟨rfl,rfl,rfl,by decide+kernel,rfl,by decide+kernel,by decide+kernel⟩
set_option maxHeartbeats 16000000 in
theorem pJ {a:eK} (T:Txt K mg a):bR P w K mg base dr 1 a.fL a.gK ["machine","letters"] JD:=by
 refine T.qk.ok ez (fun vs H Q E h=>?_) (fun cdv A outer s H vs Q E hr h=>?_)
 ·obtain⟨m,nm,y,v,lt,ps,bs,mv,B,cs,rfl,_⟩:=h
  rfl
 ·obtain⟨m,nm,y,v,lt,ps,bs,mv,B,cs,rfl,⟨e1,e2,e3,tp,dZ⟩,elt,hcs,hn,hc3,k⟩:=h
  refine⟨_,(ah (dU (i:=2) (aJ.mk' (esc:=aq cU) (N:=["machine","letters","before","room","leads","letter"]) (own:=["room"]) (bu:=[]) (bB:=[]) rfl rfl (by decide+kernel)) rfl (c_ (aE (aP K) (pv 0) ak (fun _ _=>rfl))) (fun _ _ _ _=>(az (i:=0) (show List.Nodup (["room"]:List Str) by decide+kernel) rfl (Or.inl rfl))) (fun _ _ _ _=>bM) (fun _ _ _ _=>(bx ag)) ez.nd rfl rfl)
  (ah (bh PassesOwn.never rfl (jq rfl T.cX (ae (aE (aP K) (pv 0) ak (fun _ _=>rfl)) ag)) (dQ rfl (aK (az (i:=3) ez.nd rfl (Or.inl rfl)) (aK (az (i:=4) ez.nd rfl (Or.inl rfl)) bV)))
   (ax (bh PassesOwn.never rfl (c_ (pv 1)) (az (i:=5) ez.nd rfl (Or.inl rfl))
    (ax (bI (cE PySem.F.plainAttrs_list PySem.F.slot_list_append PySem.F.type_list_append bz (aE (aM K) (pv 2) (aE (aP K) (pv 4) (pv 5) (fun _ _=>rfl)) (fun _ _=>rfl)) (ae (pv 3) ag)))))))
  (ax (aS (pv 2))))),?_⟩
  have big:(100000:Nat)≤sizeLine:=by decide
  have lps:ps.length=bs.length:=by rw[Paired.length tp,List.length_map,dZ.len]
  refine aI fun Y hY=>?_
  refine⟨_,rfl,m,_,_,.ref y,rfl,rfl,.of e1,aD (j:=1) rfl,y,rfl,⟨_,.of e2⟩,fun L hL=>?_⟩
  refine ft (xs:=bs.map V.bl) (fun j σ H'=>∃(v:Option V) (as:List Addr),σ=[v]∧Same H H'∧H' L=some (.lst (as.map V.ref))∧as.length=j∧(∀b∈as,H b=none)∧as.Nodup∧L ∉ as∧bO H' as ((List.range j).map fun _=>[]))
   ⟨none,[],?sg,Same.new hL,af,rfl,fun b hb=>(by cases hb),by simp,by simp,.nil⟩ (fun j σ H' _ ⟨_,_,_,s',_⟩=>.of (s' _ _ e2)) ?_ ?_
  case sg=>rfl
  ·rintro j y σ H1 hy ⟨v,as,rfl,s1,l1,la,fr,nd,nl,ls⟩
   have hj:j<bs.length:=by
    have:=(List.getElem?_eq_some_iff.mp hy).1
    rw[List.length_map] at this;exact this
   refine⟨by show 0≤sizeLine;omega,fun b hb=>?_⟩
   have An:L≠b:=ay l1 hb
   have sb:=Same.new (o:=.lst []) hb
   have bn:b ∉ as:=fun z=>by obtain⟨l,e⟩:=ls.mem z;rw[hb] at e;cases e
   refine⟨_,sb _ _ l1,by rw[List.length_map];omega,_,as++[b],rfl,(s1.trans sb).kbn hL KB.write,by rw[af,List.map_append];rfl,by rw[List.length_append,la];rfl,fun c hc=>?_,?_,?_,?_⟩
   ·rcases List.mem_append.mp hc with z | z
    ·exact fr c z
    ·rw[List.mem_singleton.mp z];exact s1.free hb
   ·rw[List.nodup_append]
    exact⟨nd,by simp,fun x hx y hy e=>bn (by rw[←List.mem_singleton.mp hy,←e];exact hx)⟩
   ·intro z
    rcases List.mem_append.mp z with z | z
    ·exact nl z
    ·exact An (List.mem_singleton.mp z)
   ·rw[List.range_succ,List.map_append]
    refine bO.snoc (ls.keep fun c hc o q=>?_) ?_
    ·rw[ao (fun z:c=L=>nl (z▸hc))];exact sb _ _ q
    ·rw[ao An.symm,af];rfl
  rintro σ H1 ⟨v0,as,rfl,s1,l1,la,fr,nd,nl,ls⟩
  rw[List.length_map] at la ls
  dsimp only[aH]
  subst hY
  refine aI fun Y hY=>?_
  refine⟨_,rfl,m,_,_,.ref v,rfl,rfl,.of (s1 _ _ e1),aD (j:=2) rfl,_,rfl,⟨_,.of (s1 _ _ e3)⟩,?_⟩
  refine jU (xs:=ps.map V.ref) (fun i σ H'=>∃(v3 v4 v5:Option V) (d_:List (List Nat)),σ=[some (.ref m),some (.ref lt),some (.ref L),v3,v4,v5]∧Same H H'∧H' L=some (.lst (as.map V.ref))∧bO H' as d_∧mV bs.length mv cs i 0 d_)
   ⟨none,none,none,_,rfl,s1,l1,ls,mV.begin⟩ (fun i σ H' _ ⟨_,_,_,_,_,s',_⟩=>.of (s' _ _ e3)) ?_ ?_
  ·rintro i z p σ H2 hy ⟨v3,v4,v5,d_,rfl,s2,l2,lY,wW⟩ hp
   obtain⟨q,rfl,eq⟩:=cV hy
   have hi:i<bs.length:=by rw[←lps];exact(List.getElem?_eq_some_iff.mp eq).1
   obtain⟨r1,r2,r3⟩:=dZ.row (tp.keep s2.kt) hi
   rw[r1] at eq
   have eq':=Option.some.inj eq
   subst eq'
   have sp:=Same.new (o:=.tup [.int (i:Nat),.ref (ps.getD i 0)]) hp
   refine⟨p,_,rfl,.of af,rfl,_,_,rfl,_,_,rfl,rfl,?_⟩
   have Kd:=s2.trans sp
   refine⟨_,rfl,_,rfl,⟨_,.of (Kd _ _ elt)⟩,?_⟩
   refine rh (xs:=(aj cs).map V.int) (fun j σ H'=>∃(v5:Option V) (d_:List (List Nat)),σ=[some (.ref m),some (.ref lt),some (.ref L),some (.int (i:Nat)),some (.ref (ps.getD i 0)),v5]∧Same H H'∧H' L=some (.lst (as.map V.ref))∧bO H' as d_∧mV bs.length mv cs i j d_)
    ⟨_,_,rfl,Kd,sp _ _ l2,lY.keep fun c _ o q=>sp _ _ q,wW⟩ (fun j σ H' _ ⟨_,_,_,s',_⟩=>.of (s' _ _ elt)) ?_ ?_
   ·rintro j z σ H3 M2 Qa hz ⟨v5,Qb,rfl,s3,l3,C8,Ao⟩
    have hj:j<cs.length:=by
     have:=(List.getElem?_eq_some_iff.mp hz).1
     rw[List.length_map,aA] at this;exact this
    rw[dv hj] at hz
    have hz':=Option.some.inj hz
    subst hz'
    have ej:=item_at 0 hj
    have hcB:=hcs _ (List.mem_of_getElem? ej)
    obtain⟨_,x2,_⟩:=dZ.row (tp.keep s3.kt) hi
    have hst:=dZ.stp hi hcB
    have ex:((aj (mv.getD i [])).map V.int)[cs.getD j 0]? =some (.int (stp mv i (cs.getD j 0):Nat)):=dv (by rw[r3];exact hcB)
    obtain⟨b,hb⟩:∃b,as[stp mv i (cs.getD j 0)]? =some b:=⟨_,List.getElem?_eq_getElem (by rw[la];exact hst)⟩
    obtain⟨l,el,hl⟩:=C8.at hb
    have bL:L≠b:=fun z=>nl (z▸List.mem_of_getElem? hb)
    have ym:H b=none:=fr b (List.mem_of_getElem? hb)
    have lz:=Ao.size _ _ el
    have iz:i*cs.length≤60*300:=Nat.mul_le_mul (by omega) hc3
    refine⟨_,rfl,_,rfl,_,rfl,_,_,_,_,rfl,rfl,.of x2,aD ex,L,_,_,V.ref b,rfl,rfl,.of l3,aD (by rw[List.getElem?_map,hb];rfl),Or.inl ⟨rfl,_,.of hl⟩,_,rfl,b,_,_,rfl,rfl,hl,?_,?_⟩
    ·rw[List.length_map,aA];omega
    ·refine Qa _ _ ⟨_,_,rfl,s3.kbn ym KB.write,by rw[ao bL];exact l3,?_,Ao.put ej el⟩
     have:=bO.set (l:=l++[i]) C8 nd hb
     rw[bt,List.map_append] at this
     exact this
   ·rintro σ H3 ⟨v5,Qb,rfl,s3,l3,C8,Ao⟩
    rw[List.length_map,aA] at Ao
    exact⟨_,_,_,_,rfl,s3,l3,C8,Ao.next⟩
  ·rintro σ H2 ⟨v3,v4,v5,d_,rfl,s2,l2,lY,wW⟩
   rw[List.length_map,lps] at wW
   subst hY
   refine⟨_,rfl,k L as d_ H2 s2 l2 lY wW.len fun u l hl=>⟨?_,fun r=>?_⟩⟩
   ·have:=wW.size u l hl
    have iz:bs.length*cs.length≤60*300:=Nat.mul_le_mul hn hc3
    omega
   ·rw[wW.mem u l hl r]
    exact⟨fun z=>z.elim id fun⟨_,_,y,_⟩=>(by rw[List.take_zero] at y;cases y),Or.inl⟩
def yn (bs:List Bool) (mv:List (List Nat)) (cs:List Nat) (r:Nat):Prop:=∃z:List Nat,(∀c∈z,c∈cs)∧lang bs mv r z=true
structure Go (bs:List Bool) (mv:List (List Nat)) (cs:List Nat) (X:Nat→Prop) (can:List Bool) (wa:List Nat):Prop where
 len:can.length=bs.length
 wl:∀r∈wa,r<bs.length∧can.getD r false=true
 yes:∀r,bs.getD r false=true→can.getD r false=true
 good:∀r,r<bs.length→can.getD r false=true→yn bs mv cs r
 shut:∀t,t<bs.length→can.getD t false=true→t ∉ wa→¬X t→∀r,r<bs.length→∀c∈cs,stp mv r c=t→can.getD r false=true
theorem Go.begin {bs:List Bool} {mv:List (List Nat)} {cs:List Nat} {wa:List Nat} (h:∀r,r∈wa↔r<bs.length∧bs.getD r false=true):Go bs mv cs (fun _=>False) bs wa:=
 ⟨rfl,fun r hr=>(h r).mp hr,fun _ e=>e,fun r hr e=>⟨[],fun _ z=>(by cases z),e⟩,fun t ht e n=>absurd ((h t).mpr ⟨ht,e⟩) n⟩
theorem Go.pop {bs:List Bool} {mv:List (List Nat)} {cs:List Nat} {can:List Bool} {wa:List Nat} {t:Nat} (g:Go bs mv cs (fun _=>False) can (wa++[t])):Go bs mv cs (fun u=>u=t) can wa:=by
 refine⟨g.len,fun r hr=>g.wl r (List.mem_append.mpr (.inl hr)),g.yes,g.good,fun u hu e n nt=>g.shut u hu e (fun z=>?_) id⟩
 rcases List.mem_append.mp z with y | y
 ·exact n y
 ·exact nt (List.mem_singleton.mp y)
theorem j2 {can:List Bool} {r t:Nat} (h:r<can.length):(can.set r true).getD t false=if t=r then true else can.getD t false:=by
 rw[List.getD_eq_getElem?_getD,List.getD_eq_getElem?_getD]
 by_cases e:t=r
 ·subst e;rw[List.getElem?_set_self h,if_pos rfl];rfl
 ·rw[List.getElem?_set_ne (Ne.symm e),if_neg e]
theorem Go.add {bs:List Bool} {mv:List (List Nat)} {cs:List Nat} {can:List Bool} {wa:List Nat} {t r c:Nat} (g:Go bs mv cs (fun u=>u=t) can wa) (ht:t<bs.length) (ct:can.getD t false=true) (hr:r<bs.length) (hc:c∈cs) (e:stp mv r c=t):Go bs mv cs (fun u=>u=t) (can.set r true) (wa++[r]):=by
 have gd:∀u,(can.set r true).getD u false=if u=r then true else can.getD u false:=fun u=>j2 (by rw[g.len];exact hr)
 have up:∀u,can.getD u false=true→(can.set r true).getD u false=true:=by
  intro u h
  rw[gd]
  by_cases z:u=r
  ·rw[if_pos z]
  ·rw[if_neg z];exact h
 refine⟨by rw[List.length_set];exact g.len,fun u hu=>?_,fun u h=>up u (g.yes u h),fun u hu h=>?_,fun u hu h n nt q hq d hd eq=>?_⟩
 ·rcases List.mem_append.mp hu with z | z
  ·exact⟨(g.wl u z).1,up u (g.wl u z).2⟩
  ·rw[List.mem_singleton.mp z];exact⟨hr,by rw[gd,if_pos rfl]⟩
 ·rw[gd] at h
  by_cases z:u=r
  ·subst z
   obtain⟨x,h1,h2⟩:=g.good t ht ct
   refine⟨c::x,fun d hd=>(List.mem_cons.mp hd).elim (fun y=>y▸hc) (h1 d),?_⟩
   show lang bs mv (stp mv u c) x=true
   rw[e];exact h2
  ·rw[if_neg z] at h;exact g.good u hu h
 ·have nr:u≠r:=fun z=>n (List.mem_append.mpr (.inr (List.mem_singleton.mpr z)))
  rw[gd,if_neg nr] at h
  exact up q (g.shut u hu h (fun z=>n (List.mem_append.mpr (.inl z))) nt q hq d hd eq)
theorem Go.done {bs:List Bool} {mv:List (List Nat)} {cs:List Nat} {can:List Bool} {wa:List Nat} {t:Nat} (g:Go bs mv cs (fun u=>u=t) can wa) (h:∀r,r<bs.length→∀c∈cs,stp mv r c=t→can.getD r false=true):Go bs mv cs (fun _=>False) can wa:=
 ⟨g.len,g.wl,g.yes,g.good,fun u hu e n _=>by
  by_cases z:u=t
  ·subst z;exact h
  ·exact g.shut u hu e n z⟩
theorem Go.fin {bs:List Bool} {mv:List (List Nat)} {cs:List Nat} {can:List Bool} {B:Nat} (m:Moves bs.length B mv) (hcs:∀c∈cs,c<B) (g:Go bs mv cs (fun _=>False) can []):∀r,r<bs.length→(can.getD r false=true↔yn bs mv cs r):=by
 have h:∀(z:List Nat) (r:Nat),r<bs.length→(∀c∈z,c∈cs)→lang bs mv r z=true→can.getD r false=true:=fun z=>by
  induction z with
  | nil=>intro r hr _ e;exact g.yes r e
  | cons c z ih=>
   intro r hr hz e
   have hc:=hz c List.mem_cons_self
   have hst:=m.stp hr (hcs c hc)
   exact g.shut _ hst (ih _ hst (fun d hd=>hz d (List.mem_cons_of_mem _ hd)) e) (fun z=>nomatch z) id r hr c hc rfl
 exact fun r hr=>⟨g.good r hr,fun⟨z,h1,h2⟩=>h z r hr h1 h2⟩
def Me:Sp:=fun vs H Q _=>∃(m nm y v lt:Addr) (ps:List Addr) (bs:List Bool) (mv:List (List Nat)) (B:Nat) (cs:List Nat),vs=[.ref m,.ref lt]∧C7 H m nm y v ps bs mv B∧H lt=some (.lst ((aj cs).map V.int))∧(∀c∈cs,c<B)∧bs.length≤60∧cs.length≤300∧
 ∀(C:Addr) (can:List Bool) (H':Hp),Same H H'→H' C=some (.lst (can.map V.bl))→can.length=bs.length→(∀r,r<bs.length→(can.getD r false=true↔yn bs mv cs r))→Q (.ref C) H'
theorem fj:aY ["machine","letters","before","can","waiting","reached","room"] ["machine","letters"] (aq eY):=⟨rfl,rfl,rfl,by decide+kernel,rfl,by decide+kernel,by decide+kernel⟩
set_option maxHeartbeats 16000000 in
theorem vR {a:eK} (T:Txt K mg a):bR P w K mg base dr 2 a.i6 a.j9 ["machine","letters"] Me:=by
 have qA:=pJ (P:=P) (w:=w) (base:=base) T
 refine T.xW.ok fj (fun vs H Q E h=>?_) (fun cdv A outer s H vs Q E hr h=>?_)
 ·obtain⟨m,nm,y,v,lt,ps,bs,mv,B,cs,rfl,_⟩:=h
  rfl
 ·obtain⟨m,nm,y,v,lt,ps,bs,mv,B,cs,rfl,Ke,elt,hcs,hn,hc3,k⟩:=h
  have pK:aX 1 _:=hr
  refine⟨_,(ah (aC (i:=2) fj.nd rfl (Or.inl rfl) (aG qA pK rfl T.ql T.qm T.qo .nil aO (ae (pv 0) (ae (pv 1) ag))))
  (ah (aC (i:=3) fj.nd rfl (Or.inl rfl) (b_ (ph K) (by rfl) T.mO kz (ae (aE (aP K) (pv 0) ak (fun _ _=>rfl)) ag)))
  (ah (dU (i:=4) (aJ.mk' (esc:=aq eY) (N:=["machine","letters","before","can","waiting","reached","room"]) (own:=["room","yes"]) (bu:=[]) (bB:=[]) rfl rfl (by decide+kernel)) rfl (nu rfl T.cX (ae (aE (aP K) (pv 0) ak (fun _ _=>rfl)) ag)) (fun _ _ _ _=>(jb K (n:=2) rfl (aK (az (i:=0) (show List.Nodup (["room","yes"]:List Str) by decide+kernel) rfl (Or.inl rfl)) (aK (az (i:=1) (show List.Nodup (["room","yes"]:List Str) by decide+kernel) rfl (Or.inl rfl)) bV)))) (fun _ _ _ _=>(gx (cb K (pv 1) (fun _=>rfl)))) (fun _ _ _ _=>(pv 0)) fj.nd rfl rfl)
  (ah (kO PassesOwn.never (gw (pv 4) (fun _=>rfl))
   (ah (aC (i:=5) fj.nd rfl (Or.inl rfl) (Fv PySem.F.plainAttrs_list PySem.F.slot_list_pop PySem.F.type_list_pop Fx (pv 4)))
   (ax (bh PassesOwn.never rfl (c_ (aE (aM K) (pv 2) (pv 5) (fun _ _=>rfl))) (az (i:=6) fj.nd rfl (Or.inl rfl))
    (ax (bZ (ji (gw (aE (aM K) (pv 3) (pv 6) (fun _ _=>rfl)) (fun _=>rfl)))
     (ah (iF cZ (oX (pv 3) (pv 6) set_list))
     (ax (bI (cE PySem.F.plainAttrs_list PySem.F.slot_list_append PySem.F.type_list_append bz (pv 4) (ae (pv 6) ag)))))
     br))))))
  (ax (aS (pv 3))))))),?_⟩
  have big:(100000:Nat)≤sizeLine:=by decide
  refine aI fun Y hY=>?_
  refine⟨_,rfl,_,rfl,m,nm,y,v,lt,ps,bs,mv,B,cs,rfl,Ke,elt,hcs,hn,hc3,fun t as d_ H1 s1 e1 Kf lb Mf=>?_⟩
  obtain⟨a1,a2,a3,tp,dZ⟩:=Ke
  dsimp only[aH]
  subst hY
  refine aI fun Y hY=>?_
  refine⟨_,rfl,m,_,_,.ref y,rfl,rfl,.of (s1 _ _ a1),aD (j:=1) rfl,y,_,rfl,.inl (.of (s1 _ _ a2)),fun C hC=>?_⟩
  have sC:=Same.new (o:=.lst (bs.map V.bl)) hC
  have s2:=s1.trans sC
  dsimp only[aH]
  subst hY
  refine aI fun Y hY=>?_
  refine⟨_,rfl,m,_,_,.ref y,rfl,rfl,.of (s2 _ _ a1),aD (j:=1) rfl,_,rfl,⟨_,.of (s2 _ _ a2)⟩,fun D hD=>?_⟩
  generalize hH2:upd H1 C (.lst (bs.map V.bl))=H2 at sC s2 hD ⊢
  have eC:H2 C=some (.lst (bs.map V.bl)):=by rw[←hH2];exact af
  have lY:bO H2 as d_:=Kf.keep fun b _ o q=>sC _ _ q
  have e2:=sC _ _ e1
  refine zJ (xs:=bs.map V.bl) (fun i σ H'=>∃v0 v1:Option V,σ=[v0,v1]∧Same H2 H'∧H' D=some (.lst ((aj ((List.range i).filter fun r=>bs.getD r false)).map V.int)))
   ⟨none,none,?sg,Same.new hD,af⟩ (fun i σ H' _ ⟨_,_,_,s,_⟩=>.of (s _ _ (s2 _ _ a2))) ?_ ?_
  case sg=>rfl
  ·rintro i x p σ H3 hx ⟨v0,v1,rfl,s3,d3⟩ hp
   obtain⟨tv,rfl,et⟩:=lB hx
   have hi:=(List.getElem?_eq_some_iff.mp et).1
   have sp:=Same.new (o:=.tup [.int (i:Nat),.bl tv]) hp
   have rE:bs.getD i false=tv:=by rw[List.getD_eq_getElem?_getD,et];rfl
   refine⟨p,_,rfl,.of af,rfl,_,_,rfl,_,_,rfl,rfl,?_⟩
   refine⟨_,rfl,tv,rfl,?_⟩
   refine cG (fun z=>?_) (fun z=>?_)
   ·refine⟨_,rfl,_,sp _ _ d3,?_,_,_,rfl,(s3.trans sp).kbn hD KB.write,?_⟩
    ·rw[List.length_map,aA]
     have:=List.length_filter_le (fun r=>bs.getD r false) (List.range i)
     rw[List.length_range] at this
     omega
    ·rw[af,List.range_succ,List.filter_append,List.filter_cons,if_pos (by rw[rE];exact z),bt,List.map_append];rfl
   ·exact⟨_,_,rfl,s3.trans sp,by rw[List.range_succ,List.filter_append,List.filter_cons,if_neg (by rw[rE];exact z),List.filter_nil,List.append_nil];exact sp _ _ d3⟩
  rintro σ H3 ⟨v0,v1,rfl,s3,d3⟩
  rw[List.length_map] at d3
  dsimp only[aH]
  subst hY
  have fC:H C=none:=s1.free hC
  have fD:H D=none:=s2.free hD
  have GW:C≠D:=ay eC hD
  have Kg:C ∉ as:=fun z=>by obtain⟨l,q⟩:=Kf.mem z;rw[hC] at q;cases q
  have GX:D ∉ as:=fun z=>by obtain⟨l,q⟩:=lY.mem z;rw[hD] at q;cases q
  have tC:t≠C:=ay e1 hC
  have tD:t≠D:=ay e2 hD
  refine aI fun Y hY=>?_
  refine nz (fun M σ H'=>∃(v5 v6:Option V) (can:List Bool) (wa:List Nat),M=2*can.count false+wa.length∧σ=[some (.ref m),some (.ref lt),some (.ref t),some (.ref C),some (.ref D),v5,v6]∧Same H H'∧H' t=some (.lst (as.map V.ref))∧bO H' as d_∧H' C=some (.lst (can.map V.bl))∧H' D=some (.lst ((aj wa).map V.int))∧Go bs mv cs (fun _=>False) can wa∧2*can.count false+wa.length≤1000)
   ⟨_,none,none,bs,_,rfl,rfl,s2.trans s3,s3 _ _ e2,lY.keep fun b _ o q=>s3 _ _ q,s3 _ _ eC,d3,Go.begin fun r=>?b,?c⟩ ?_ (fun σ H Q Q' h ⟨v,e,k,t,q⟩=>⟨v,e,k,t,h _ _ q⟩)
  case b=>rw[List.mem_filter,List.mem_range]
  case c=>
   have h1:=List.length_filter_le (fun r=>bs.getD r false) (List.range bs.length)
   rw[List.length_range] at h1
   have h2:bs.count false≤bs.length:=List.count_le_length
   omega
  ·rintro M σ H4 N hN ⟨v5,v6,can,wa,rfl,rfl,s4,t4,Qd,c4,d4,C9,hM⟩
   refine⟨_,rfl,_,.inl ⟨_,.of d4,rfl⟩,?_⟩
   rcases List.eq_nil_or_concat wa with rfl | ⟨lZ,u,eW⟩
   ·refine cS ?_
    subst hY
    exact⟨_,rfl,k C can H4 s4 c4 C9.len (C9.fin dZ hcs)⟩
   rw[List.concat_eq_append] at eW
   subst eW
   have ne1:(!((aj (lZ++[u])).map V.int).isEmpty)=true:=by rw[bt,List.map_append];simp[aj]
   rw[ne1]
   refine oy ?_
   refine aI fun Y2 dI=>?_
   obtain⟨hu,cu⟩:=C9.wl u (List.mem_append_right _ (List.mem_singleton.mpr rfl))
   have Qe:=C9.pop
   refine⟨_,rfl,Or.inl ⟨rfl,_,.of d4⟩,D,_,.int (u:Nat),rfl,rfl,d4,?_,?_⟩
   ·rw[bt,List.map_append,List.length_append,List.getElem?_append_right (by simp[aj])]
    simp[aj]
   have Qg:((aj (lZ++[u])).map V.int).dropLast=(aj lZ).map V.int:=by rw[bt,List.map_append];exact List.dropLast_concat ..
   rw[Qg]
   rw[List.length_append,List.length_singleton] at hM hN
   have s5:Same H (upd H4 D (.lst ((aj lZ).map V.int))):=s4.kbn fD KB.write
   have t5:(upd H4 D (.lst ((aj lZ).map V.int))) t=some (.lst (as.map V.ref)):=by rw[ao tD];exact t4
   have GY:bO (upd H4 D (.lst ((aj lZ).map V.int))) as d_:=Qd.keep fun b hb o q=>by rw[ao (fun z:b=D=>GX (z▸hb))];exact q
   have c5:(upd H4 D (.lst ((aj lZ).map V.int))) C=some (.lst (can.map V.bl)):=by rw[ao GW];exact c4
   have d5:(upd H4 D (.lst ((aj lZ).map V.int))) D=some (.lst ((aj lZ).map V.int)):=af
   generalize upd H4 D (.lst ((aj lZ).map V.int))=H5 at s5 t5 GY c5 d5 ⊢
   dsimp only[aH]
   subst dI
   obtain⟨l,hl⟩:∃l,d_[u]? =some l:=⟨_,List.getElem?_eq_getElem (by rw[lb];exact hu)⟩
   obtain⟨TN,GZ⟩:=Mf u l hl
   obtain⟨bb,hbb,G_⟩:=GY.back hl
   have TQ:bb≠C:=fun z=>Kg (z▸List.mem_of_getElem? hbb)
   have TR:bb≠D:=fun z=>GX (z▸List.mem_of_getElem? hbb)
   refine⟨_,rfl,_,rfl,t,_,_,.ref bb,rfl,rfl,.of t5,aD (by rw[List.getElem?_map,hbb];rfl),_,rfl,⟨_,.of G_⟩,?_⟩
   refine rh (xs:=(aj l).map V.int) (fun j σ H'=>∃(v6:Option V) (cn:List Bool) (wa:List Nat),σ=[some (.ref m),some (.ref lt),some (.ref t),some (.ref C),some (.ref D),some (.int (u:Nat)),v6]∧Same H H'∧H' t=some (.lst (as.map V.ref))∧bO H' as d_∧H' C=some (.lst (cn.map V.bl))∧H' D=some (.lst ((aj wa).map V.int))∧Go bs mv cs (fun x=>x=u) cn wa∧cn.getD u false=true∧(∀r∈l.take j,cn.getD r false=true)∧2*cn.count false+wa.length≤2*can.count false+lZ.length)
    ⟨_,can,lZ,rfl,s5,t5,GY,c5,d5,Qe,cu,fun r hr=>(by rw[List.take_zero] at hr;cases hr),Nat.le_refl _⟩ (fun j σ H' _ ⟨_,_,_,_,_,_,ls',_⟩=>?g) ?_ ?_
   case g=>
    obtain⟨l2,q1,q2⟩:=ls'.at hbb
    rw[hl] at q1
    rw[Option.some.inj q1]
    exact .of q2
   ·rintro j z σ H6 N2 Kh hz ⟨v6,eR,Ap,rfl,s6,t6,C',c6,d6,Aq,Dc,wX,Ki⟩
    have hj:j<l.length:=by
     have:=(List.getElem?_eq_some_iff.mp hz).1
     rw[List.length_map,aA] at this;exact this
    rw[dv hj] at hz
    have hz':=Option.some.inj hz
    subst hz'
    have ej:=item_at 0 hj
    generalize l.getD j 0=r at ej ⊢
    obtain⟨hrn,c,hc,est⟩:=(GZ r).mp (List.mem_of_getElem? ej)
    have lc:eR.length=bs.length:=Aq.len
    have er:(eR.map V.bl)[r]? =some (.bl (eR.getD r false)):=by rw[List.getElem?_map,item_at false (by rw[lc];exact hrn)];rfl
    refine⟨_,rfl,_,rfl,C,_,_,_,rfl,rfl,.of c6,aD er,_,rfl,?_⟩
    have tk:∀yo:List Bool,(∀x,eR.getD x false=true→yo.getD x false=true)→yo.getD r false=true→∀x∈l.take (j+1),yo.getD x false=true:=fun yo up hr x hx=>by
     rw[take_snoc ej] at hx
     rcases List.mem_append.mp hx with y | y
     ·exact up x (wX x y)
     ·rw[List.mem_singleton.mp y];exact hr
    cases G0:eR.getD r false with
    | true=>
     refine cS ?_
     exact Kh _ _ ⟨_,eR,Ap,rfl,s6,t6,C',c6,d6,Aq,Dc,tk eR (fun _ h=>h) G0,Ki⟩
    | false=>
     refine oy ?_
     refine aI fun Y2 dI=>?_
     have uV:r<eR.length:=by rw[lc];exact hrn
     have cnt:(eR.set r true).count false+1=eR.count false:=by
      have h1:=List.count_set (a:=true) (b:=false) uV
      have h2:eR[r]=false:=by
       rw[List.getD_eq_getElem?_getD,List.getElem?_eq_getElem uV] at G0
       exact G0
      have h3:0<eR.count false:=List.count_pos_iff.mpr (h2▸List.getElem_mem uV)
      rw[h2] at h1
      simp at h1
      omega
     have nc:eR.count false≤eR.length:=List.count_le_length
     refine⟨_,rfl,_,rfl,C,_,_,r,rfl,rfl,c6,by simp[jL,uV],?_⟩
     rw[show(eR.map V.bl).set r (.bl true)=(eR.set r true).map V.bl from(List.map_set ..).symm]
     have d7:(upd H6 C (.lst ((eR.set r true).map V.bl))) D=some (.lst ((aj Ap).map V.int)):=by rw[ao GW.symm];exact d6
     subst dI
     dsimp only
     refine⟨_,rfl,Or.inl ⟨rfl,_,.of d7⟩,_,rfl,D,_,_,rfl,rfl,d7,by rw[List.length_map,aA];omega,?_⟩
     refine Kh _ _ ⟨_,eR.set r true,Ap++[r],rfl,(s6.kbn fC KB.write).kbn fD KB.write,by rw[ao tD,ao tC];exact t6,C'.keep fun b hb o q=>?_,by rw[ao GW];exact af,by rw[af,bt,List.map_append];rfl,Aq.add hu Dc hrn hc est,?_,tk _ ?_ ?_,?_⟩
     ·rw[ao (fun z:b=D=>GX (z▸hb)),ao (fun z:b=C=>Kg (z▸hb))];exact q
     ·rw[j2 uV]
      by_cases z:u=r
      ·rw[if_pos z]
      ·rw[if_neg z];exact Dc
     ·intro x hx
      rw[j2 uV]
      by_cases z:x=r
      ·rw[if_pos z]
      ·rw[if_neg z];exact hx
     ·rw[j2 uV,if_pos rfl]
     ·rw[List.length_append,List.length_singleton];omega
   ·rintro σ H6 ⟨v6,eR,Ap,rfl,s6,t6,C',c6,d6,Aq,Dc,wX,Ki⟩
    rw[List.length_map,aA,List.take_length] at wX
    refine hN _ _ _ ?_ ⟨_,_,eR,Ap,rfl,rfl,s6,t6,C',c6,d6,Aq.done fun r hr c hc e=>wX r ((GZ r).mpr ⟨hr,c,hc,e⟩),?_⟩<;>omega
theorem vS {ns:List Int} {l k:List Nat} (hp:ns.Perm (aj l)) (hs:ns.Pairwise (· ≤ ·)) (hk:k.Pairwise (· < ·)) (hl:l.Nodup) (hm:∀r,r∈l↔r∈k):ns=aj k:=by
 have nk:k.Nodup:=hk.imp fun h=>Nat.ne_of_lt h
 have pk:l.Perm k:=(List.perm_ext_iff_of_nodup hl nk).mpr hm
 refine List.Perm.eq_of_pairwise (le:=(· ≤ ·)) (fun a b _ _ h1 h2=>Int.le_antisymm h1 h2) hs ?_ (hp.trans (pk.map _))
 unfold aj
 rw[List.pairwise_map]
 exact hk.imp fun h=>by omega
theorem je {H H':Hp} {a:Addr} {u:HO} (h:Rd H a u) (s:Same H H'):Rd H' a u:=h.elim (fun e=>.inl (s _ _ e)) fun⟨o,e⟩=>.inr ⟨o,s _ _ e⟩
def pre (mv:List (List Nat)) (n:Nat) (th:List Nat) (S:List Nat) (c:Nat):List Nat:=(List.range n).filter fun r=>decide (stp mv r c∈S)&&decide (r∈th)
def cM (mv:List (List Nat)) (n:Nat) (th S:List Nat) (i:Nat):List (Nat×List Nat):=(List.range i).flatMap fun c=>if pre mv n th S c=[] then [] else [(c,pre mv n th S c)]
def eT (mv:List (List Nat)) (n c:Nat) (th S:List Nat):List Nat:=S.flatMap fun t=>((List.range n).filter fun r=>stp mv r c == t).filter fun r=>decide (r∈th)
theorem nD {mv:List (List Nat)} {n c:Nat} {th S:List Nat} {r:Nat}:r∈eT mv n c th S↔r<n∧stp mv r c∈S∧r∈th:=by
 unfold eT
 rw[List.mem_flatMap]
 constructor
 ·rintro⟨t,ht,h⟩
  rw[List.mem_filter,List.mem_filter,List.mem_range] at h
  have e:=eq_of_beq h.1.2
  exact⟨h.1.1,e▸ht,of_decide_eq_true h.2⟩
 ·rintro⟨h1,h2,h3⟩
  refine⟨_,h2,?_⟩
  rw[List.mem_filter,List.mem_filter,List.mem_range]
  exact⟨⟨h1,by simp⟩,decide_eq_true h3⟩
theorem uW {mv:List (List Nat)} {n c:Nat} {th:List Nat}:∀{S:List Nat},S.Nodup→(eT mv n c th S).Nodup
 | [],_=>by unfold eT;simp
 | t::S,h=>by
  have h':=List.nodup_cons.mp h
  have e:eT mv n c th (t::S)=eT mv n c th [t]++eT mv n c th S:=by unfold eT;simp
  rw[e,List.nodup_append]
  refine⟨?_,uW h'.2,fun x hx y hy z=>?_⟩
  ·unfold eT
   rw[List.flatMap_cons,List.flatMap_nil,List.append_nil]
   exact List.Pairwise.sublist (List.filter_sublist.trans List.filter_sublist) List.nodup_range
  ·subst z
   have a1:=(nD.mp hx).2.1
   have a2:=(nD.mp hy).2.1
   rw[List.mem_singleton.mp a1] at a2
   exact h'.1 a2
theorem wY {mv:List (List Nat)} {n c:Nat} {th S:List Nat} (h:S.Nodup):(eT mv n c th S).length≤n:=dF _ _ (uW h) fun _ hx=>(nD.mp hx).1
theorem B7 {mv:List (List Nat)} {n c:Nat} {th S:List Nat} {j t:Nat} (h:S[j]? =some t):eT mv n c th (S.take (j+1))=eT mv n c th (S.take j)++((List.range n).filter fun r=>stp mv r c == t).filter fun r=>decide (r∈th):=by
 unfold eT
 rw[take_snoc h,List.flatMap_append];simp
theorem Ar {mv:List (List Nat)} {n:Nat} {th S:List Nat} {c:Nat}:(pre mv n th S c).Pairwise (· < ·):=List.Pairwise.sublist List.filter_sublist List.pairwise_lt_range
theorem wZ {mv:List (List Nat)} {n:Nat} {th S:List Nat} {c r:Nat}:r∈pre mv n th S c↔r<n∧stp mv r c∈S∧r∈th:=by
 unfold pre
 rw[List.mem_filter,List.mem_range,Bool.and_eq_true,decide_eq_true_iff,decide_eq_true_iff]
theorem ki {mv:List (List Nat)} {n:Nat} {th S:List Nat} {i:Nat}:cM mv n th S (i+1)=cM mv n th S i++if pre mv n th S i=[] then [] else [(i,pre mv n th S i)]:=by
 unfold cM
 rw[List.range_succ,List.flatMap_append];simp
theorem i9 {mv:List (List Nat)} {n:Nat} {th S:List Nat}:∀i,(cM mv n th S i).length≤i
 | 0=>Nat.le_refl _
 | i+1=>by
  rw[ki,List.length_append]
  have:=i9 (mv:=mv) (n:=n) (th:=th) (S:=S) i
  split<;>simp<;>omega
def iM (H:Hp) (ia:Addr) (B n:Nat) (mv:List (List Nat)):Prop:=∃ts:List Addr,H ia=some (.lst (ts.map V.ref))∧ts.length=B∧∀(c:Nat) (t:Addr),ts[c]? =some t→∃as:List Addr,H t=some (.lst (as.map V.ref))∧bO H as (gn mv n c n)
theorem iM.keep {H H':Hp} {ia:Addr} {B n:Nat} {mv:List (List Nat)} (h:iM H ia B n mv) (s:Same H H'):iM H' ia B n mv:=by
 obtain⟨ts,e,l,f⟩:=h
 refine⟨ts,s _ _ e,l,fun c t ht=>?_⟩
 obtain⟨as,e1,e2⟩:=f c t ht
 exact⟨as,s _ _ e1,e2.keep fun b _ o q=>s _ _ q⟩
def de (H:Hp) (qs:List Addr) (xs:List (Nat×List Nat)):Prop:=Paired (fun(q:Addr) (x:Nat×List Nat)=>∃b:Addr,H q=some (.tup [.int (x.1:Nat),.ref b])∧H b=some (.tup ((aj x.2).map V.int))) qs xs
theorem de.keep {H H':Hp} {qs:List Addr} {xs:List (Nat×List Nat)} (h:de H qs xs) (s:cH H H'):de H' qs xs:=by
 unfold de at h ⊢
 induction h with
 | nil=>exact .nil
 | cons r t ih=>obtain⟨b,h1,h2⟩:=r;exact .cons ⟨b,s _ _ h1,s _ _ h2⟩ ih
theorem de.snoc {H:Hp} {qs:List Addr} {xs:List (Nat×List Nat)} {q b:Addr} {x:Nat×List Nat} (h:de H qs xs) (e1:H q=some (.tup [.int (x.1:Nat),.ref b])) (e2:H b=some (.tup ((aj x.2).map V.int))):de H (qs++[q]) (xs++[x]):=by
 unfold de at h ⊢
 induction h with
 | nil=>exact .cons ⟨b,e1,e2⟩ .nil
 | cons r t ih=>exact .cons r ih
def EI:Sp:=fun vs H Q _=>∃(ia ra ta:Addr) (mv:List (List Nat)) (n B:Nat) (S th:List Nat),vs=[.ref ia,.ref ra,.ref ta]∧iM H ia B n mv∧n≤60∧B≤300∧H ra=some (.tup ((aj S).map V.int))∧S.Nodup∧(∀r∈S,r<n)∧Rd H ta (.dK (aR th))∧
 ∀(p:Addr) (qs:List Addr) (H':Hp),H p=none→Same H H'→H' p=some (.lst (qs.map V.ref))→de H' qs (cM mv n th S B)→Q (.ref p) H'
theorem dO:aY ["into","rooms","there","steps","letter","before","found","room"] ["into","rooms","there"] (aq dE):=⟨rfl,rfl,rfl,by decide+kernel,rfl,by decide+kernel,by decide+kernel⟩
set_option maxHeartbeats 16000000 in
theorem si {a:eK} (T:Txt K mg a):bR P w K mg base dr 1 a.gN a.iR ["into","rooms","there"] EI:=by
 refine T.uA.ok dO (fun vs H Q E h=>?_) (fun cdv A outer s H vs Q E hr h=>?_)
 ·obtain⟨ia,ra,ta,mv,n,B,S,th,rfl,_⟩:=h
  rfl
 ·obtain⟨ia,ra,ta,mv,n,B,S,th,rfl,hia,hn,hB,era,nd,hS,eta,k⟩:=h
  refine⟨_,(ah (aC (i:=3) dO.nd rfl (Or.inl rfl) (bx ag))
  (ah (bh PassesOwn.never rfl (nu rfl T.cX (ae (pv 0) ag)) (dQ rfl (aK (az (i:=4) dO.nd rfl (Or.inl rfl)) (aK (az (i:=5) dO.nd rfl (Or.inl rfl)) bV)))
   (ah (aC (i:=6) dO.nd rfl (Or.inl rfl) (bx ag))
   (ah (bh PassesOwn.never rfl (f_ (pv 1)) (az (i:=7) dO.nd rfl (Or.inl rfl))
    (ax (bI (cE PySem.F.plainAttrs_list PySem.F.slot_list_extend PySem.F.type_list_extend jM (pv 6) (ae (cg (aJ.mk' (esc:=aq dE) (N:=["into","rooms","there","steps","letter","before","found","room"]) (own:=["one"]) (bu:=["there"]) (bB:=[2]) rfl rfl (by decide+kernel)) rfl (c_ (aE (aM K) (pv 5) (pv 7) (fun _ _=>rfl))) (fun _ _ _ _=>(az (i:=0) (show List.Nodup (["one","there"]:List Str) by decide+kernel) rfl (Or.inl rfl))) (fun _ _ _ _=>(gx (tH (y9 (jN hr) (pv 0) (pv 1)) (by with_unfolding_all rfl)))) (fun _ _ _ _=>(pv 0))) ag)))))
   (ax (bZ (cb K (pv 6) (fun _=>rfl))
    (ax (bI (cE PySem.F.plainAttrs_list PySem.F.slot_list_append PySem.F.type_list_append bz (pv 3) (ae (bX (ae (pv 4) (ae (b_ (dy K) (by rfl) T.fR eV (ae (aL (vI K) (by rfl) T.uI qW (ae (pv 6) ag)) ag)) ag))) ag))))
    br)))))
  (ax (aS (pv 3))))),?_⟩
  have big:(100000:Nat)≤sizeLine:=by decide
  obtain⟨ts,ei,Kj,hts⟩:=hia
  refine⟨by decide,fun L hL=>?_⟩
  have sL:=Same.new (o:=.lst []) hL
  refine⟨_,rfl,_,rfl,⟨_,.of (sL _ _ ei)⟩,?_⟩
  refine oz (xs:=ts.map V.ref) (fun i σ H'=>∃(qs:List Addr) (v4 v5 v6 v7:Option V),σ=[some (.ref ia),some (.ref ra),some (.ref ta),some (.ref L),v4,v5,v6,v7]∧Same H H'∧H' L=some (.lst (qs.map V.ref))∧de H' qs (cM mv n th S i))
   ⟨[],none,none,none,none,rfl,sL,af,.nil⟩ (fun i σ H' _ ⟨_,_,_,_,_,_,s',_⟩=>.of (s' _ _ ei)) ?_ ?_
  ·rintro i x p σ H1 hx ⟨qs,v4,v5,v6,v7,rfl,s1,l1,p1⟩ hp
   obtain⟨t,rfl,et⟩:=cV hx
   have hi:i<B:=by rw[←Kj];exact(List.getElem?_eq_some_iff.mp et).1
   obtain⟨as,Qh,G1⟩:=hts i t et
   have sp:=Same.new (o:=.tup [.int (i:Nat),.ref t]) hp
   refine⟨p,_,rfl,.of af,rfl,_,_,rfl,_,_,rfl,rfl,?_⟩
   have s2:=s1.trans sp
   have l2:=sp _ _ l1
   have p2:=p1.keep sp.kt
   generalize upd H1 p (.tup [.int (i:Nat),.ref t])=H2 at s2 l2 p2 ⊢
   refine⟨by decide,fun F hF=>?_⟩
   have TU:H F=none:=s2.free hF
   have Kk:L≠F:=ay l2 hF
   have sF:=Same.new (o:=.lst []) hF
   refine⟨_,rfl,_,rfl,⟨_,.of (sF _ _ (s2 _ _ era))⟩,?_⟩
   refine ko (xs:=(aj S).map V.int) (fun j σ H'=>∃(v7:Option V),σ=[some (.ref ia),some (.ref ra),some (.ref ta),some (.ref L),some (.int (i:Nat)),some (.ref t),some (.ref F),v7]∧Same H2 H'∧H' F=some (.lst ((aj (eT mv n i th (S.take j))).map V.int)))
    ⟨v7,rfl,sF,af⟩ (fun j σ H' _ ⟨_,_,s',_⟩=>.of (s' _ _ (s2 _ _ era))) ?_ ?_
   ·rintro j x σ H3 hx ⟨v7,rfl,s3,f3⟩
    obtain⟨u,rfl,eu⟩:=cx hx
    have hu:u<n:=hS u (List.mem_of_getElem? eu)
    have cW:=s2.trans s3
    obtain⟨b,hb,eb⟩:=G1.back (lF hu)
    have Kl:=cW _ _ eb
    refine⟨_,rfl,.inl ⟨rfl,_,.of f3⟩,_,rfl,_,rfl,t,_,_,.ref b,rfl,rfl,.of (cW _ _ Qh),aD (by rw[List.getElem?_map,hb];rfl),_,rfl,⟨_,.of Kl⟩,fun C hC=>?_⟩
    have TV:F≠C:=ay f3 hC
    refine ft (xs:=(aj ((List.range n).filter fun r=>stp mv r i == u)).map V.int) (fun l σ H'=>∃(v:Option V),σ=[v,some (.ref ta)]∧Same H3 H'∧H' C=some (.lst ((aj ((((List.range n).filter fun r=>stp mv r i == u).take l).filter fun r=>decide (r∈th))).map V.int)))
     ⟨none,?sg,Same.new hC,af⟩ (fun l σ H' _ ⟨_,_,s',_⟩=>.of (s' _ _ Kl)) ?_ ?_
    case sg=>rfl
    ·rintro l x σ H4 hx ⟨v,rfl,s4,c4⟩
     obtain⟨r,rfl,er⟩:=cx hx
     have hl:=(List.getElem?_eq_some_iff.mp er).1
     have hl2:=List.length_filter_le (fun r=>stp mv r i == u) (List.range n)
     rw[List.length_range] at hl2
     refine⟨_,rfl,_,rfl,ta,_,rfl,.inl ⟨aR th,Sum.inl (r:Int),je (je eta cW) s4,rfl,rfl⟩,_,rfl,?_⟩
     rw[wU]
     refine cG (fun z=>?_) (fun z=>?_)
     ·refine⟨_,rfl,_,c4,?_,_,rfl,s4.kbn hC KB.write,?_⟩
      ·rw[List.length_map,aA]
       have h1:=List.length_filter_le (fun r=>decide (r∈th)) (((List.range n).filter fun r=>stp mv r i == u).take l)
       rw[List.length_take] at h1
       omega
      ·rw[af,take_snoc er,List.filter_append,List.filter_cons,if_pos z,bt,List.map_append];rfl
     ·refine⟨_,rfl,s4,?_⟩
      rw[take_snoc er,List.filter_append,List.filter_cons,if_neg z,List.filter_nil,List.append_nil];exact c4
    rintro σ H4 ⟨v,rfl,s4,c4⟩
    rw[List.length_map,aA,List.take_length] at c4
    refine⟨F,C,_,_,rfl,rfl,s4 _ _ f3,c4,?_,?_⟩
    ·rw[List.length_map,List.length_map,aA,aA]
     have h1:=wY (mv:=mv) (n:=n) (c:=i) (th:=th) (S:=S.take j) (List.Pairwise.sublist (List.take_sublist _ _) nd)
     have h2:=List.length_filter_le (fun r=>decide (r∈th)) ((List.range n).filter fun r=>stp mv r i == u)
     have h3:=List.length_filter_le (fun r=>stp mv r i == u) (List.range n)
     rw[List.length_range] at h3
     omega
    ·refine⟨_,rfl,(s3.trans s4).kbn hF KB.write,?_⟩
     rw[af,B7 eu,bt,List.map_append]
   ·rintro σ H3 ⟨v7,rfl,s3,f3⟩
    rw[List.length_map,aA,List.take_length] at f3
    have cW:=s2.trans s3
    refine⟨_,rfl,_,.inl ⟨_,.of f3,rfl⟩,?_⟩
    have nf:=uW (mv:=mv) (n:=n) (c:=i) (th:=th) nd
    have lf:=wY (mv:=mv) (n:=n) (c:=i) (th:=th) nd
    have mm:∀r,r∈eT mv n i th S↔r∈pre mv n th S i:=fun r=>nD.trans wZ.symm
    have em:pre mv n th S i=[]↔eT mv n i th S=[]:=by
     rw[List.eq_nil_iff_forall_not_mem,List.eq_nil_iff_forall_not_mem]
     exact⟨fun h r hr=>h r ((mm r).mp hr),fun h r hr=>h r ((mm r).mpr hr)⟩
    have eE:(!((aj (eT mv n i th S)).map V.int).isEmpty)=true↔¬eT mv n i th S=[]:=by
     cases eT mv n i th S<;>simp[aj]
    refine cG (fun z=>?_) (fun z=>?_)
    ·have ne:=eE.mp z
     refine⟨_,rfl,.inl ⟨rfl,_,.of (s3 _ _ l2)⟩,_,rfl,_,rfl,F,aj (eT mv n i th S),rfl,.of f3,by rw[aA];omega,fun G ns hG pm ps=>?_⟩
     have e:=vS pm ps Ar nf mm
     subst e
     have sG:=Same.new (o:=.lst ((aj (pre mv n th S i)).map V.int)) hG
     refine⟨G,_,rfl,.inl ⟨.of af,fun tb htb=>?_⟩⟩
     have De:=Same.new (o:=.tup ((aj (pre mv n th S i)).map V.int)) htb
     refine⟨by show 2≤sizeLine;omega,fun q hq=>?_⟩
     have sq:=Same.new (o:=.tup [.int (i:Nat),.ref tb]) hq
     have s4:=cW.trans (sG.trans (De.trans sq))
     refine⟨L,_,_,rfl,rfl,sq _ _ (De _ _ (sG _ _ (s3 _ _ l2))),?_,?_⟩
     ·rw[List.length_map,Paired.length p2]
      have:=i9 (mv:=mv) (n:=n) (th:=th) (S:=S) i
      omega
     ·refine⟨qs++[q],_,_,_,_,rfl,s4.kbn hL KB.write,?_,?_⟩
      ·rw[af,List.map_append];rfl
      ·rw[ki,if_neg (fun h=>ne (em.mp h))]
       have kt:cH H2 (upd (upd (upd (upd H3 G (.lst ((aj (pre mv n th S i)).map V.int))) tb (.tup ((aj (pre mv n th S i)).map V.int))) q (.tup [.int (i:Nat),.ref tb])) L (.lst (qs.map V.ref++[.ref q]))):=fun c xs e=>by
        rw[ao (bF e l2 (fun z=>nomatch z))]
        exact sq _ _ (De _ _ (sG _ _ (s3 _ _ e)))
       refine(p2.keep kt).snoc (b:=tb) ?_ ?_
       ·rw[ao (ay (sG _ _ (s3 _ _ l2)|>De _ _) hq).symm,af]
       ·rw[ao (ay (sG _ _ (s3 _ _ l2)) htb).symm]
        exact sq _ _ af
    ·have ne:eT mv n i th S=[]:=Classical.byContradiction fun h=>z (eE.mpr h)
     refine⟨qs,_,_,_,_,rfl,cW,s3 _ _ l2,?_⟩
     rw[ki,if_pos (em.mpr ne),List.append_nil]
     exact p2.keep s3.kt
  ·rintro σ H1 ⟨qs,v4,v5,v6,v7,rfl,s1,l1,p1⟩
   rw[List.length_map,Kj] at p1
   exact⟨_,rfl,k L qs H1 hL s1 l1 p1⟩
def fl (b:Nat):Nat→Nat→List Nat
 | 0,_=>[]
 | n+1,L=>fl b n (L / b)++[L % b]
theorem gf (b:Nat):∀n L,(fl b n L).length=n
 | 0,_=>rfl
 | n+1,L=>by rw[fl,List.length_append,gf b n];rfl
theorem Df {b:Nat} (hb:0<b):∀n L,∀d∈fl b n L,d<b
 | 0,_,d,h=>by cases h
 | n+1,L,d,h=>by
  rw[fl] at h
  rcases List.mem_append.mp h with h | h
  ·exact Df hb n _ d h
  ·have:d=L % b:=by simpa using h
   rw[this];exact Nat.mod_lt _ hb
def lst (b:Nat) (acc:Nat) (ds:List Nat):Nat:=ds.foldl (fun l d=>l*b+d) acc
theorem w_ {b:Nat} (hb:0<b) (g:List Int→Nat→List Int):∀(ls:List (List Int)) (i:Nat),(ls.flatMap fun l=>(List.range b).map (g l))[i]? =ls[i / b]?.map fun l=>g l (i % b)
 | [],i=>by simp
 | l::ls,i=>by
  rw[List.flatMap_cons]
  by_cases h:i<b
  ·rw[List.getElem?_append_left (by simpa using h),Nat.div_eq_of_lt h,Nat.mod_eq_of_lt h]
   simp[h]
  ·have e1:i / b=(i-b) / b+1:=by
    have:=Nat.sub_add_cancel (Nat.not_lt.mp h)
    conv=>lhs;rw[←this]
    exact Nat.add_div_right _ hb
   have e2:i % b=(i-b) % b:=Nat.mod_eq_sub_mod (Nat.not_lt.mp h)
   rw[List.getElem?_append_right (by simpa using Nat.not_lt.mp h),e1,e2]
   have:=w_ hb g ls (i-b)
   simpa using this
theorem qB {b:Nat} (hb:0<b):∀(n L:Nat),L<b ^ n→(lets b n)[L]? =some (aj (fl b n L))
 | 0,L,h=>by
  have:L=0:=by simpa using h
  subst this;rfl
 | n+1,L,h=>by
  show((lets b n).flatMap fun l=>(List.range b).map fun(f:Nat)=>l++[(f:Int)])[L]? =_
  rw[w_ hb (fun l f=>l++[(f:Int)])]
  have h1:L / b<b ^ n:=by
   rw[Nat.div_lt_iff_lt_mul hb]
   rw[Nat.pow_succ] at h
   exact h
  rw[qB hb n (L / b) h1]
  simp[aj,fl]
def fF (S:List Nat):List Key:=S.map fun(r:Nat)=>Sum.inl ((r:Nat):Int)
theorem qC (S:List Nat):(fF S).map kV=(aj S).map V.int:=by unfold fF aj;rw[List.map_map,List.map_map];rfl
theorem B8 {S S':List Nat} (h:fF S=fF S'):S=S':=by
 unfold fF at h
 refine(List.map_inj_right (f:=fun(r:Nat)=>(Sum.inl ((r:Nat):Int):Key)) fun x y e=>?_).mp h
 have:=Sum.inl.inj e
 omega
theorem As (t:List Nat):((aj t).any (· != 0))=t.any (· != 0):=by
 unfold aj
 rw[List.any_map]
 congr 1
 funext x
 show((x:Int) != 0)=(x != 0)
 cases x with
 | zero=>rfl
 | succ x=>rfl
def bJ (H:Hp) (qs:List Addr) (hs:List (List Nat×List Nat)):Prop:=Paired (fun(q:Addr) (x:List Nat×List Nat)=>∃a b:Addr,H q=some (.tup [.ref a,.ref b])∧H a=some (.tup ((aj x.1).map V.int))∧H b=some (.tup ((aj x.2).map V.int))) qs hs
theorem bJ.keep {H H':Hp} {qs:List Addr} {hs:List (List Nat×List Nat)} (h:bJ H qs hs) (s:cH H H'):bJ H' qs hs:=by
 unfold bJ at h ⊢
 induction h with
 | nil=>exact .nil
 | cons r t ih=>obtain⟨a,b,h1,h2,h3⟩:=r;exact .cons ⟨a,b,s _ _ h1,s _ _ h2,s _ _ h3⟩ ih
theorem bJ.snoc {H:Hp} {qs:List Addr} {hs:List (List Nat×List Nat)} {q a b:Addr} {x:List Nat×List Nat} (h:bJ H qs hs) (e1:H q=some (.tup [.ref a,.ref b])) (e2:H a=some (.tup ((aj x.1).map V.int))) (e3:H b=some (.tup ((aj x.2).map V.int))):bJ H (qs++[q]) (hs++[x]):=by
 unfold bJ at h ⊢
 induction h with
 | nil=>exact .cons ⟨a,b,e1,e2,e3⟩ .nil
 | cons r t ih=>exact .cons r ih
theorem bJ.take {H:Hp}:∀{qs:List Addr} {hs:List (List Nat×List Nat)} (k:Nat),bJ H qs hs→bJ H (qs.take k) (hs.take k)
 | _,_,0,_=>by rw[List.take_zero,List.take_zero];exact .nil
 | _,_,k+1,.nil=>.nil
 | _,_,k+1,.cons r t=>.cons r (bJ.take k t)
def one (b m:Nat) (ns:List Nat) (s:Nat×List Nat):List (List Nat×List Nat):=if(more b ns (fl b m s.1)).any (· != 0)=true then [(more b ns (fl b m s.1),s.2)] else []
def gG (b m:Nat) (mv:List (List Nat)) (n B:Nat) (th:List Nat) (x:List Nat×List Nat):List (List Nat×List Nat):=(cM mv n th x.2 B).flatMap (one b m x.1)
theorem w6 (b m:Nat) (ns:List Nat) (s:Nat×List Nat):(one b m ns s).length≤1:=by unfold one;split<;>simp
theorem j3 {α β:Type} {f:α→List β} {k:Nat} (h:∀x,(f x).length≤k):∀l:List α,(l.flatMap f).length≤l.length*k
 | []=>by simp
 | x::l=>by
  rw[List.flatMap_cons,List.length_append,List.length_cons,Nat.add_mul,Nat.one_mul]
  have h1:=h x
  have h2:=j3 h l
  omega
theorem EJ (b m:Nat) (mv:List (List Nat)) (n B:Nat) (th:List Nat) (x:List Nat×List Nat):(gG b m mv n B th x).length≤B:=by
 unfold gG
 have h1:=j3 (f:=one b m x.1) (k:=1) (w6 b m x.1) (cM mv n th x.2 B)
 have h2:=i9 (mv:=mv) (n:=n) (th:=th) (S:=x.2) B
 omega
theorem pL {mv:List (List Nat)} {n:Nat} {th S:List Nat} {B:Nat} {s:Nat×List Nat} (h:s∈cM mv n th S B):s.1<B∧s.2=pre mv n th S s.1:=by
 unfold cM at h
 obtain⟨c,hc,hs⟩:=List.mem_flatMap.mp h
 split at hs
 ·cases hs
 ·rw[List.mem_singleton.mp hs];exact⟨List.mem_range.mp hc,rfl⟩
def Memo (mv:List (List Nat)) (n B:Nat) (th:List Nat) (lo:Addr) (H:Hp) (kvs:List (List Key×V)):Prop:=∀(k:List Key) (v:V),bW kvs k=some v→∃(S:List Nat) (l:Addr) (qs:List Addr),k=fF S∧v=.ref l∧l≠lo∧H l=some (.lst (qs.map V.ref))∧de H qs (cM mv n th S B)
theorem Memo.keep {mv:List (List Nat)} {n B:Nat} {th:List Nat} {lo:Addr} {H H':Hp} {kvs:List (List Key×V)} (h:Memo mv n B th lo H kvs) (k1:∀a xs,a≠lo→H a=some (.lst xs)→H' a=some (.lst xs)) (k2:cH H H'):Memo mv n B th lo H' kvs:=fun k v e=>by
 obtain⟨S,l,qs,a1,a2,a3,a4,a5⟩:=h k v e
 exact⟨S,l,qs,a1,a2,a3,k1 _ _ a3 a4,a5.keep k2⟩
def G2:Sp:=fun vs H Q _=>∃(b m n many:Nat) (la ia ta ha:Addr) (lps qs:List Addr) (mv:List (List Nat)) (th:List Nat) (hs:List (List Nat×List Nat)),vs=[.int b,.ref la,.ref ia,.ref ta,.ref ha,.int many]∧0<b∧b≤4∧m≤4∧
 H la=some (.lst (lps.map V.ref))∧bD H lps (lets b m)∧iM H ia (b ^ m) n mv∧n≤60∧Rd H ta (.dK (aR th))∧H ha=some (.lst (qs.map V.ref))∧bJ H qs hs∧hs.length≤100∧many≤100∧(∀x∈hs,x.1.length=m∧x.2.Nodup∧∀r∈x.2,r<n)∧
 ∀(p:Addr) (pM:List Addr) (H':Hp),H p=none→Same H H'→H' p=some (.lst (pM.map V.ref))→bJ H' pM ((hs.flatMap (gG b m mv n (b ^ m) th)).take many)→Q (.ref p) H'
theorem jC {xs:List V} {k:Nat}:eO xs none (some (k:Int))=xs.take k:=by
 unfold eO
 have e:HT.aU xs.length xs.length (some (k:Int))=min k xs.length:=by
  unfold HT.aU
  dsimp only
  rw[if_neg (by omega),Int.toNat_natCast]
 rw[e,HT.ow,List.drop_zero,Nat.sub_zero]
 rw[List.take_eq_take_iff]
 omega
theorem eA {D:L2.Ends} {σ:St} {H:Hp} (h:D.nx σ H):Cz D σ H:=h
theorem Au {α β:Type} {f:α→List β} {j k:Nat} {l:List α} (h:k≤((l.take j).flatMap f).length):(l.flatMap f).take k=((l.take j).flatMap f).take k:=by
 have e:l.flatMap f=(l.take j).flatMap f++(l.drop j).flatMap f:=by rw[←List.flatMap_append,List.take_append_drop]
 rw[e,List.take_append_of_le_length h]
theorem cf:aY ["base","letters","into","there","heads","many","steps","longer","numbers","rooms","letter","before","told"] ["base","letters","into","there","heads","many"] (aq dB):=⟨rfl,rfl,rfl,by decide+kernel,rfl,by decide+kernel,by decide+kernel⟩
set_option maxHeartbeats 16000000 in
theorem pN {a:eK} (T:Txt K mg a):bR P w K mg base dr 2 a.fM a.gP ["base","letters","into","there","heads","many"] G2:=by
 have uX:=si (P:=P) (w:=w) (base:=base) T
 have iU:=kE (P:=P) (w:=w) (base:=base) T
 refine T.qp.ok cf (fun vs H Q E h=>?_) (fun cdv A outer s H vs Q E hr h=>?_)
 ·obtain⟨b,m,n,many,la,ia,ta,ha,lps,qs,mv,th,hs,rfl,_⟩:=h
  rfl
 ·obtain⟨b,m,n,many,la,ia,ta,ha,lps,qs,mv,th,hs,rfl,hb0,hb,hm,uS,tl,hia,hn,eta,Av,hds,lhs,nE,hok,k⟩:=h
  have sj:aX 1 _:=hr
  have ij:aX 1 _:=hr
  refine⟨_,(ah (aC (i:=6) cf.nd rfl (Or.inl rfl) Bt)
  (ah (aC (i:=7) cf.nd rfl (Or.inl rfl) (bx ag))
  (ah (bh PassesOwn.never rfl (c_ (pv 4)) (dQ rfl (aK (az (i:=8) cf.nd rfl (Or.inl rfl)) (aK (az (i:=9) cf.nd rfl (Or.inl rfl)) bV)))
   (ah (bZ (bA IX (aL (aW K) (by rfl) T.cF bP (ae (pv 7) ag)) (pv 5) (bw _))
    (ax Bb)
    br)
   (ah (bZ (tH (y' (jN hr) (pv 9) (pv 6)) (by with_unfolding_all rfl))
    (ax (qc (jN hr) (pv 6) (pv 9) (aG uX sj rfl T.uB T.uC T.uD .nil aO (ae (pv 2) (ae (pv 9) (ae (pv 3) ag)))) rfl))
    br)
   (ax (bh PassesOwn.never rfl (c_ (wy (jN hr) (pv 6) (pv 9) (fun _ _=>rfl))) (dQ rfl (aK (az (i:=10) cf.nd rfl (Or.inl rfl)) (aK (az (i:=11) cf.nd rfl (Or.inl rfl)) bV)))
    (ah (aC (i:=12) cf.nd rfl (Or.inl rfl) (aG iU ij rfl T.lR T.lT T.lU .nil aO (ae (pv 0) (ae (pv 8) (ae (aE (aM K) (pv 1) (pv 10) (fun _ _=>rfl)) ag)))))
    (ax (bZ (cb K (aL (xU K rfl) (by rfl) T.sJ pf (ae (pv 12) ag)) (fun _=>rfl))
     (ax (bI (cE PySem.F.plainAttrs_list PySem.F.slot_list_append PySem.F.type_list_append bz (pv 7) (ae (bX (ae (pv 12) (ae (pv 11) ag))) ag))))
     br))))))))
  (ax (aS (df (eB K) (pv 7) dJ (dM (pv 5)))))))),?_⟩
  have big:(1000000:Nat)≤sizeLine:=by decide
  have hB:b ^ m≤256:=iL hb hm
  have oh:qs.length=hs.length:=Paired.length hds
  refine fun D hD=>?_
  have sD:=Same.new (o:=.dT []) hD
  refine⟨by decide,fun L hL=>?_⟩
  have hL0:=sD.free hL
  have GQ:D≠L:=ay (o:=.dT []) af hL
  have sL:=Same.new (o:=.lst []) hL
  have s0:=sD.trans sL
  refine⟨_,rfl,_,rfl,⟨_,.of (s0 _ _ Av)⟩,?_⟩
  refine g_ (xs:=qs.map V.ref) (fun j σ H'=>∃(ls:List Addr) (kvs:List (List Key×V)) (v8 v9 v10 v11 kD:Option V),σ=[some (.int (b:Nat)),some (.ref la),some (.ref ia),some (.ref ta),some (.ref ha),some (.int (many:Nat)),some (.ref D),some (.ref L),v8,v9,v10,v11,kD]∧Same H H'∧H' D=some (.dT kvs)∧kvs.length≤j∧Memo mv n (b ^ m) th L H' kvs∧H' L=some (.lst (ls.map V.ref))∧bJ H' ls ((hs.take j).flatMap (gG b m mv n (b ^ m) th)))
   ⟨[],[],none,none,none,none,none,rfl,s0,sL _ _ af,Nat.le_refl _,fun k v e=>(by cases e),af,.nil⟩ (fun j σ H' _ ⟨_,_,_,_,_,_,_,_,s',_⟩=>.of (s' _ _ Av)) ?_ ?_
  ·rintro j x σ H1 hx ⟨ls,kvs,v8,v9,v10,v11,kD,rfl,s1,d1,lk,me,l1,h1⟩
   obtain⟨q,rfl,eq⟩:=cV hx
   have hj:j<hs.length:=by rw[←oh];exact(List.getElem?_eq_some_iff.mp eq).1
   obtain⟨y,ey,na,ra,G3,Aw,era⟩:=dW hds eq
   obtain⟨ly,Qi,lty⟩:=hok y (List.mem_of_getElem? ey)
   have lls:ls.length≤j*256:=by
    rw[Paired.length h1]
    have a1:=j3 (f:=gG b m mv n (b ^ m) th) (k:=b ^ m) (EJ b m mv n (b ^ m) th) (hs.take j)
    rw[List.length_take,Nat.min_eq_left (by omega)] at a1
    exact Nat.le_trans a1 (Nat.mul_le_mul_left _ hB)
   have Tc:ls.length≤25600:=by omega
   refine⟨q,_,rfl,.of (s1 _ _ G3),rfl,_,_,rfl,_,_,rfl,rfl,?_⟩
   refine⟨_,rfl,_,_,rfl,.inl ⟨_,.of l1,rfl⟩,_,rfl,_,_,rfl,rfl,_,rfl,?_⟩
   refine cG (fun z=>?_) (fun z=>?_)
   ·
    have hz:many≤ls.length:=by
     have:=of_decide_eq_true z
     rw[List.length_map] at this
     omega
    refine⟨_,rfl,_,rfl,_,rfl,_,_,rfl,.of l1,fun p hp=>?_⟩
    have sp:=Same.new (o:=.lst (eO (ls.map V.ref) none (some (many:Int)))) hp
    refine k p (ls.take many) _ (s1.free hp) (s1.trans sp) ?_ ?_
    ·rw[af,jC,List.map_take]
    ·rw[Au (j:=j) (by rw[←Paired.length h1];exact hz)]
     exact bJ.take _ (h1.keep sp.kt)
   ·refine eA ?_
    dsimp only
    refine aI fun Y hY=>?_
    have rest:∀(H2:Hp) (mW:List (List Key×V)),Same H H2→H2 D=some (.dT mW)→mW.length≤j+1→Memo mv n (b ^ m) th L H2 mW→(bW mW (fF y.2)).isSome=true→H2 L=some (.lst (ls.map V.ref))→bJ H2 ls ((hs.take j).flatMap (gG b m mv n (b ^ m) th))→
      Y [some (.int (b:Nat)),some (.ref la),some (.ref ia),some (.ref ta),some (.ref ha),some (.int (many:Nat)),some (.ref D),some (.ref L),some (.ref na),some (.ref ra),v10,v11,kD] H2:=by
     intro H2 mW s2 d2 Qj Km hv l2 h2
     subst hY
     obtain⟨v,ev⟩:=Option.isSome_iff_exists.mp hv
     obtain⟨S,l,ps,eS,rfl,nl,el,pa⟩:=Km _ _ ev
     have eS':=B8 eS
     subst eS'
     have dg:g7 H2 D (.ref ra) (some (.ref l)):=by
      have:=g7.t (b:=ra) (k:=fF y.2) d2 (by rw[qC];exact s2 _ _ era)
      rw[ev] at this
      exact this
     refine⟨_,rfl,_,rfl,D,.ref l,rfl,dg,_,rfl,⟨_,.of el⟩,?_⟩
     refine g_ (xs:=ps.map V.ref) (fun i σ H'=>∃(ls':List Addr) (v10 v11 kD:Option V),σ=[some (.int (b:Nat)),some (.ref la),some (.ref ia),some (.ref ta),some (.ref ha),some (.int (many:Nat)),some (.ref D),some (.ref L),some (.ref na),some (.ref ra),v10,v11,kD]∧Same H H'∧H' D=some (.dT mW)∧Memo mv n (b ^ m) th L H' mW∧H' L=some (.lst (ls'.map V.ref))∧H' l=some (.lst (ps.map V.ref))∧bJ H' ls' ((hs.take j).flatMap (gG b m mv n (b ^ m) th)++((cM mv n th y.2 (b ^ m)).take i).flatMap (one b m y.1))∧de H' ps (cM mv n th y.2 (b ^ m)))
      ⟨ls,v10,v11,kD,rfl,s2,d2,Km,l2,el,by simpa using h2,pa⟩ (fun i σ H' _ ⟨_,_,_,_,_,_,_,_,_,h,_⟩=>.of h) ?_ ?_
     ·rintro i x σ H3 hx ⟨ls',v10,v11,kD,rfl,s3,d3,Dg,l3,el3,h3,Dh⟩
      obtain⟨q2,rfl,eq2⟩:=cV hx
      obtain⟨st,est,bb,Mg,G_⟩:=dW Dh eq2
      obtain⟨hc,_⟩:=pL (List.mem_of_getElem? est)
      have hi:i<(cM mv n th y.2 (b ^ m)).length:=(List.getElem?_eq_some_iff.mp est).1
      have lst:=i9 (mv:=mv) (n:=n) (th:=th) (S:=y.2) (b ^ m)
      have Td:ls'.length≤25600+256:=by
       rw[Paired.length h3,List.length_append,←Paired.length h1]
       have a1:=j3 (f:=one b m y.1) (k:=1) (w6 b m y.1) ((cM mv n th y.2 (b ^ m)).take i)
       rw[List.length_take] at a1
       omega
      refine⟨q2,_,rfl,.of Mg,rfl,_,_,rfl,_,_,rfl,rfl,?_⟩
      have G4:lps.length=b ^ m:=by rw[Paired.length tl,jB]
      have hlp:=item_at 0 (show st.1<lps.length by rw[G4];exact hc)
      obtain⟨l',hl',G5⟩:=(tl.keep s3.kt).get hlp
      rw[qB hb0 m st.1 hc] at hl'
      cases hl'
      refine⟨_,rfl,_,rfl,_,rfl,_,rfl,la,_,_,.ref (lps.getD st.1 0),rfl,rfl,.of (s3 _ _ uS),aD (by rw[List.getElem?_map,hlp];rfl),b,na,lps.getD st.1 0,y.1,fl b m st.1,rfl,s3 _ _ Aw,G5,by omega,by rw[ly,gf],by omega,fun p H4 s4 ep=>?_⟩
      refine⟨_,rfl,p,aj (more b y.1 (fl b m st.1)),rfl,.of ep,_,rfl,?_⟩
      rw[As]
      have nxt:((cM mv n th y.2 (b ^ m)).take (i+1)).flatMap (one b m y.1)=((cM mv n th y.2 (b ^ m)).take i).flatMap (one b m y.1)++one b m y.1 st:=by
       rw[take_snoc est,List.flatMap_append];simp
      have pO:=s3.trans s4
      refine cG (fun z3=>?_) (fun z3=>?_)
      ·refine⟨_,rfl,.inl ⟨rfl,_,.of (s4 _ _ l3)⟩,_,rfl,_,rfl,by show 2≤sizeLine;omega,fun r hr'=>?_⟩
       have sr:=Same.new (o:=.tup [.ref p,.ref bb]) hr'
       have Qk:L≠r:=ay (s4 _ _ l3) hr'
       refine⟨L,_,_,rfl,rfl,sr _ _ (s4 _ _ l3),by rw[List.length_map];omega,?_⟩
       have kt:cH H3 (upd (upd H4 r (.tup [.ref p,.ref bb])) L (.lst (ls'.map V.ref++[.ref r]))):=fun c xs e=>by
        rw[ao (bF e l3 (fun z=>nomatch z))]
        exact sr _ _ (s4 _ _ e)
       refine⟨ls'++[r],_,_,_,rfl,(pO.trans sr).kbn hL0 KB.write,?_,?_,?_,?_,?_,Dh.keep kt⟩
       ·rw[ao GQ];exact sr _ _ (s4 _ _ d3)
       ·refine Dg.keep (fun c xs nc e=>?_) kt
        rw[ao nc];exact sr _ _ (s4 _ _ e)
       ·rw[af,List.map_append];rfl
       ·rw[ao nl];exact sr _ _ (s4 _ _ el3)
       ·rw[nxt,←List.append_assoc]
        have eo:one b m y.1 st=[(more b y.1 (fl b m st.1),st.2)]:=by unfold one;rw[if_pos z3]
        rw[eo]
        refine(h3.keep kt).snoc (a:=p) (b:=bb) ?_ ?_ (kt _ _ G_)
        ·rw[ao Qk.symm,af]
        ·rw[ao (bF ep (s4 _ _ l3) (fun z=>nomatch z))];exact sr _ _ ep
      ·have eo:one b m y.1 st=[]:=by unfold one;rw[if_neg z3]
       refine⟨ls',_,_,_,rfl,pO,s4 _ _ d3,Dg.keep (fun c xs _ e=>s4 _ _ e) s4.kt,s4 _ _ l3,s4 _ _ el3,?_,Dh.keep s4.kt⟩
       rw[nxt,eo,List.append_nil]
       exact h3.keep s4.kt
     ·rintro σ H3 ⟨ls',v10,v11,kD,rfl,s3,d3,Dg,l3,el3,h3,Dh⟩
      rw[List.length_map,Paired.length pa,List.take_length] at h3
      refine⟨ls',mW,_,_,_,_,_,rfl,s3,d3,Qj,Dg,l3,?_⟩
      have e:(hs.take (j+1)).flatMap (gG b m mv n (b ^ m) th)=(hs.take j).flatMap (gG b m mv n (b ^ m) th)++gG b m mv n (b ^ m) th y:=by
       rw[take_snoc ey,List.flatMap_append];simp
      rw[e]
      exact h3
    refine⟨_,rfl,_,rfl,D,_,rfl,g7.t (k:=fF y.2) d1 (by rw[qC];exact s1 _ _ era),_,rfl,?_⟩
    refine cG (fun z2=>?_) (fun z2=>?_)
    ·refine⟨_,rfl,_,rfl,_,rfl,ia,ra,ta,mv,n,b ^ m,y.2,th,rfl,hia.keep s1,hn,by omega,s1 _ _ era,Qi,lty,je eta s1,fun p ps H2 hp s2 e2 p2=>?_⟩
     have Ql:L≠p:=ay l1 hp
     have TX:D≠p:=ay d1 hp
     refine⟨_,rfl,_,rfl,D,_,rfl,j8.t (k:=fF y.2) (s2 _ _ d1) (by rw[qC];exact s2 _ _ (s1 _ _ era)) (by omega),?_⟩
     have kt:cH H2 (upd H2 D (.dT (putK kvs (fF y.2) (.ref p)))):=fun c xs e=>by
      rw[ao (bF e (s2 _ _ d1) (fun z=>nomatch z))];exact e
     have kl:∀c xs,H2 c=some (.lst xs)→upd H2 D (.dT (putK kvs (fF y.2) (.ref p))) c=some (.lst xs):=fun c xs e=>by
      rw[ao (bF e (s2 _ _ d1) (fun z=>nomatch z))];exact e
     have zn:bW kvs (fF y.2)=none:=by
      cases e:bW kvs (fF y.2) with
      | none=>rfl
      | some v=>rw[e] at z2;exact absurd z2 (by simp)
     refine rest _ _ ((s1.trans s2).kbn hD KB.write) af ?_ ?_ ?_ (kl _ _ (s2 _ _ l1)) (h1.keep fun c xs e=>kt _ _ (s2 _ _ e))
     ·rw[tW _ zn,List.length_append]
      show kvs.length+1≤j+1
      omega
     ·intro kk v e
      rw[tV] at e
      by_cases ek:kk=fF y.2
      ·rw[if_pos ek] at e
       cases e
       exact⟨y.2,p,ps,ek,rfl,Ql.symm,kl _ _ e2,p2.keep kt⟩
      ·rw[if_neg ek] at e
       exact(me.keep (H':=upd H2 D (.dT (putK kvs (fF y.2) (.ref p)))) (fun c xs _ e=>kl _ _ (s2 _ _ e)) (fun c xs e=>kt _ _ (s2 _ _ e))) kk v e
     ·rw[tV,if_pos rfl];rfl
    ·refine rest H1 kvs s1 d1 (by omega) me ?_ l1 h1
     cases e:bW kvs (fF y.2) with
     | none=>rw[e] at z2;exact absurd rfl z2
     | some v=>rfl
  ·rintro σ H1 ⟨ls,kvs,v8,v9,v10,v11,kD,rfl,s1,d1,lk,me,l1,h1⟩
   rw[List.length_map,oh,List.take_length] at h1
   refine⟨_,rfl,_,rfl,_,rfl,_,_,rfl,.of l1,fun p hp=>?_⟩
   have sp:=Same.new (o:=.lst (eO (ls.map V.ref) none (some (many:Int)))) hp
   refine k p (ls.take many) _ (s1.free hp) (s1.trans sp) ?_ (bJ.take _ (h1.keep sp.kt))
   rw[af,jC,List.map_take]
def oP (bs:List Bool):List Nat:=(List.range bs.length).filter fun r=>bs.getD r false
def hds (b m many:Nat) (bs:List Bool) (mv:List (List Nat)) (au:List (List Nat)):Nat→List (List Nat×List Nat)
 | 0=>[(List.replicate m 0,oP bs)]
 | i+1=>((hds b m many bs mv au i).flatMap (gG b m mv bs.length (b ^ m) (au.getD (au.length-1-i) []))).take many
theorem G6 {b m:Nat} {mv:List (List Nat)} {n B:Nat} {th:List Nat} {x y:List Nat×List Nat} (hx:x.1.length=m) (h:y∈gG b m mv n B th x):y.1.length=m∧y.2.Nodup∧∀r∈y.2,r<n:=by
 unfold gG at h
 obtain⟨s,hs,hy⟩:=List.mem_flatMap.mp h
 obtain⟨h1,h2⟩:=pL hs
 unfold one at hy
 split at hy
 ·rw[List.mem_singleton.mp hy]
  refine⟨?_,?_,fun r hr=>?_⟩
  ·show(more b x.1 (fl b m s.1)).length=m
   unfold more
   rw[List.length_zipWith,hx,gf,Nat.min_self]
  ·show s.2.Nodup
   rw[h2];exact Ar.imp fun h=>Nat.ne_of_lt h
  ·rw[h2] at hr
   exact(wZ.mp hr).1
 ·cases hy
theorem Ax {b m many:Nat} {bs:List Bool} {mv:List (List Nat)} {au:List (List Nat)}:∀i,∀x∈hds b m many bs mv au i,x.1.length=m∧x.2.Nodup∧∀r∈x.2,r<bs.length
 | 0,x,hx=>by
  rw[List.mem_singleton.mp hx]
  refine⟨List.length_replicate,List.Pairwise.sublist List.filter_sublist List.nodup_range,fun r hr=>?_⟩
  exact List.mem_range.mp (List.mem_filter.mp hr).1
 | i+1,x,hx=>by
  obtain⟨y,hy,hxy⟩:=List.mem_flatMap.mp (List.mem_of_mem_take hx)
  exact G6 (Ax i y hy).1 hxy
theorem w8 {b m many:Nat} {bs:List Bool} {mv:List (List Nat)} {au:List (List Nat)} (h:many≤100):∀i,(hds b m many bs mv au i).length≤100
 | 0=>by show 1≤100;omega
 | i+1=>by
  show(List.take _ _).length≤100
  rw[List.length_take];omega
def bQ (H:Hp) (ds:List Addr) (au:List (List Nat)):Prop:=Paired (fun(d:Addr) (th:List Nat)=>Rd H d (.dK (aR th))) ds au
theorem bQ.keep {H H':Hp} {ds:List Addr} {au:List (List Nat)} (h:bQ H ds au) (s:Same H H'):bQ H' ds au:=by
 unfold bQ at h ⊢
 induction h with
 | nil=>exact .nil
 | cons r t ih=>exact .cons (je r s) ih
theorem Ay {H:Hp} {qs:List Addr} {xs:List (List Int)} {q:Addr} {x:List Int} (h:bD H qs xs) (e:H q=some (.tup (x.map V.int))):bD H (qs++[q]) (xs++[x]):=by
 unfold bD at h ⊢
 induction h with
 | nil=>exact .cons e .nil
 | cons r t ih=>exact .cons r ih
def JE:Sp:=fun vs H Q _=>∃(b m many:Nat) (ma nm ia rd:Addr) (ns:List V) (bs:List Bool) (mv:List (List Nat)) (ds:List Addr) (au:List (List Nat)),vs=[.int b,.ref ma,.ref ia,.ref rd,.int many]∧0<b∧b≤4∧m≤4∧cy H ma nm bs mv∧H nm=some (.tup ns)∧ns.length=m∧bs.length≤60∧
 iM H ia (b ^ m) bs.length mv∧H rd=some (.lst (ds.map V.ref))∧bQ H ds au∧many≤100∧
 ∀(p:Addr) (qs:List Addr) (H':Hp),H p=none→Same H H'→H' p=some (.lst (qs.map V.ref))→bD H' qs ((hds b m many bs mv au au.length).map fun x=>aj x.1)→Q (.ref p) H'
theorem du:aY ["base","machine","into","reached","many","letters","heads","there"] ["base","machine","into","reached","many"] (aq cm):=⟨rfl,rfl,rfl,by decide+kernel,rfl,by decide+kernel,by decide+kernel⟩
set_option maxHeartbeats 16000000 in
theorem nR {a:eK} (T:Txt K mg a):bR P w K mg base dr 3 a.fb a.fZ ["base","machine","into","reached","many"] JE:=by
 have iV:=kG (P:=P) (w:=w) (base:=base) T
 have fG:=iT (P:=P) (w:=w) (base:=base) T
 have kj:=mT (P:=P) (w:=w) (base:=base) T
 have qD:=pN (P:=P) (w:=w) (base:=base) T
 refine T.oG.ok du (fun vs H Q E h=>?_) (fun cdv A outer s H vs Q E hr h=>?_)
 ·obtain⟨b,m,many,ma,nm,ia,rd,ns,bs,mv,ds,au,rfl,_⟩:=h
  rfl
 ·obtain⟨b,m,many,ma,nm,ia,rd,ns,bs,mv,ds,au,rfl,hb0,hb,hm,hma,i4,rF,hn,hia,uR,G7,nE,k⟩:=h
  have pP:aX 2 _:=hr
  have il:aX 1 _:=hr.mono (by decide)
  have fg:aX 1 _:=hr.mono (by decide)
  have jD:aX 1 _:=hr.mono (by decide)
  refine⟨_,(ah (aC (i:=5) du.nd rfl (Or.inl rfl) (aG iV il rfl T.lL T.lM T.lN .nil aO (ae (pv 0) (ae (aL (aW K) (by rfl) T.cF bP (ae (aE (aP K) (pv 1) ak (fun _ _=>rfl)) ag)) ag))))
  (ah (aC (i:=6) du.nd rfl (Or.inl rfl) (bx (ae (bX (ae (aG fG fg rfl T.jv T.jw T.jx .nil aO (ae (pv 1) ag)) (ae (aG kj jD rfl T.nV T.nW T.nX .nil aO (ae (pv 1) ag)) ag))) ag)))
  (ah (bh PassesOwn.never rfl (zj rfl T.pB (ae (pv 3) ag)) (az (i:=7) du.nd rfl (Or.inl rfl))
   (ax (aC (i:=6) du.nd rfl (Or.inl rfl) (aG qD pP rfl T.qq T.qr T.qt .nil aO (ae (pv 0) (ae (pv 5) (ae (pv 2) (ae (pv 7) (ae (pv 6) (ae (pv 4) ag))))))))))
  (ax (aS (cg (aJ.mk' (esc:=aq cm) (N:=["base","machine","into","reached","many","letters","heads","there"]) (own:=["head"]) (bu:=[]) (bB:=[]) rfl rfl (by decide+kernel)) rfl (c_ (pv 6)) (fun _ _ _ _=>(az (i:=0) (show List.Nodup (["head"]:List Str) by decide+kernel) rfl (Or.inl rfl))) (fun _ _ _ _=>bM) (fun _ _ _ _=>(aE (aP K) (pv 0) ak (fun _ _=>rfl))))))))),?_⟩
  have big:(1000000:Nat)≤sizeLine:=by decide
  have oQ:=hma
  obtain⟨ya,va,ps,e1,e2,e3,tp⟩:=oQ
  have xa:ds.length=au.length:=Paired.length G7
  refine⟨_,rfl,_,rfl,ma,_,_,.ref nm,rfl,rfl,.of e1,aD (j:=0) rfl,_,_,rfl,.inr ⟨_,.of i4,rfl⟩,b,ns.length,rfl,hb,by omega,fun la lps H1 hla s1 uS tl=>?_⟩
  rw[rF] at tl
  dsimp only[aH]
  refine⟨_,rfl,ma,nm,bs,mv,ns,rfl,hma.keep s1.kt,s1 _ _ i4,by omega,fun za H2 s2 Kn=>?_⟩
  rw[rF] at Kn
  have Az:=s1.trans s2
  refine⟨_,rfl,ma,nm,bs,mv,rfl,hma.keep Az.kt,hn,fun yl H3 s3 Di=>?_⟩
  have cW:=Az.trans s3
  refine⟨by show 2≤sizeLine;omega,fun q0 hq0=>?_⟩
  have s4:=Same.new (o:=.tup [.ref za,.ref yl]) hq0
  have kH:=cW.trans s4
  refine⟨by show 1≤sizeLine;omega,fun ha Qm=>?_⟩
  have s5:=Same.new (o:=.lst [.ref q0]) Qm
  have md:=kH.trans s5
  dsimp only[aH]
  have Dj:Same H1 _:=s2.trans (s3.trans (s4.trans s5))
  have hd0:bJ (upd (upd H3 q0 (.tup [.ref za,.ref yl])) ha (.lst [.ref q0])) [q0] (hds b m many bs mv au 0):=.cons ⟨za,yl,s5 _ _ af,s5 _ _ (s4 _ _ (s3 _ _ Kn)),s5 _ _ (s4 _ _ Di)⟩ .nil
  have Av:(upd (upd H3 q0 (.tup [.ref za,.ref yl])) ha (.lst [.ref q0])) ha=some (.lst ([q0].map V.ref)):=af
  have G8:=Dj _ _ uS
  have Ko:=tl.keep Dj.kt
  generalize upd (upd H3 q0 (.tup [.ref za,.ref yl])) ha (.lst [.ref q0])=H5 at md hd0 Av G8 Ko ⊢
  refine⟨_,rfl,rd,_,rfl,.of (md _ _ uR),?_⟩
  refine wF (xs:=ds.map V.ref) (fun i σ H'=>∃(ha:Addr) (qs:List Addr) (v7:Option V),σ=[some (.int (b:Nat)),some (.ref ma),some (.ref ia),some (.ref rd),some (.int (many:Nat)),some (.ref la),some (.ref ha),v7]∧Same H5 H'∧H' ha=some (.lst (qs.map V.ref))∧bJ H' qs (hds b m many bs mv au i))
   ⟨ha,[q0],none,rfl,Same.refl _,Av,hd0⟩ (fun i σ H' _ ⟨_,_,_,_,s',_⟩=>.of (s' _ _ (md _ _ uR))) ?_ ?_
  ·rintro i x σ H6 hi hx ⟨ha,qs,v7,rfl,s6,e6,h6⟩
   rw[List.length_map] at hx hi
   obtain⟨d,rfl,ed⟩:=cV hx
   obtain⟨th,Qn,Qo⟩:=dW G7 ed
   have kI:=md.trans s6
   refine⟨_,rfl,_,rfl,_,rfl,_,rfl,_,rfl,_,rfl,b,m,bs.length,many,la,ia,d,ha,lps,qs,mv,th,hds b m many bs mv au i,rfl,hb0,hb,hm,s6 _ _ G8,Ko.keep s6.kt,hia.keep kI,hn,je Qo kI,e6,h6,w8 nE i,nE,Ax i,fun p pM H7 hp s7 e7 h7=>?_⟩
   refine⟨p,pM,_,rfl,s6.trans s7,e7,?_⟩
   have et:au.getD (au.length-1-i) []=th:=by rw[List.getD_eq_getElem?_getD,←xa,Qn];rfl
   show bJ H7 pM (((hds b m many bs mv au i).flatMap (gG b m mv bs.length (b ^ m) (au.getD (au.length-1-i) []))).take many)
   rw[et];exact h7
  ·rintro σ H6 ⟨ha,qs,v7,rfl,s6,e6,h6⟩
   rw[List.length_map,xa] at h6
   have kI:=md.trans s6
   have lq:qs.length≤100:=by rw[Paired.length h6];exact w8 nE _
   refine⟨_,rfl,_,rfl,⟨_,.of e6⟩,fun D hD=>?_⟩
   refine ft (xs:=qs.map V.ref) (fun j σ H'=>∃(v:Option V) (rs:List Addr),σ=[v]∧Same H6 H'∧H' D=some (.lst (rs.map V.ref))∧rs.length=j∧bD H' rs (((hds b m many bs mv au au.length).take j).map fun x=>aj x.1))
    ⟨none,[],?sg,Same.new hD,af,rfl,.nil⟩ (fun j σ H' _ ⟨_,_,_,s',_⟩=>.of (s' _ _ e6)) ?_ ?_
   case sg=>rfl
   ·rintro j x σ H7 hx ⟨v,rs,rfl,s7,d7,l7,t7⟩
    obtain⟨q,rfl,eq⟩:=cV hx
    have hj:j<qs.length:=(List.getElem?_eq_some_iff.mp eq).1
    obtain⟨y,ey,na,ra,G3,Aw,era⟩:=dW h6 eq
    refine⟨_,rfl,q,_,_,.ref na,rfl,rfl,.of (s7 _ _ G3),aD (j:=0) rfl,_,d7,by rw[List.length_map];omega,_,rs++[na],rfl,s7.kbn hD KB.write,by rw[af,List.map_append];rfl,by rw[List.length_append,l7];rfl,?_⟩
    rw[take_snoc ey,List.map_append]
    have kt:cH H7 (upd H7 D (.lst (rs.map V.ref++[.ref na]))):=fun c xs e=>by
     rw[ao (bF e d7 (fun z=>nomatch z))];exact e
    exact Ay (t7.keep kt) (kt _ _ (s7 _ _ Aw))
   rintro σ H7 ⟨v,rs,rfl,s7,d7,l7,t7⟩
   rw[List.length_map,Paired.length h6,List.take_length] at t7
   exact k D rs H7 (kI.free hD) (kI.trans s7) d7 t7
def aZ (b m:Nat):List Nat→List Nat
 | []=>List.replicate m 0
 | a::s=>more b (aZ b m s) (fl b m a)
theorem fH {b m:Nat}:∀s,(aZ b m s).length=m
 | []=>List.length_replicate
 | a::s=>by
  show(more _ _ _).length=m
  unfold more
  rw[List.length_zipWith,fH s,gf,Nat.min_self]
theorem xb {b:Nat} (hb:0<b):∀m,fl b m 0=List.replicate m 0
 | 0=>rfl
 | m+1=>by
  show fl b m (0 / b)++[0 % b]=_
  rw[Nat.zero_div,Nat.zero_mod,xb hb m,List.replicate_succ']
theorem uY {b:Nat} (hb:0<b):∀(m c:Nat),c<b ^ m→((fl b m c).any (· != 0)=true↔0<c)
 | 0,c,h=>by
  have:c=0:=by simpa using h
  subst this;simp[fl]
 | m+1,c,h=>by
  have h1:c / b<b ^ m:=by
   rw[Nat.div_lt_iff_lt_mul hb]
   rw[Nat.pow_succ] at h;exact h
  show(fl b m (c / b)++[c % b]).any _=true↔_
  rw[List.any_append,Bool.or_eq_true,uY hb m _ h1]
  have e:=Nat.div_add_mod c b
  constructor
  ·rintro(h | h)
   ·have:0<b*(c / b):=Nat.mul_pos hb h
    omega
   ·simp at h;omega
  ·intro h
   by_cases z:c % b=0
   ·left
    by_cases y:c / b=0
    ·rw[y,z] at e;simp at e;omega
    ·exact Nat.pos_of_ne_zero y
   ·right;simp[z]
theorem jE {b:Nat} (hb:0<b):∀{ns fs:List Nat},ns.length=fs.length→((more b ns fs).any (· != 0)=true↔ns.any (· != 0)=true∨fs.any (· != 0)=true)
 | [],[],_=>by simp[more]
 | [],_::_,h=>by simp at h
 | _::_,[],h=>by simp at h
 | x::ns,y::fs,h=>by
  have ih:=jE hb (ns:=ns) (fs:=fs) (by simpa using h)
  show((x*b+y != 0)||(more b ns fs).any _)=true↔_
  rw[Bool.or_eq_true,ih,List.any_cons,List.any_cons,Bool.or_eq_true,Bool.or_eq_true]
  have:(x*b+y != 0)=true↔(x != 0)=true∨(y != 0)=true:=by
   simp only[bne_iff_ne,ne_eq]
   constructor
   ·intro z
    by_cases hx:x=0
    ·subst hx;right;intro hy;apply z;simp[hy]
    ·exact .inl hx
   ·rintro(hx | hy) z
    ·have:0<x*b:=Nat.mul_pos (by omega) hb
     omega
    ·omega
  rw[this]
  constructor
  ·rintro((h | h) | h | h)
   ·exact .inl (.inl h)
   ·exact .inr (.inl h)
   ·exact .inl (.inr h)
   ·exact .inr (.inr h)
  ·rintro((h | h) | h | h)
   ·exact .inl (.inl h)
   ·exact .inr (.inl h)
   ·exact .inl (.inr h)
   ·exact .inr (.inr h)
theorem oR {b m:Nat} (hb:0<b):∀(s:List Nat),(∀a∈s,a<b ^ m)→((aZ b m s).any (· != 0)=true↔∃a∈s,0<a)
 | [],_=>by
  show(List.replicate m 0).any _=true↔_
  simp
 | a::s,h=>by
  show(more b (aZ b m s) (fl b m a)).any _=true↔_
  rw[jE hb (by rw[fH,gf]),oR hb s (fun x hx=>h x (List.mem_cons_of_mem _ hx)),uY hb m a (h a List.mem_cons_self)]
  constructor
  ·rintro(⟨x,h1,h2⟩ | h)
   ·exact⟨x,List.mem_cons_of_mem _ h1,h2⟩
   ·exact⟨a,List.mem_cons_self,h⟩
  ·rintro⟨x,h1,h2⟩
   rcases List.mem_cons.mp h1 with rfl | h1
   ·exact .inr h2
   ·exact .inl ⟨x,h1,h2⟩
def cC (bs:List Bool) (mv:List (List Nat)) (au:List (List Nat)) (s:List Nat):List Nat:=(List.range bs.length).filter fun r=>decide (r∈au.getD (au.length-s.length) [])&&bs.getD (rn (stp mv) r s) false
def hf (b m:Nat) (bs:List Bool) (mv:List (List Nat)) (au:List (List Nat)) (s:List Nat):List Nat×List Nat:=(aZ b m s,cC bs mv au s)
def j4 (bs:List Bool) (mv:List (List Nat)) (au:List (List Nat)) (s:List Nat):Bool:= !(cC bs mv au s).isEmpty
theorem gW {α β:Type} {f:α→β} {p:α→Bool}:∀l:List α,(l.filter p).map f=l.flatMap fun x=>if p x=true then [f x] else []
 | []=>rfl
 | x::l=>by
  rw[List.flatMap_cons,←gW l,List.filter_cons]
  by_cases h:p x=true
  ·rw[if_pos h,if_pos h];rfl
  ·rw[if_neg h,if_neg h];rfl
section
variable {b m:Nat} {bs:List Bool} {mv:List (List Nat)} {au:List (List Nat)}
def jF (bs:List Bool) (mv:List (List Nat)) (B:Nat) (au:List (List Nat)):Prop:=∀k,k<au.length→∀r,r∈au.getD k []↔Ly (stp mv) B (fun r=>bs.getD r false) k r
theorem nF {n B:Nat} {y:Nat→Bool} {st:Nat→Nat→Nat} (hst:∀r a,r<n→a<B→st r a<n) (h0:0<n) {k r:Nat} (h:Ly st B y k r):r<n:=by
 obtain⟨u,_,h2,rfl⟩:=jd h
 exact j0 hst u h0 h2
theorem uZ {B:Nat} (mo:Moves bs.length B mv) (h0:0<bs.length) (L:jF bs mv B au) {s:List Nat} (hs:0<s.length) (hl:s.length≤au.length):j4 bs mv au s=true↔Kept (stp mv) B (fun r=>bs.getD r false) au.length s:=by
 unfold j4 Kept
 have hst:∀r a,r<bs.length→a<B→stp mv r a<bs.length:=fun r a h1 h2=>mo.stp h1 h2
 constructor
 ·intro h
  have:cC bs mv au s≠[]:=fun e=>by rw[e] at h;simp at h
  obtain⟨r,hr⟩:=List.exists_mem_of_ne_nil _ this
  unfold cC at hr
  rw[List.mem_filter,Bool.and_eq_true,decide_eq_true_iff] at hr
  exact⟨r,(L _ (by omega) r).mp hr.2.1,hr.2.2⟩
 ·rintro⟨r,h1,h2⟩
  have hr:r∈cC bs mv au s:=by
   unfold cC
   rw[List.mem_filter,Bool.and_eq_true,decide_eq_true_iff,List.mem_range]
   exact⟨nF hst h0 h1,(L _ (by omega) r).mpr h1,h2⟩
  cases e:cC bs mv au s with
  | nil=>rw[e] at hr;cases hr
  | cons x l=>rfl
theorem AA {B:Nat} (mo:Moves bs.length B mv) (L:jF bs mv B au) {s u:List Nat} {a c:Nat} (es:s=u++[a]) (hu:Lets B u) (ha:0<a) (oj:a<B) (hl:s.length<au.length) (hc:c<B):
  pre mv bs.length (au.getD (au.length-1-s.length) []) (cC bs mv au s) c=cC bs mv au (c::s):=by
 unfold pre
 conv=>rhs;unfold cC
 refine List.filter_congr fun r hr=>?_
 have hr':=List.mem_range.mp hr
 have el:au.length-(c::s).length=au.length-1-s.length:=by rw[List.length_cons];omega
 have lp:0<s.length:=by rw[es];simp
 rw[el]
 rw[Bool.eq_iff_iff,Bool.and_eq_true,Bool.and_eq_true,decide_eq_true_iff,decide_eq_true_iff,And.comm]
 refine and_congr_right fun h1=>?_
 unfold cC
 rw[List.mem_filter,List.mem_range,Bool.and_eq_true,decide_eq_true_iff]
 constructor
 ·exact fun h=>h.2.2
 ·intro h
  refine⟨mo.stp hr' hc,(L _ (by omega) _).mpr ?_,h⟩
  have e1:au.length-s.length=(au.length-1-s.length)+1:=by omega
  rw[e1]
  refine⟨?_,r,c,(L _ (by omega) r).mp h1,hc,rfl⟩
  refine mP hu ha oj ?_
  rw[←es];exact h
theorem yp {B:Nat} (L:jF bs mv B au) (mo:Moves bs.length B mv) (hl:0<au.length) {c:Nat} (hc:c<B):pre mv bs.length (au.getD (au.length-1-0) []) (oP bs) c=cC bs mv au [c]:=by
 unfold pre
 conv=>rhs;unfold cC
 refine List.filter_congr fun r hr=>?_
 have hr':=List.mem_range.mp hr
 have el:au.length-[c].length=au.length-1-0:=rfl
 rw[el]
 rw[Bool.eq_iff_iff,Bool.and_eq_true,Bool.and_eq_true,decide_eq_true_iff,decide_eq_true_iff,And.comm]
 refine and_congr_right fun h1=>?_
 unfold oP
 rw[List.mem_filter,List.mem_range]
 exact⟨fun h=>h.2,fun h=>⟨mo.stp hr' hc,h⟩⟩
theorem u_ {ns:List Nat} {s:Nat×List Nat} (h:(more b ns (fl b m s.1)).any (· != 0)=true):one b m ns s=[(more b ns (fl b m s.1),s.2)]:=by unfold one;rw[if_pos h]
theorem B9 (hb:0<b) (mo:Moves bs.length (b ^ m) mv) (L:jF bs mv (b ^ m) au) {s u:List Nat} {a:Nat} (es:s=u++[a]) (hu:Lets (b ^ m) u) (ha:0<a) (oj:a<b ^ m) (hl:s.length<au.length):
  gG b m mv bs.length (b ^ m) (au.getD (au.length-1-s.length) []) (hf b m bs mv au s)=(((List.range (b ^ m)).map (· ::s)).filter (j4 bs mv au)).map (hf b m bs mv au):=by
 rw[gW,ie]
 unfold gG cM
 rw[iJ]
 refine ck fun c hc=>?_
 have hc':=List.mem_range.mp hc
 have ep:=AA mo L es hu ha oj hl hc'
 have Mh:∀x∈s,x<b ^ m:=fun x hx=>by
  rw[es] at hx
  rcases List.mem_append.mp hx with z | z
  ·exact hu x z
  ·rw[List.mem_singleton.mp z];exact oj
 have key:∀X:List Nat,X=cC bs mv au (c::s)→(if X=[] then [] else [(c,X)]).flatMap (one b m (aZ b m s))=if j4 bs mv au (c::s)=true then [hf b m bs mv au (c::s)] else []:=by
  intro X eX
  subst eX
  unfold j4
  by_cases e:cC bs mv au (c::s)=[]
  ·rw[if_pos e,e,if_neg (by simp)];rfl
  ·rw[if_neg e,if_pos (by cases h:cC bs mv au (c::s) with | nil=>exact absurd h e | cons x l=>rfl),List.flatMap_cons,List.flatMap_nil,List.append_nil]
   refine u_ (b:=b) (m:=m) (ns:=aZ b m s) (s:=(c,cC bs mv au (c::s))) ?_
   rw[jE hb (by rw[fH,gf])]
   refine .inl ((oR hb s Mh).mpr ⟨a,?_,ha⟩)
   rw[es];simp
 exact key _ ep
theorem EK (hb:0<b) (mo:Moves bs.length (b ^ m) mv) (L:jF bs mv (b ^ m) au) (hl:0<au.length) (many:Nat):hds b m many bs mv au 1=((((Xw (b ^ m) 1).filter (j4 bs mv au)).take many).map (hf b m bs mv au)):=by
 show(([(List.replicate m 0,oP bs)]:List (List Nat×List Nat)).flatMap (gG b m mv bs.length (b ^ m) (au.getD (au.length-1-0) []))).take many=_
 rw[List.flatMap_cons,List.flatMap_nil,List.append_nil,List.map_take,Gx]
 congr 1
 rw[gW,ie]
 unfold gG cM
 rw[iJ,og (Nat.pow_pos hb),List.flatMap_cons]
 have h0:∀X:List Nat,one b m (List.replicate m 0) (0,X)=[]:=fun X=>by
  unfold one
  rw[if_neg]
  intro z
  rw[jE hb (by rw[List.length_replicate,gf]),xb hb] at z
  simp at z
 have hz:(if pre mv bs.length (au.getD (au.length-1-0) []) (oP bs) 0=[] then [] else [(0,pre mv bs.length (au.getD (au.length-1-0) []) (oP bs) 0)]).flatMap (one b m (List.replicate m 0))=[]:=by
  split
  ·rfl
  ·rw[List.flatMap_cons,h0];rfl
 refine(congrArg (· ++_) hz).trans ?_
 rw[List.nil_append]
 refine ck fun c hc=>?_
 have hc':=List.mem_range'_1.mp hc
 have hcB:c<b ^ m:=by omega
 have ep:=yp L mo hl hcB
 show(if pre mv bs.length _ (oP bs) c=[] then [] else _).flatMap _=_
 rw[ep]
 unfold j4
 by_cases e:cC bs mv au [c]=[]
 ·rw[if_pos e,e,if_neg (by simp)];rfl
 ·rw[if_neg e,if_pos (by cases h:cC bs mv au [c] with | nil=>exact absurd h e | cons x l=>rfl),List.flatMap_cons,List.flatMap_nil,List.append_nil]
  refine u_ (b:=b) (m:=m) (ns:=List.replicate m 0) (s:=(c,cC bs mv au [c])) ?_
  rw[jE hb (by rw[List.length_replicate,gf])]
  exact .inr ((uY hb m c hcB).mpr (by omega))
theorem AB (hb:0<b) (mo:Moves bs.length (b ^ m) mv) (L:jF bs mv (b ^ m) au) (h0:0<bs.length) (many:Nat):∀i,i<au.length→hds b m many bs mv au (i+1)=((((Xw (b ^ m) (i+1)).filter (j4 bs mv au)).take many).map (hf b m bs mv au))
 | 0,hl=>EK hb mo L hl many
 | i+1,hl=>by
  show((hds b m many bs mv au (i+1)).flatMap (gG b m mv bs.length (b ^ m) (au.getD (au.length-1-(i+1)) []))).take many=_
  rw[AB hb mo L h0 many i (by omega),ie]
  have e:((((Xw (b ^ m) (i+1)).filter (j4 bs mv au)).take many).flatMap fun s=>gG b m mv bs.length (b ^ m) (au.getD (au.length-1-(i+1)) []) (hf b m bs mv au s))=((((Xw (b ^ m) (i+1)).filter (j4 bs mv au)).take many).flatMap fun s=>((List.range (b ^ m)).map (· ::s)).filter (j4 bs mv au)).map (hf b m bs mv au):=by
   rw[lC]
   refine ck fun s hs=>?_
   obtain⟨l1,l2,u,a,es,ha,oj,hu⟩:=jy (List.mem_filter.mp (List.mem_of_mem_take hs)).1
   have:=B9 hb mo L es hu ha oj (by omega)
   rw[l1] at this
   exact this
  rw[e,←List.map_take]
  congr 1
  have dd:∀s,Decidable (Kept (stp mv) (b ^ m) (fun r=>bs.getD r false) au.length s):=fun s=>Classical.propDecidable _
  have hk:∀s,(fun s=>decide (Kept (stp mv) (b ^ m) (fun r=>bs.getD r false) au.length s)) s=true↔Kept (stp mv) (b ^ m) (fun r=>bs.getD r false) au.length s:=fun s=>decide_eq_true_iff
  have kk:∀s,0<s.length→s.length≤au.length→j4 bs mv au s=(fun s=>decide (Kept (stp mv) (b ^ m) (fun r=>bs.getD r false) au.length s)) s:=fun s h1 h2=>by
   rw[Bool.eq_iff_iff,hk,uZ mo h0 L h1 h2]
  generalize (fun s=>decide (Kept (stp mv) (b ^ m) (fun r=>bs.getD r false) au.length s))=kp at hk kk
  have f1:∀j,j+1≤au.length→(Xw (b ^ m) (j+1)).filter (j4 bs mv au)=(Xw (b ^ m) (j+1)).filter kp:=fun j hj=>List.filter_congr fun s hs=>by
   have:=(jy hs).1
   exact kk s (by omega) (by omega)
  rw[f1 (i+1) (by omega),f1 i (by omega),←yh hk (by omega)]
  congr 1
  refine ck fun s hs=>List.filter_congr fun x hx=>?_
  obtain⟨c,_,rfl⟩:=List.mem_map.mp hx
  have:=(jy (List.mem_filter.mp (List.mem_of_mem_take hs)).1).1
  exact kk _ (by simp) (by rw[List.length_cons];omega)
theorem G9 (hb:0<b) (mo:Moves bs.length (b ^ m) mv) (L:jF bs mv (b ^ m) au) (h0:0<bs.length) (many:Nat) (hl:0<au.length) (hL:Lt (stp mv) (b ^ m) (fun r=>bs.getD r false) 0):(hds b m many bs mv au au.length).map (fun x=>x.1)=((Tw (stp mv) (b ^ m) (fun r=>bs.getD r false) au.length).take many).map (aZ b m):=by
 obtain⟨k,ek⟩:∃k,au.length=k+1:=⟨au.length-1,by omega⟩
 have e:=AB hb mo L h0 many k (by omega)
 rw[←ek] at e
 rw[e,List.map_map]
 have dd:∀s,Decidable (Kept (stp mv) (b ^ m) (fun r=>bs.getD r false) au.length s):=fun s=>Classical.propDecidable _
 have hk:∀s,(fun s=>decide (Kept (stp mv) (b ^ m) (fun r=>bs.getD r false) au.length s)) s=true↔Kept (stp mv) (b ^ m) (fun r=>bs.getD r false) au.length s:=fun s=>decide_eq_true_iff
 rw[←Ae hk hL]
 have f1:(Xw (b ^ m) au.length).filter (j4 bs mv au)=(Xw (b ^ m) au.length).filter (fun s=>decide (Kept (stp mv) (b ^ m) (fun r=>bs.getD r false) au.length s)):=List.filter_congr fun s hs=>by
  have:=(jy hs).1
  have h1:0<s.length:=by omega
  rw[Bool.eq_iff_iff,uZ mo h0 L h1 (by omega),decide_eq_true_iff]
 rw[f1]
 rfl
end
section
variable {bs:List Bool} {mv:List (List Nat)} {B:Nat}
theorem nH (mo:Moves bs.length B mv) {r t:Nat} (hr:r<bs.length):t∈mv.getD r []↔∃a,a<B∧stp mv r a=t:=by
 have h1:mv[r]? =some (mv.getD r []):=item_at [] (by rw[mo.len];exact hr)
 have h2:=(mo.lead _ (List.mem_of_getElem? h1)).1
 constructor
 ·intro h
  obtain⟨a,ha⟩:=List.getElem?_of_mem h
  refine⟨a,by rw[←h2];exact(List.getElem?_eq_some_iff.mp ha).1,?_⟩
  unfold stp
  rw[List.getD_eq_getElem?_getD,ha];rfl
 ·rintro⟨a,ha,rfl⟩
  exact List.mem_of_getElem? (item_at 0 (show a<(mv.getD r []).length by rw[h2];exact ha))
theorem jG (mo:Moves bs.length B mv) {r:Nat} (hr:r<bs.length):fE bs (mv.getD r [])=true↔Ends (stp mv) B (fun r=>bs.getD r false) r:=by
 have h1:mv[r]? =some (mv.getD r []):=item_at [] (by rw[mo.len];exact hr)
 have h2:=(mo.lead _ (List.mem_of_getElem? h1)).1
 unfold fE
 rw[List.any_eq_true]
 constructor
 ·rintro⟨t,ht,e⟩
  obtain⟨a,ha⟩:=List.getElem?_of_mem ht
  rw[List.getElem?_drop] at ha
  refine⟨1+a,by omega,by rw[←h2];exact(List.getElem?_eq_some_iff.mp ha).1,?_⟩
  show bs.getD (stp mv r (1+a)) false=true
  unfold stp
  rw[List.getD_eq_getElem?_getD (l:=mv.getD r []),ha];exact e
 ·rintro⟨a,h3,h4,h5⟩
  refine⟨stp mv r a,?_,h5⟩
  have e:=item_at 0 (show a<(mv.getD r []).length by rw[h2];exact h4)
  refine List.mem_of_getElem? (i:=a-1) ?_
  rw[List.getElem?_drop,show 1+(a-1)=a by omega];exact e
theorem AE:∀(z:List Nat) (r:Nat),run mv r z=rn (stp mv) r z
 | [],_=>rfl
 | a::z,r=>AE z (stp mv r a)
theorem EL (mo:Moves bs.length B mv) {r:Nat} (hr:r<bs.length):yn (mv.map (fE bs)) mv (List.range B) r↔Lt (stp mv) B (fun r=>bs.getD r false) r:=by
 have key:∀z,Lets B z→(lang (mv.map (fE bs)) mv r z=true↔Ends (stp mv) B (fun r=>bs.getD r false) (rn (stp mv) r z)):=fun z hz=>by
  have hl:rn (stp mv) r z<bs.length:=j0 (fun r a h1 h2=>mo.stp h1 h2) z hr hz
  rw[←jG mo hl]
  unfold lang
  rw[AE,List.getD_eq_getElem?_getD,List.getElem?_map,item_at [] (show rn (stp mv) r z<mv.length by rw[mo.len];exact hl)]
  rfl
 constructor
 ·rintro⟨z,h1,h2⟩
  have hz:Lets B z:=fun a ha=>List.mem_range.mp (h1 a ha)
  exact⟨z,hz,(key z hz).mp h2⟩
 ·rintro⟨z,h1,h2⟩
  exact⟨z,fun a ha=>List.mem_range.mpr (h1 a ha),(key z h1).mpr h2⟩
theorem G' (mo:Moves bs.length B mv) (h0:0<bs.length) {lt:List Bool} {rs es:List Nat} {k:Nat} (hlt:∀r,r<bs.length→(lt.getD r false=true↔Lt (stp mv) B (fun r=>bs.getD r false) r)) (hr:∀r,r∈rs↔Ly (stp mv) B (fun r=>bs.getD r false) k r)
  (he:∀t,t∈es↔t<bs.length∧lt.getD t false=true∧∃r∈rs,t∈mv.getD r []):∀t,t∈es↔Ly (stp mv) B (fun r=>bs.getD r false) (k+1) t:=fun t=>by
 have hst:∀r a,r<bs.length→a<B→stp mv r a<bs.length:=fun r a h1 h2=>mo.stp h1 h2
 rw[he t]
 constructor
 ·rintro⟨h1,h2,r,h3,h4⟩
  have h5:=(hr r).mp h3
  obtain⟨a,ha,e⟩:=(nH mo (nF hst h0 h5)).mp h4
  exact⟨(hlt t h1).mp h2,r,a,h5,ha,e⟩
 ·intro h
  have h1:=nF hst h0 h
  obtain⟨h2,r,a,h5,ha,e⟩:=h
  exact⟨h1,(hlt t h1).mpr h2,r,(hr r).mpr h5,(nH mo (nF hst h0 h5)).mpr ⟨a,ha,e⟩⟩
end
section
variable {st:Nat→Nat→Nat} {B:Nat} {y:Nat→Bool}
theorem oS {n:Nat} (hst:∀r a,r<n→a<B→st r a<n) {r:Nat} (hr:r<n):∀(L:Nat) (u:List Nat),u.length≤L→Lets B u→Ends st B y (rn st r u)→∃v,v.length≤n∧Lets B v∧Ends st B y (rn st r v)
 | 0,u,h1,h2,h3=>⟨u,by omega,h2,h3⟩
 | L+1,u,h1,h2,h3=>by
  by_cases h:u.length≤n
  ·exact⟨u,h,h2,h3⟩
  ·have tk:∀i,Lets B (u.take i):=fun i a ha=>h2 a (List.mem_of_mem_take ha)
   obtain⟨i,j,hij,hj,e⟩:=twice (n:=n) (f:=fun i=>rn st r (u.take i)) fun i _=>j0 hst _ hr (tk i)
   have e:rn st r (u.take i)=rn st r (u.take j):=e
   refine oS hst hr L (u.take i++u.drop j) ?_ (fun a ha=>?_) ?_
   ·rw[List.length_append,List.length_take,List.length_drop];omega
   ·rcases List.mem_append.mp ha with z | z
    ·exact tk i a z
    ·exact h2 a (List.mem_of_mem_drop z)
   ·rw[bG,e,←bG,List.take_append_drop];exact h3
def AF (st:Nat→Nat→Nat) (B:Nat) (y:Nat→Bool) (k d:Nat):Prop:=(∀r,¬Ly st B y k r)∨∃r u,Ly st B y k r∧u.length=d∧Lets B u∧Ends st B y (rn st r u)
theorem u6 {n:Nat} (hst:∀r a,r<n→a<B→st r a<n) (h0:0<n) (k:Nat):∃d,d≤n∧AF st B y k d:=by
 by_cases h:∃r,Ly st B y k r
 ·obtain⟨r,hr⟩:=h
  obtain⟨w,a1,a2⟩:=CW hr
  obtain⟨u,h1,h2,h3⟩:=oS hst (nF hst h0 hr) _ w (Nat.le_refl _) a1 a2
  exact⟨u.length,h1,.inr ⟨r,u,hr,rfl,h2,h3⟩⟩
 ·exact⟨0,Nat.zero_le _,.inl fun r hr=>h ⟨r,hr⟩⟩
theorem Ca {k d:Nat} (hne:∃r,Ly st B y k r) (hn:∀r,Ly st B y k r→¬Ends st B y r) (h:AF st B y k d):0<d∧AF st B y (k+1) (d-1):=by
 rcases h with h | ⟨r,u,h1,h2,h3,h4⟩
 ·obtain⟨r,hr⟩:=hne
  exact absurd hr (h r)
 ·cases u with
  | nil=>exact absurd h4 (hn r h1)
  | cons a u=>
   have hu:Lets B u:=fun x hx=>h3 x (List.mem_cons_of_mem _ hx)
   refine⟨by rw[←h2];simp,.inr ⟨st r a,u,⟨⟨u,hu,h4⟩,r,a,h1,h3 a List.mem_cons_self,rfl⟩,by rw[←h2];simp,hu,h4⟩⟩
def mf (st:Nat→Nat→Nat) (B:Nat) (y:Nat→Bool) (many k:Nat) (F:List (List Nat)):Prop:=F.take many=(Nw st B y k).take many∧(F.length<many→F=Nw st B y k)
theorem mf.begin (many:Nat):mf st B y many 0 (if y 0=true then [[]] else []):=⟨rfl,fun _=>rfl⟩
theorem mf.more {many k:Nat} {F:List (List Nat)} (h:mf st B y many k F) (hl:F.length<many):mf st B y many (k+1) (F++(Tw st B y (k+1)).take (many-F.length)):=by
 have e:=h.2 hl
 subst e
 constructor
 ·show _=(Nw st B y k++Tw st B y (k+1)).take many
  rw[List.take_append,List.take_append,List.take_take,Nat.min_self]
 ·intro z
  show _=Nw st B y k++Tw st B y (k+1)
  rw[List.length_append,List.length_take] at z
  rw[List.take_of_length_le (by omega)]
theorem mf.same {many k:Nat} {F:List (List Nat)} (h:mf st B y many k F) (hn:∀r,Ly st B y k r→¬Ends st B y r):mf st B y many (k+1) F:=by
 have e:Tw st B y (k+1)=[]:=by
  cases e:Tw st B y (k+1) with
  | nil=>rfl
  | cons w l=>
   obtain⟨r,h1,h2⟩:=wM (w:=w) (by rw[e];exact List.mem_cons_self)
   exact absurd h2 (hn r h1)
 have e2:Nw st B y (k+1)=Nw st B y k:=by
  show Nw st B y k++Tw st B y (k+1)=_
  rw[e,List.append_nil]
 unfold mf
 rw[e2];exact h
end
def off (H:Hp) (F:Addr):Hp:=fun a=>if a=F then none else H a
theorem off_ne {H:Hp} {F a:Addr} (h:a≠F):off H F a=H a:=if_neg h
theorem Cb {H H':Hp} {F:Addr} (s:Same H H'):Same (off H F) H':=fun a o e=>by
 unfold off at e
 split at e
 ·cases e
 ·exact s a o e
theorem AG {H H':Hp} {F:Addr} {o:HO} (s:Same (off H F) H'):Same (off H F) (upd H' F o):=fun a u e=>by
 have ne:a≠F:=fun z=>by subst z;unfold off at e;rw[if_pos rfl] at e;cases e
 rw[ao ne];exact s a u e
theorem bQ.bN {H:Hp} {ds:List Addr} {au:List (List Nat)} {d:Addr} {o:Obj} {kvs:List (Key×V)} (h:bQ H ds au) (e:H d=some (.dK kvs)):bQ (upd H d (.bN o (.dK kvs))) ds au:=by
 unfold bQ at h ⊢
 induction h with
 | nil=>exact .nil
 | @cons x th _ _ r t ih=>
  refine .cons ?_ ih
  by_cases z:x=d
  ·subst z
   rcases r with r | ⟨u,r⟩
   ·rw[e] at r
    cases r
    exact .inr ⟨o,af⟩
   ·rw[e] at r;cases r
  ·rcases r with r | ⟨u,r⟩
   ·exact .inl (by rw[ao z];exact r)
   ·exact .inr ⟨u,by rw[ao z];exact r⟩
theorem Cc {H H':Hp} {F a:Addr} {o:HO} (s:Same (off H F) H') (h:H' a=none) (hF:H' F=some o):H a=none:=by
 have ne:a≠F:=fun z=>by rw[z,hF] at h;cases h
 rw[←off_ne (H:=H) ne];exact s.free h
theorem bQ.put {H:Hp} {ds:List Addr} {au:List (List Nat)} {R:Addr} {xs ys:List V} (h:bQ H ds au) (e:H R=some (.lst xs)):bQ (upd H R (.lst ys)) ds au:=by
 unfold bQ at h ⊢
 induction h with
 | nil=>exact .nil
 | cons r t ih=>
  refine .cons ?_ ih
  rcases r with r | ⟨u,r⟩
  ·exact .inl (by rw[ao (bF r e (fun z=>nomatch z))];exact r)
  ·exact .inr ⟨u,by rw[ao (bF r e (fun z=>nomatch z))];exact r⟩
theorem bQ.snoc {H:Hp} {ds:List Addr} {au:List (List Nat)} {d:Addr} {th:List Nat} (h:bQ H ds au) (e:Rd H d (.dK (aR th))):bQ H (ds++[d]) (au++[th]):=by
 unfold bQ at h ⊢
 induction h with
 | nil=>exact .cons e .nil
 | cons r t ih=>exact .cons r ih
theorem u9 {H:Hp}:∀{ps qs:List Addr} {ls ms:List (List Int)},bD H ps ls→bD H qs ms→bD H (ps++qs) (ls++ms)
 | _,_,_,_,.nil,h=>h
 | _,_,_,_,.cons r t,h=>.cons r (u9 t h)
theorem j5 {H:Hp}:∀{ps:List Addr} {ls:List (List Int)} (n:Nat),bD H ps ls→bD H (ps.take n) (ls.take n)
 | _,_,0,_=>.nil
 | _,_,_+1,.nil=>.nil
 | _,_,n+1,.cons r t=>.cons r (j5 n t)
theorem rG {bs:List Bool} {mv:List (List Nat)} {B:Nat} {au:List (List Nat)} {th:List Nat} (h:jF bs mv B au) (e:∀r,r∈th↔Ly (stp mv) B (fun r=>bs.getD r false) au.length r):jF bs mv B (au++[th]):=fun k hk r=>by
 rw[List.length_append,List.length_singleton] at hk
 rw[List.getD_eq_getElem?_getD]
 by_cases z:k<au.length
 ·rw[List.getElem?_append_left z,←List.getD_eq_getElem?_getD];exact h k z r
 ·have:k=au.length:=by omega
  subst this
  rw[List.getElem?_append_right (Nat.le_refl _),Nat.sub_self];exact e r
theorem AH {bs:List Bool} {mv:List (List Nat)} {B:Nat} {au:List (List Nat)} {th:List Nat} (h:jF bs mv B (au++[th])):∀r,r∈th↔Ly (stp mv) B (fun r=>bs.getD r false) au.length r:=fun r=>by
 have:=h au.length (by rw[List.length_append];simp) r
 rw[List.getD_eq_getElem?_getD,List.getElem?_append_right (Nat.le_refl _),Nat.sub_self] at this
 exact this
theorem xc {c:Bool} {A B A' B':Prop} (h1:A→A') (h2:B→B') (h:if c=true then A else B):if c=true then A' else B':=by cases c<;>simp only[Bool.false_eq_true,if_true,if_false] at h ⊢ <;>first | exact h1 h | exact h2 h
def yB (bs:List Bool):Nat→Bool:=fun r=>bs.getD r false
def EM:Sp:=fun vs H Q _=>∃(b m many:Nat) (ma nm:Addr) (ns:List V) (bs:List Bool) (mv:List (List Nat)),vs=[.int b,.ref ma,.int many]∧0<b∧b≤4∧m≤4∧cy H ma nm bs mv∧H nm=some (.tup ns)∧ns.length=m∧Moves bs.length (b ^ m) mv∧0<bs.length∧bs.length≤60∧many≤100∧
 ∀(p:Addr) (qs:List Addr) (k:Nat) (H':Hp),H p=none→Same H H'→H' p=some (.lst (qs.map V.ref))→bD H' qs (((Nw (stp mv) (b ^ m) (yB bs) k).take many).map fun w=>aj (aZ b m w))→(many≤(Nw (stp mv) (b ^ m) (yB bs) k).length∨∀r,¬Ly (stp mv) (b ^ m) (yB bs) k r)→k≤10000→Q (.ref p) H'
theorem cN:aY ["base","machine","many","found","letters","into","ends","let","reached"] ["base","machine","many"] (aq cv):=⟨rfl,rfl,rfl,by decide+kernel,rfl,by decide+kernel,by decide+kernel⟩
set_option maxHeartbeats 16000000 in
theorem pQ {a:eK} (T:Txt K mg a):bR P w K mg base dr 4 a.fN a.gQ ["base","machine","many"] EM:=by
 have fG:=iT (P:=P) (w:=w) (base:=base) T
 have vb:=sh (P:=P) (w:=w) (base:=base) T
 have mX:=pH (P:=P) (w:=w) (base:=base) T
 have yq:=vR (P:=P) (w:=w) (base:=base) T
 have iW:=kF (P:=P) (w:=w) (base:=base) T
 have oT:=nR (P:=P) (w:=w) (base:=base) T
 refine T.qu.ok cN (fun vs H Q E h=>?_) (fun cdv A outer s H vs Q E hr h=>?_)
 ·obtain⟨b,m,many,ma,nm,ns,bs,mv,rfl,_⟩:=h
  rfl
 ·obtain⟨b,m,many,ma,nm,ns,bs,mv,rfl,hb0,hb,hm,hma,i4,rF,mo,h0,hn,nE,k⟩:=h
  have nS:aX 3 _:=hr
  have vT:aX 2 _:=hr.mono (by decide)
  have fg:aX 1 _:=hr.mono (by decide)
  have sk:aX 1 _:=hr.mono (by decide)
  have lG:aX 1 _:=hr.mono (by decide)
  have ip:aX 1 _:=hr.mono (by decide)
  refine⟨_,(ah (aC (i:=3) cN.nd rfl (Or.inl rfl) (tI (cb K (aE (aP K) (aE (aP K) (pv 1) ak (fun _ _=>rfl)) ak (fun _ _=>rfl)) (fun _=>rfl)) (bx (ae (aG fG fg rfl T.jv T.jw T.jx .nil aO (ae (pv 1) ag)) ag)) (bx ag)))
  (ah (aC (i:=4) cN.nd rfl (Or.inl rfl) (rY hr.hd rfl T.mO rfl T.cw (ae (aL (aW K) (by rfl) T.cF bP (ae (aE (aP K) (aE (aP K) (pv 1) ak (fun _ _=>rfl)) ak (fun _ _=>rfl)) ag)) ag)))
  (ah (dU (i:=5) (aJ.mk' (esc:=aq cv) (N:=["base","machine","many","found","letters","into","ends","let","reached"]) (own:=["letter"]) (bu:=["machine"]) (bB:=[1]) rfl rfl (by decide+kernel)) rfl (c_ (pv 4)) (fun _ _ _ _=>(az (i:=0) (show List.Nodup (["letter","machine"]:List Str) by decide+kernel) rfl (Or.inl rfl))) (fun _ _ _ _=>bM) (fun _ _ _ _=>(aG vb sk rfl T.uw T.ux T.uy .nil aO (ae (aE (aP K) (pv 1) ak (fun _ _=>rfl)) (ae (pv 0) ag)))) cN.nd rfl rfl)
  (ah (aC (i:=6) cN.nd rfl (Or.inr rfl) (aG mX lG rfl T.rj T.rq T.rA .nil aO (ae (pv 1) ag)))
  (ah (aC (i:=7) cN.nd rfl (Or.inl rfl) (aG yq vT rfl T.xX T.xY T.xZ .nil aO (ae (bX (ae (aE (aP K) (pv 1) ak (fun _ _=>rfl)) (ae (pv 6) (ae (aE (aP K) (pv 1) ak (fun _ _=>rfl)) ag)))) (ae (pv 4) ag))))
  (ah (aC (i:=8) cN.nd rfl (Or.inl rfl) (bx (ae (tI (cb K (aE (aM K) (pv 7) ak (fun _ _=>rfl)) (fun _=>rfl)) (wA (t_ ak cZ wz) rfl rfl (fun z=>nomatch z) (by decide)) kS) ag)))
  (ah (kO PassesOwn.never (PW.pt (mw (mJ (aE (aM K) (pv 8) (fI eN ak) (fun _ _=>rfl)) (fun _=>rfl)) (kn (bA sx (aL (aW K) (by rfl) T.cF bP (ae (pv 3) ag)) (pv 2) (bw _)))))
   (ah (bZ (cb K (aL (mH K rfl) (by rfl) T.sJ pf (ae (cg (aJ.mk' (esc:=aq cv) (N:=["base","machine","many","found","letters","into","ends","let","reached"]) (own:=["room"]) (bu:=["ends"]) (bB:=[6]) rfl rfl (by decide+kernel)) rfl (ug (aE (aM K) (pv 8) (fI eN ak) (fun _ _=>rfl))) (fun _ _ _ _=>(az (i:=0) (show List.Nodup (["room","ends"]:List Str) by decide+kernel) rfl (Or.inl rfl))) (fun _ _ _ _=>bM) (fun _ _ _ _=>(aE (aM K) (pv 1) (pv 0) (fun _ _=>rfl)))) ag)) (fun _=>rfl))
    (ax (bI (cE PySem.F.plainAttrs_list PySem.F.slot_list_extend PySem.F.type_list_extend jM (pv 3) (ae (aG oT nS rfl T.oH T.oI T.oJ .nil aO (ae (pv 0) (ae (pv 1) (ae (pv 5) (ae (pv 8) (ae (aF gH (pv 2) (aL (aW K) (by rfl) T.cF bP (ae (pv 3) ag))) ag)))))) ag))))
    br)
   (ax (bI (cE PySem.F.plainAttrs_list PySem.F.slot_list_append PySem.F.type_list_append bz (pv 8) (ae (aG iW ip rfl T.lO T.lP T.lQ .nil aO (ae (pv 1) (ae (aE (aM K) (pv 8) (fI eN ak) (fun _ _=>rfl)) (ae (pv 7) ag)))) ag))))))
  (ax (aS (df (eB K) (pv 3) dJ (dM (pv 2)))))))))))),?_⟩
  have big:(1000000:Nat)≤sizeLine:=by decide
  have oQ:=hma
  obtain⟨ya,va,ps,e1,e2,e3,tp⟩:=oQ
  have hB:b ^ m≤256:=iL hb hm
  have pI:0<b ^ m:=Nat.pow_pos hb0
  have Hh:bs[0]? =some (bs.getD 0 false):=item_at false h0
  refine aI fun Y hY=>?_
  have rest:∀(F:Addr) (fs:List Addr) (H1:Hp),H F=none→Same H H1→H1 F=some (.lst (fs.map V.ref))→bD H1 fs ((if yB bs 0=true then [[]] else []).map fun w=>aj (aZ b m w))→Y [some (.int (b:Nat)),some (.ref ma),some (.int (many:Nat)),some (.ref F),none,none,none,none,none] H1:=by
   intro F fs H1 hF s1 f1 t1
   subst hY
   obtain⟨r1,r2,r3⟩:=mo.row (tp.keep s1.kt) h0
   refine aI fun Y hY=>?_
   refine⟨_,rfl,ma,_,_,.ref va,rfl,rfl,.of (s1 _ _ e1),aD (j:=2) rfl,va,_,_,.ref (ps.getD 0 0),rfl,rfl,.of (s1 _ _ e3),aD (j:=0) (by rw[List.getElem?_map,r1];rfl),_,_,rfl,.inr ⟨_,.of r2,rfl⟩,_,rfl,by rw[List.length_map,aA,r3];omega,fun lt hlt=>?_⟩
   have slt:=Same.new (o:=.lst ((List.range ((aj (mv.getD 0 [])).map V.int).length).map fun(i:Nat)=>V.int i)) hlt
   have s2:=s1.trans slt
   have elt:(upd H1 lt (.lst ((List.range ((aj (mv.getD 0 [])).map V.int).length).map fun(i:Nat)=>V.int i))) lt=some (.lst ((aj (List.range (b ^ m))).map V.int)):=by
    rw[af,List.length_map,aA,r3]
    unfold aj
    rw[List.map_map];rfl
   have f2:=slt _ _ f1
   have t2:=t1.keep slt.kt
   generalize upd H1 lt (.lst ((List.range ((aj (mv.getD 0 [])).map V.int).length).map fun(i:Nat)=>V.int i))=H2 at s2 elt f2 t2 ⊢
   dsimp only[aH]
   subst hY
   refine aI fun Y hY=>?_
   refine⟨_,rfl,lt,rfl,⟨_,.of elt⟩,fun ia hia=>?_⟩
   have Mi:F≠ia:=ay f2 hia
   refine ft (xs:=(aj (List.range (b ^ m))).map V.int) (fun j σ H'=>∃(v:Option V) (ts:List Addr),σ=[v,some (.ref ma)]∧Same H2 H'∧H' ia=some (.lst (ts.map V.ref))∧ts.length=j∧∀(c:Nat) (t:Addr),ts[c]? =some t→t≠F∧t≠ia∧∃as:List Addr,F ∉ as∧ia ∉ as∧H' t=some (.lst (as.map V.ref))∧bO H' as (gn mv bs.length c bs.length))
    ⟨none,[],?sg,Same.new hia,af,rfl,fun c t h=>(by simp at h)⟩ (fun j σ H' _ ⟨_,_,_,s',_⟩=>.of (s' _ _ elt)) ?_ ?_
   case sg=>rfl
   ·rintro j x σ H3 hx ⟨v,ts,rfl,s3,i3,l3,h3⟩
    obtain⟨c,rfl,ec⟩:=cx hx
    have hj:j<b ^ m:=by
     have:=(List.getElem?_eq_some_iff.mp ec).1
     rwa [List.length_range] at this
    rw[List.getElem?_range hj] at ec
    cases ec
    have cW:=s2.trans s3
    refine⟨_,rfl,ma,_,_,.ref va,rfl,rfl,.of (cW _ _ e1),aD (j:=2) rfl,_,rfl,va,ps,mv,bs.length,b ^ m,j,rfl,cW _ _ e3,tp.keep cW.kt,mo,hj,by omega,fun t as H4 ht has nd tn s4 et G1=>?_⟩
    have f3:=s3 _ _ f2
    have nt:t≠F:=(ay f3 ht).symm
    have Kp:t≠ia:=(ay i3 ht).symm
    have Qp:F ∉ as:=fun z=>by have:=has F z;rw[f3] at this;cases this
    have Kq:ia ∉ as:=fun z=>by have:=has ia z;rw[i3] at this;cases this
    refine⟨_,s4 _ _ i3,by rw[List.length_map];omega,_,ts++[t],rfl,(s3.trans s4).kbn hia KB.write,by rw[af,List.map_append];rfl,by rw[List.length_append,l3];rfl,fun c u hc=>?_⟩
    by_cases z:c<ts.length
    ·rw[List.getElem?_append_left z] at hc
     obtain⟨q1,q2,as',q3,q4,q5,q6⟩:=h3 c u hc
     refine⟨q1,q2,as',q3,q4,by rw[ao q2];exact s4 _ _ q5,q6.keep fun d hd o q=>?_⟩
     rw[ao (fun z:d=ia=>q4 (z▸hd))];exact s4 _ _ q
    ·have hce:c=j:=by
      have:=(List.getElem?_eq_some_iff.mp hc).1
      rw[List.length_append,List.length_singleton] at this
      omega
     subst hce
     rw[List.getElem?_append_right (by omega),l3,Nat.sub_self] at hc
     cases hc
     refine⟨nt,Kp,as,Qp,Kq,by rw[ao Kp];exact et,G1.keep fun d hd o q=>?_⟩
     rw[ao (fun z:d=ia=>Kq (z▸hd))];exact q
   rintro σ H3 ⟨v,ts,rfl,s3,i3,l3,h3⟩
   rw[List.length_map,aA,List.length_range] at l3
   have cW:=s2.trans s3
   have f3:=s3 _ _ f2
   have t3:=t2.keep s3.kt
   have Qq:=s3 _ _ elt
   have TY:lt≠F:=(ay f1 hlt).symm
   have Qr:iM (off H3 F) ia (b ^ m) bs.length mv:=by
    refine⟨ts,by rw[off_ne Mi.symm];exact i3,l3,fun c t hc=>?_⟩
    obtain⟨q1,q2,as',q3,q4,q5,q6⟩:=h3 c t hc
    exact⟨as',by rw[off_ne q1];exact q5,q6.keep fun d hd o q=>(by rw[off_ne (fun z:d=F=>q3 (z▸hd))];exact q)⟩
   dsimp only[aH]
   subst hY
   refine aI fun Y hY=>?_
   refine⟨_,rfl,ma,nm,bs,mv,b ^ m,rfl,hma.keep cW.kt,mo,hn,by omega,pI,fun en H4 hen s4 xf=>?_⟩
   have kH:=cW.trans s4
   have f4:=s4 _ _ f3
   have t4:=t3.keep s4.kt
   have Mj:en≠F:=(ay f3 hen).symm
   dsimp only[aH]
   subst hY
   refine aI fun Y hY=>?_
   have AI:(mv.map (fE bs)).length=bs.length:=by rw[List.length_map,mo.len]
   refine⟨_,rfl,ma,_,_,.ref nm,rfl,rfl,.of (kH _ _ e1),aD (j:=0) rfl,_,rfl,_,rfl,ma,_,_,.ref va,rfl,rfl,.of (kH _ _ e1),aD (j:=2) rfl,by show 3≤sizeLine;omega,fun mt hmt=>?_⟩
   have smt:=Same.new (o:=.tup [.ref nm,.ref en,.ref va]) hmt
   refine⟨_,rfl,mt,nm,en,va,lt,ps,mv.map (fE bs),mv,b ^ m,List.range (b ^ m),rfl,⟨af,smt _ _ xf,smt _ _ (kH _ _ e3),(tp.keep kH.kt).keep smt.kt,by rw[AI];exact mo⟩,smt _ _ (s4 _ _ Qq),fun c hc=>List.mem_range.mp hc,by rw[AI];exact hn,by rw[List.length_range];omega,fun le can H5 s5 Dk yr hcan=>?_⟩
   rw[AI] at yr hcan
   have AJ:=smt.trans s5
   have md:=kH.trans AJ
   have f5:=AJ _ _ f4
   have t5:=t4.keep AJ.kt
   have Mk:le≠F:=fun z=>by
    rw[z,f5] at Dk
    have e:=HO.lst.inj (Option.some.inj Dk)
    cases can with
    | nil=>rw[List.length_nil] at yr;omega
    | cons c can=>
     cases fs with
     | nil=>cases e
     | cons f fs=>cases e
   have hlt':∀r,r<bs.length→(can.getD r false=true↔Lt (stp mv) (b ^ m) (yB bs) r):=fun r hr'=>(hcan r hr').trans (EL mo hr')
   have Qs:iM (off H5 F) ia (b ^ m) bs.length mv:=Qr.keep fun c o e=>by
    have ne:c≠F:=fun z=>by subst z;unfold off at e;rw[if_pos rfl] at e;cases e
    rw[off_ne ne] at e ⊢
    exact AJ _ _ (s4 _ _ e)
   dsimp only[aH]
   subst hY
   refine aI fun Y hY=>?_
   have Qt:can[0]? =some (can.getD 0 false):=item_at false (by rw[yr];exact h0)
   have pR:∀(d R:Addr) (th:List Nat) (H6:Hp),th.Nodup→H5 d=none→H5 R=none→Same H5 H6→H6 d=some (.dK (aR th))→H6 R=some (.lst [.ref d])→(∀r,r∈th↔Ly (stp mv) (b ^ m) (yB bs) 0 r)→Y [some (.int (b:Nat)),some (.ref ma),some (.int (many:Nat)),some (.ref F),some (.ref lt),some (.ref ia),some (.ref en),some (.ref le),some (.ref R)] H6:=by
    intro d R th H6 Ml hd hR s6 Qu Qv hth
    subst hY
    refine aI fun Y hY=>?_
    have hst:∀r a,r<bs.length→a<b ^ m→stp mv r a<bs.length:=fun r a h1 h2=>mo.stp h1 h2
    obtain⟨Qw,Te,Mm⟩:=u6 (y:=yB bs) hst h0 0
    have Hi:H R=none:=md.free hR
    have Qx:off H5 F R=none:=by unfold off;split<;>first | rfl | exact hR
    refine nz (fun M σ H'=>∃(ds:List Addr) (au:List (List Nat)) (d:Addr) (th:List Nat) (fs:List Addr) (Ws:List (List Nat)) (dd:Nat),M=(many-Ws.length)*62+dd∧σ=[some (.int (b:Nat)),some (.ref ma),some (.int (many:Nat)),some (.ref F),some (.ref lt),some (.ref ia),some (.ref en),some (.ref le),some (.ref R)]∧Same H H'∧Same (off H5 F) H'∧H' R=some (.lst (ds.map V.ref++[.ref d]))∧H5 d=none∧bQ H' ds au∧H' d=some (.dK (aR th))∧th.Nodup∧jF bs mv (b ^ m) (au++[th])∧H' F=some (.lst (fs.map V.ref))∧bD H' fs (Ws.map fun w=>aj (aZ b m w))∧mf (stp mv) (b ^ m) (yB bs) many au.length Ws∧AF (stp mv) (b ^ m) (yB bs) au.length dd∧dd≤60∧au.length+M≤10000)
     ⟨_,[],[],d,th,fs,_,Qw,rfl,rfl,md.trans s6,Cb s6,Qv,hd,.nil,Qu,Ml,rG (fun k hk=>absurd hk (Nat.not_lt_zero _)) hth,s6 _ _ f5,t5.keep s6.kt,mf.begin many,Mm,by omega,?bnd⟩ ?_ ?mono
    case bnd=>show 0+_≤_;omega
    case mono=>exact fun σ H Q Q' h ⟨v1,e1,v2,e2,p,xs,i,v3,e3,e4,e5,e6,d,kv,e7,e8,q⟩=>⟨v1,e1,v2,e2,p,xs,i,v3,e3,e4,e5,e6,d,kv,e7,e8,xc (fun q=>by obtain⟨a1,b1,a2,c,b2,a3,a4,b4,i',j',b5,b6,x,b7,q⟩:=q;exact⟨a1,b1,a2,c,b2,a3,a4,b4,i',j',b5,b6,x,b7,h _ _ q⟩) (h _ _) q⟩
    rintro M σ H7 N hN ⟨ds,au,d,th,fs,Ws,dd,rfl,rfl,s7,o7,r7,hd,Qy,d7,Dl,lay,f7,t7,eT,far,hdd,hM⟩
    have last:=AH lay
    have lf:fs.length=Ws.length:=by rw[Paired.length t7,List.length_map]
    have out:∀(H8:Hp),Same H7 H8→(many≤Ws.length∨th=[])→Y [some (.int (b:Nat)),some (.ref ma),some (.int (many:Nat)),some (.ref F),some (.ref lt),some (.ref ia),some (.ref en),some (.ref le),some (.ref R)] H8:=by
     intro H8 s8 hq
     subst hY
     refine⟨_,rfl,_,rfl,_,rfl,_,_,rfl,.of (s8 _ _ f7),fun p hp=>?_⟩
     have sp:=Same.new (o:=.lst (eO (fs.map V.ref) none (some (many:Int)))) hp
     have mh:=s7.trans s8
     refine k p (fs.take many) au.length _ (mh.free hp) (mh.trans sp) ?_ ?_ ?_ (by omega)
     ·rw[af,jC,List.map_take]
     ·rw[←eT.1,List.map_take]
      exact(j5 many (t7.keep s8.kt)).keep sp.kt
     ·rcases hq with hq | hq
      ·refine .inl ?_
       have:=congrArg List.length eT.1
       rw[List.length_take,List.length_take] at this
       omega
      ·exact .inr fun r hr=>by
        have:=(last r).mpr hr
        rw[hq] at this;cases this
    refine⟨_,rfl,_,rfl,R,_, -1,.ref d,rfl,rfl,.of r7,eU _ _,d,aR th,rfl,.inl d7,?_⟩
    cases hth:th with
    | nil=>exact cS (cS (out H7 (Same.refl _) (.inr hth)))
    | cons t0 Qz=>
    rw[←hth]
    have ek:(!(aR th).isEmpty)=true:=by rw[hth];rfl
    rw[ek]
    refine oy ?_
    refine⟨_,rfl,_,Ws.length,rfl,.inl ⟨_,.of f7,by rw[List.length_map,lf]⟩,_,rfl,_,_,rfl,rfl,_,rfl,?_⟩
    refine cG (fun z=>?_) (fun z=>out H7 (Same.refl _) (.inl (by have:=of_decide_eq_false (Bool.eq_false_iff.mpr z);omega)))
    have hw:Ws.length<many:=by have:=of_decide_eq_true z;omega
    refine aI fun Y2 dI=>?_
    have Kr:d≠F:=(ay f5 hd).symm
    have Hj:d≠R:=bF d7 r7 (fun z=>nomatch z)
    have hdH:H d=none:=md.free hd
    have QA:off H5 F d=none:=by unfold off;split<;>first | rfl | exact hd
    have bnd:∀r∈th,r<bs.length:=fun r hr'=>nF hst h0 ((last r).mp hr')
    have pS:∀(o:Obj) (fs':List Addr) (AK:List (List Nat)) (gY:Nat) (H8:Hp),Same H H8→Same (off H5 F) H8→H8 R=some (.lst (ds.map V.ref++[.ref d]))→bQ H8 ds au→H8 d=some (.bN o (.dK (aR th)))→H8 F=some (.lst (fs'.map V.ref))→bD H8 fs' (AK.map fun w=>aj (aZ b m w))→mf (stp mv) (b ^ m) (yB bs) many (au.length+1) AK→AF (stp mv) (b ^ m) (yB bs) (au.length+1) gY→gY≤60→(many-AK.length)*62+gY<(many-Ws.length)*62+dd→Y2 [some (.int (b:Nat)),some (.ref ma),some (.int (many:Nat)),some (.ref F),some (.ref lt),some (.ref ia),some (.ref en),some (.ref le),some (.ref R)] H8:=by
     intro o fs' AK gY H8 s8 o8 r8 vd d8 f8 t8 Mn Mp Mq Mr
     subst dI
     refine⟨_,rfl,.inl ⟨rfl,_,.of r8⟩,_,rfl,_,rfl,_,rfl,R,_, -1,.ref d,rfl,rfl,.of r8,eU _ _,_,rfl,ma,nm,d,le,bs,mv,b ^ m,o,th,can,rfl,hma.keep s8.kt,mo,hn,d8,bnd,o8 _ _ (by rw[off_ne Mk];exact Dk),yr,fun G es H9 hG s9 e9 nd hes=>?_⟩
     have r9:=s9 _ _ r8
     have f9:=s9 _ _ f8
     have Hk:G≠R:=(ay r8 hG).symm
     refine⟨R,_,_,rfl,rfl,r9,by rw[List.length_append,List.length_map,Paired.length vd];simp;omega,?_⟩
     refine hN _ _ _ Mr ⟨ds++[d],au++[th],G,es,fs',AK,gY,rfl,rfl,(s8.trans s9).kbn Hi KB.write,(o8.trans s9).kbn Qx KB.write,?_,Cc o8 hG f8,?_,?_,nd,?_,?_,?_,?_,?_,Mq,?_⟩
     ·rw[af,List.map_append];rfl
     ·exact((vd.keep s9).snoc (.inr ⟨o,s9 _ _ d8⟩)).put r9
     ·rw[ao Hk];exact e9
     ·refine rG lay ?_
      rw[List.length_append]
      exact G' mo h0 hlt' last hes
     ·rw[ao (ay f5 hR)];exact f9
     ·exact(t8.keep s9.kt).keep fun c xs e=>by rw[ao (bF e r9 (fun z=>nomatch z))];exact e
     ·rw[List.length_append];exact Mn
     ·rw[List.length_append];exact Mp
     ·rw[List.length_append,List.length_singleton];omega
    refine⟨_,rfl,_,rfl,R,_, -1,.ref d,rfl,rfl,.of r7,eU _ _,d,aR th,rfl,d7,fun o=>?_⟩
    have s8:Same H (upd H7 d (.bN o (.dK (aR th)))):=s7.kbn hdH KB.write
    have o8:Same (off H5 F) (upd H7 d (.bN o (.dK (aR th)))):=o7.kbn QA KB.write
    have r8:(upd H7 d (.bN o (.dK (aR th)))) R=some (.lst (ds.map V.ref++[.ref d])):=by rw[ao Hj.symm];exact r7
    have f8:(upd H7 d (.bN o (.dK (aR th)))) F=some (.lst (fs.map V.ref)):=by rw[ao Kr.symm];exact f7
    have vd:bQ (upd H7 d (.bN o (.dK (aR th)))) ds au:=Qy.bN d7
    have d8:(upd H7 d (.bN o (.dK (aR th)))) d=some (.bN o (.dK (aR th))):=af
    have t8:bD (upd H7 d (.bN o (.dK (aR th)))) fs (Ws.map fun w=>aj (aZ b m w)):=t7.keep fun c xs e=>by rw[ao (bF e d7 (fun z=>nomatch z))];exact e
    generalize upd H7 d (.bN o (.dK (aR th)))=H8 at s8 o8 r8 f8 vd d8 t8 ⊢
    refine fun L hL=>?_
    have T_:H L=none:=s8.free hL
    have T1:off H5 F L=none:=o8.free hL
    have Ks:th.length≤bs.length:=dF _ _ Dl bnd
    refine rb (fun j σ H'=>∃v:Option V,σ=[v,some (.ref en)]∧Same H8 H'∧H' L=some (.lst (((th.take j).map fun r=>fE bs (mv.getD r [])).map V.bl)))
     ⟨none,?sg,Same.new hL,af⟩ (fun j σ H' _ ⟨_,_,s',_⟩=>s' _ _ d8) ?_ ?_
    case sg=>rfl
    ·rintro j kk vv σ H9 hk ⟨v,rfl,s9,l9⟩
     obtain⟨r,hr',rfl,rfl⟩:=mU hk
     have j1:=bnd r (List.mem_of_getElem? hr')
     have hj:=(List.getElem?_eq_some_iff.mp hr').1
     refine⟨_,rfl,_,rfl,en,_,_,.bl (fE bs (mv.getD r [])),rfl,rfl,.of (s9 _ _ (o8 _ _ (by rw[off_ne Mj];exact AJ _ _ xf))),aD (j:=r) ?_,_,l9,?_,_,rfl,s9.kbn hL KB.write,?_⟩
     ·rw[List.getElem?_map,List.getElem?_map,item_at [] (show r<mv.length by rw[mo.len];exact j1)];rfl
     ·rw[List.length_map,List.length_map,List.length_take]
      omega
     ·rw[af,take_snoc hr',List.map_append,List.map_append];rfl
    rintro σ H9 ⟨v,rfl,s9,l9⟩
    rw[fS,List.take_length] at l9
    have om:=s8.trans s9
    have o9:=o8.trans s9
    refine⟨L,_,rfl,.of l9,_,rfl,?_⟩
    rw[List.any_map]
    refine cG (fun z=>?_) (fun z=>?_)
    ·
     obtain⟨r,hr1,hr2⟩:=List.any_eq_true.mp z
     have Kt:=(last r).mp hr1
     have Ku:Ends (stp mv) (b ^ m) (yB bs) r:=(jG mo (bnd r hr1)).mp hr2
     have QB:=EC Kt Ku
     have em:(many:Int)-(Ws.length:Int)=((many-Ws.length:Nat):Int):=by omega
     have f9:=s9 _ _ f8
     refine⟨_,rfl,.inl ⟨rfl,_,.of f9⟩,_,rfl,_,rfl,_,rfl,_,rfl,_,rfl,_,rfl,_,Ws.length,rfl,.inl ⟨_,.of f9,by rw[List.length_map,lf]⟩,_,_,rfl,rfl,b,m,many-Ws.length,ma,nm,ia,R,ns,bs,mv,ds++[d],au++[th],?vs,hb0,hb,hm,hma.keep om.kt,om _ _ i4,rF,hn,Qs.keep o9,?rr,(vd.keep s9).snoc (.inr ⟨o,s9 _ _ d8⟩),by omega,fun p qs lJ hp iY e10 t10=>?_⟩
     case vs=>show[V.int b,.ref ma,.ref ia,.ref R,.int ((many:Int)-(Ws.length:Int))]=_;rw[em]
     case rr=>rw[List.map_append];exact s9 _ _ r8
     have T2:F≠p:=ay f9 hp
     have hl':0<(au++[th]).length:=by rw[List.length_append];simp
     have QC:Lt (stp mv) (b ^ m) (fun r=>bs.getD r false) 0:=by
      obtain⟨u,h1,h2,h3⟩:=jd Kt
      exact⟨u,h2,by rw[h3];exact Ku⟩
     have tw:=G9 hb0 mo lay h0 (many-Ws.length) hl' QC
     have ve:(au++[th]).length=au.length+1:=by rw[List.length_append];rfl
     rw[ve] at tw t10
     have Hl:bD lJ qs (((Tw (stp mv) (b ^ m) (yB bs) (au.length+1)).take (many-Ws.length)).map fun w=>aj (aZ b m w)):=by
      have e:((hds b m (many-Ws.length) bs mv (au++[th]) (au.length+1)).map fun x=>aj x.1)=((Tw (stp mv) (b ^ m) (yB bs) (au.length+1)).take (many-Ws.length)).map fun w=>aj (aZ b m w):=by
       have:=congrArg (List.map aj) tw
       rw[List.map_map,List.map_map] at this
       exact this
      rw[←e];exact t10
     have kJ:=iY _ _ f9
     have lq:qs.length≤100:=by
      rw[Paired.length Hl,List.length_map,List.length_take];omega
     have T3:0<((Tw (stp mv) (b ^ m) (yB bs) (au.length+1)).take (many-Ws.length)).length:=by
      rw[List.length_take]
      have:=List.length_pos_iff.mpr QB
      have e:Tw (stp mv) (b ^ m) (yB bs) (au.length+1)=Tw (stp mv) (b ^ m) (fun r=>bs.getD r false) (au.length+1):=rfl
      rw[e];omega
     obtain⟨gY,Tf,Cd⟩:=u6 (y:=yB bs) hst h0 (au.length+1)
     refine⟨F,p,_,_,rfl,rfl,kJ,e10,by rw[List.length_map,List.length_map];omega,?_⟩
     have kt:cH lJ (upd lJ F (.lst (fs.map V.ref++qs.map V.ref))):=fun c xs e=>by rw[ao (bF e kJ (fun z=>nomatch z))];exact e
     refine pS o (fs++qs) (Ws++(Tw (stp mv) (b ^ m) (yB bs) (au.length+1)).take (many-Ws.length)) gY _ ((om.trans iY).kbn hF KB.write) (AG (o9.trans iY)) ?_ ?_ ?_ ?_ ?_ (eT.more hw) Cd (by omega) ?_
     ·rw[ao (ay f5 hR).symm];exact iY _ _ (s9 _ _ r8)
     ·exact(vd.keep (s9.trans iY)).put kJ
     ·rw[ao Kr];exact iY _ _ (s9 _ _ d8)
     ·rw[af,List.map_append]
     ·rw[List.map_append]
      exact(u9 ((t8.keep s9.kt).keep iY.kt) Hl).keep kt
     ·rw[List.length_append];omega
    ·
     have hno:∀r,Ly (stp mv) (b ^ m) (yB bs) au.length r→¬Ends (stp mv) (b ^ m) (yB bs) r:=fun r h1 h2=>by
      have hr1:=(last r).mpr h1
      exact z (List.any_eq_true.mpr ⟨r,hr1,(jG mo (bnd r hr1)).mpr h2⟩)
     obtain⟨hd0,Cd⟩:=Ca ⟨t0,(last t0).mp (by rw[hth];exact List.mem_cons_self)⟩ hno far
     exact pS o fs Ws (dd-1) H9 om o9 (s9 _ _ r8) (vd.keep s9) (s9 _ _ d8) (s9 _ _ f8) (t8.keep s9.kt) (eT.same hno) Cd (by omega) (by omega)
   refine⟨_,rfl,le,_,_,.bl (can.getD 0 false),rfl,rfl,.of Dk,aD (j:=0) (by rw[List.getElem?_map,Qt];rfl),_,rfl,?_⟩
   refine cG (fun z=>?_) (fun z=>?_)
   ·refine fun d hd=>⟨af,[(Sum.inl 0,.bl true)],rfl,by decide,?_⟩
    have em:fe [] [((Sum.inl 0:Key),V.bl true)]=aR [0]:=rfl
    rw[em]
    have sd:Same H5 (upd (upd H5 d (.dK [])) d (.dK (aR [0]))):=(Same.new hd).kbn hd KB.write
    refine⟨by show 1≤sizeLine;omega,fun R hR=>?_⟩
    have sR:=Same.new (o:=.lst [.ref d]) hR
    refine pR d R [0] _ (by simp) hd (sd.free hR) (sd.trans sR) (sR _ _ af) af fun r=>?_
    rw[List.mem_singleton]
    refine⟨fun e=>?_,fun e=>e.1⟩
    subst e
    exact⟨rfl,(hlt' 0 h0).mp z⟩
   ·refine fun d hd=>?_
    have sd:Same H5 (upd H5 d (.dK [])):=Same.new hd
    refine⟨by show 1≤sizeLine;omega,fun R hR=>?_⟩
    have sR:=Same.new (o:=.lst [.ref d]) hR
    refine pR d R [] _ (by simp) hd (sd.free hR) (sd.trans sR) (sR _ _ af) af fun r=>?_
    refine⟨fun e=>(by cases e),fun e=>?_⟩
    obtain⟨rfl,e⟩:=e
    exact absurd ((hlt' 0 h0).mpr e) z
  refine⟨_,rfl,ma,_,_,.ref ya,rfl,rfl,.of e1,aD (j:=1) rfl,ya,_,_,.bl (bs.getD 0 false),rfl,rfl,.of e2,aD (j:=0) (by rw[List.getElem?_map,Hh];rfl),_,rfl,?_⟩
  refine cG (fun z=>?_) (fun z=>?_)
  ·refine⟨_,rfl,ma,nm,bs,mv,ns,rfl,hma,i4,by omega,fun p H1 s1 ep=>⟨by show 1≤sizeLine;omega,fun F hF=>?_⟩⟩
   have sF:=Same.new (o:=.lst [.ref p]) hF
   refine rest F [p] _ (s1.free hF) (s1.trans sF) af ?_
   have ey:yB bs 0=true:=z
   rw[if_pos ey]
   refine .cons ?_ .nil
   rw[←rF]
   exact sF _ _ ep
  ·refine⟨by decide,fun F hF=>?_⟩
   have sF:=Same.new (o:=.lst []) hF
   refine rest F [] _ hF sF af ?_
   have ey:¬yB bs 0=true:=z
   rw[if_neg ey]
   exact .nil
section
variable {st:Nat→Nat→Nat} {B:Nat} {y:Nat→Bool} {Ds:List (List Nat)}
structure Bf (st:Nat→Nat→Nat) (B:Nat) (y:Nat→Bool) (Ds:List (List Nat)):Prop where
 pos:0<Ds.length
 zero:∀r,r∈Ds.getD 0 []↔r=0
 next:∀i,i+1<Ds.length→∀t,t∈Ds.getD (i+1) []↔(∀j,j≤i→t ∉ Ds.getD j [])∧∃r a,r∈Ds.getD i []∧a<B∧st r a=t
 none:∀i,i+1<Ds.length→∀r∈Ds.getD i [],¬Ends st B y r
theorem AL {l m:List (List Nat)} {i:Nat} (h:i<l.length):(l++m).getD i []=l.getD i []:=by
 rw[List.getD_eq_getElem?_getD,List.getElem?_append_left h,←List.getD_eq_getElem?_getD]
theorem jH {l:List (List Nat)} {x:List Nat}:(l++[x]).getD l.length []=x:=by
 rw[List.getD_eq_getElem?_getD,List.getElem?_append_right (Nat.le_refl _),Nat.sub_self];rfl
theorem Bf.begin:Bf st B y [[0]]:=⟨by simp,fun r=>List.mem_singleton,fun i h=>absurd h (by simp),fun i h=>absurd h (by simp)⟩
theorem Bf.more {au:List (List Nat)} {th es:List Nat} (h:Bf st B y (au++[th])) (hn:∀r∈th,¬Ends st B y r) (he:∀t,t∈es↔(∀j,j≤au.length→t ∉ (au++[th]).getD j [])∧∃r a,r∈th∧a<B∧st r a=t):Bf st B y ((au++[th])++[es]):=by
 have ll:(au++[th]).length=au.length+1:=by simp
 have l2:((au++[th])++[es]).length=au.length+2:=by simp
 have dl:∀i,i≤au.length→((au++[th])++[es]).getD i []=(au++[th]).getD i []:=fun i hi=>AL (by omega)
 refine⟨by omega,fun r=>by rw[dl 0 (by omega)];exact h.zero r,fun i hi t=>?_,fun i hi r hr=>?_⟩
 ·rw[l2] at hi
  by_cases z:i+1=au.length+1
  ·have zi:i=au.length:=by omega
   subst zi
   have e1:((au++[th])++[es]).getD (au.length+1) []=es:=by rw[←ll];exact jH
   rw[e1,he t,dl _ (Nat.le_refl _),jH]
   refine and_congr (forall_congr' fun j=>?_) Iff.rfl
   constructor
   ·intro q hj;rw[dl j hj];exact q hj
   ·intro q hj;have:=q hj;rwa [dl j hj] at this
  ·rw[dl _ (by omega),dl _ (by omega),h.next i (by omega) t]
   refine and_congr (forall_congr' fun j=>?_) Iff.rfl
   constructor
   ·intro q hj;rw[dl j (by omega)];exact q hj
   ·intro q hj;have:=q hj;rwa [dl j (by omega)] at this
 ·rw[l2] at hi
  rw[dl i (by omega)] at hr
  by_cases z:i=au.length
  ·subst z
   rw[jH] at hr
   exact hn r hr
  ·exact h.none i (by omega) r hr
theorem Bf.word (h:Bf st B y Ds):∀(i r:Nat),i<Ds.length→r∈Ds.getD i []→∃u,u.length=i∧Lets B u∧rn st 0 u=r
 | 0,r,_,hr=>⟨[],rfl,fun a ha=>(nomatch ha),((h.zero r).mp hr).symm⟩
 | i+1,t,hi,ht=>by
  obtain⟨_,r,a,hr,ha,e⟩:=(h.next i hi t).mp ht
  obtain⟨u,h1,h2,h3⟩:=h.word i r (by omega) hr
  refine⟨u++[a],by simp[h1],fun b hb=>?_,by rw[bG,h3];exact e⟩
  rcases List.mem_append.mp hb with q | q
  ·exact h2 b q
  ·rw[List.mem_singleton.mp q];exact ha
theorem Bf.step (h:Bf st B y Ds) {i r a:Nat} (hi:i+1<Ds.length) (hr:r∈Ds.getD i []) (ha:a<B):∃j,j≤i+1∧st r a∈Ds.getD j []:=by
 by_cases z:∃j,j≤i∧st r a∈Ds.getD j []
 ·obtain⟨j,h1,h2⟩:=z
  exact⟨j,by omega,h2⟩
 ·exact⟨i+1,Nat.le_refl _,(h.next i hi _).mpr ⟨fun j hj q=>z ⟨j,hj,q⟩,r,a,hr,ha,rfl⟩⟩
theorem Bf.reach (h:Bf st B y Ds):∀(u:List Nat) {i r:Nat},r∈Ds.getD i []→i+u.length<Ds.length→Lets B u→∃j,j≤i+u.length∧rn st r u∈Ds.getD j []
 | [],i,r,hr,_,_=>⟨i,by simp,hr⟩
 | a::u,i,r,hr,hl,hu=>by
  rw[List.length_cons] at hl ⊢
  obtain⟨j,h1,h2⟩:=h.step (by omega) hr (hu a List.mem_cons_self)
  obtain⟨k,h3,h4⟩:=h.reach u h2 (by omega) fun b hb=>hu b (List.mem_cons_of_mem _ hb)
  exact⟨k,by omega,h4⟩
theorem Bf.pass (h:Bf st B y Ds) {u s:List Nat} (hl:u.length+s.length+1=Ds.length) (hu:Lets B u) (hs:Lets B s) (he:Ends st B y (rn st (rn st 0 u) s)):rn st 0 u∈Ds.getD u.length []:=by
 obtain⟨j,h1,h2⟩:=h.reach u ((h.zero 0).mpr rfl) (by omega) hu
 rw[Nat.zero_add] at h1
 by_cases z:j=u.length
 ·rw[←z];exact h2
 ·obtain⟨i,h3,h4⟩:=h.reach s h2 (by omega) hs
  exact absurd he (h.none i (by omega) _ h4)
theorem Bf.stay (h:Bf st B y Ds) (he:Ds.getD (Ds.length-1) []=[]):∀(u:List Nat) {i r:Nat},i+1<Ds.length→r∈Ds.getD i []→Lets B u→∃j,j+1<Ds.length∧rn st r u∈Ds.getD j []
 | [],i,r,hi,hr,_=>⟨i,hi,hr⟩
 | a::u,i,r,hi,hr,hu=>by
  obtain⟨j,h1,h2⟩:=h.step hi hr (hu a List.mem_cons_self)
  have hj:j+1<Ds.length:=by
   by_cases z:j=Ds.length-1
   ·rw[z,he] at h2;cases h2
   ·omega
  exact h.stay he u hj h2 fun b hb=>hu b (List.mem_cons_of_mem _ hb)
theorem Bf.empty (h:Bf st B y Ds) (he:Ds.getD (Ds.length-1) []=[]) (u:List Nat) (hu:Lets B u):¬Ends st B y (rn st 0 u):=by
 have h0:=(h.zero 0).mpr rfl
 have hp:0+1<Ds.length:=by
  have:=h.pos
  by_cases z:Ds.length=1
  ·rw[z] at he;rw[he] at h0;cases h0
  ·omega
 obtain⟨j,h1,h2⟩:=h.stay he u hp h0 hu
 exact h.none j h1 _ h2
theorem vf (h0:y 0=false):∀k,(∀i,i<k→Tw st B y (i+1)=[])→Nw st B y k=[]
 | 0,_=>by show(if y 0=true then [[]] else [])=[];rw[h0];rfl
 | k+1,h=>by
  show Nw st B y k++Tw st B y (k+1)=[]
  rw[vf h0 k fun i hi=>h i (by omega),h k (by omega)];rfl
theorem Dm {k:Nat} (h:∀u,u.length=k→Lets B u→¬Ends st B y (rn st 0 u)):Tw st B y (k+1)=[]:=by
 cases e:Tw st B y (k+1) with
 | nil=>rfl
 | cons w l=>
  obtain⟨r,h1,h2⟩:=wM (w:=w) (by rw[e];exact List.mem_cons_self)
  obtain⟨u,a1,a2,a3⟩:=jd h1
  exact absurd (by rw[a3];exact h2) (h u a1 a2)
theorem Bf.before (h:Bf st B y Ds) (h0:y 0=false):Nw st B y (Ds.length-1)=[]:=vf h0 _ fun i hi=>Dm fun u hu hl he=>by
 obtain⟨j,h1,h2⟩:=h.reach u ((h.zero 0).mpr rfl) (by omega) hl
 exact h.none j (by omega) _ h2 he
theorem Bf.never (h:Bf st B y Ds) (h0:y 0=false) (he:Ds.getD (Ds.length-1) []=[]) (k:Nat):Nw st B y k=[]:=vf h0 _ fun i hi=>Dm fun u hu hl=>h.empty he u hl
theorem head_range {α:Type} {f:Nat→List α} {a:Nat}:∀(n lo:Nat),lo≤a→a<lo+n→(∀b,lo≤b→b<a→f b=[])→f a≠[]→((List.range' lo n).flatMap f).head? =(f a).head?
 | 0,lo,h1,h2,_,_=>by omega
 | n+1,lo,h1,h2,h3,h4=>by
  rw[List.range'_succ,List.flatMap_cons]
  by_cases z:lo=a
  ·subst z
   cases e:f lo with
   | nil=>exact absurd e h4
   | cons x l=>rfl
  ·rw[h3 lo (Nat.le_refl _) (by omega),List.nil_append]
   exact head_range n (lo+1) (by omega) (by omega) (fun b hb hb2=>h3 b (by omega) hb2) h4
theorem head_map {α β:Type} {f:α→β}:∀{l:List α},(l.map f).head? =l.head?.map f
 | []=>rfl
 | _::_=>rfl
structure Hd (n:Nat) (st:Nat→Nat→Nat) (B:Nat) (y:Nat→Bool) (Ds:List (List Nat)) (j:Nat) (s:List Nat) (R:List Nat):Prop where
 len:s.length=j
 le:j≤Ds.length
 lets:Lets B s
 top:0<j→∃u a,s=u++[a]∧0<a
 fst:j=0→∀r,r∈R↔r<n∧y r=true
 rooms:0<j→∀r,r∈R↔r∈Ds.getD (Ds.length-j) []∧y (rn st r s)=true
 head:0<j→(Tw st B y Ds.length).head? =(Fw st B (Ds.length-j) fun r=>y (rn st r s)).head?.map (· ++s)
theorem Hd.start {n:Nat} {R:List Nat} (hR:∀r,r∈R↔r<n∧y r=true):Hd n st B y Ds 0 [] R:=⟨rfl,Nat.zero_le _,fun a ha=>(nomatch ha),fun h=>absurd h (Nat.lt_irrefl _),fun _=>hR,fun h=>absurd h (Nat.lt_irrefl _),fun h=>absurd h (Nat.lt_irrefl _)⟩
theorem Bf.lt {n:Nat} (h:Bf st B y Ds) (hst:∀r a,r<n→a<B→st r a<n) (h0:0<n) {i r:Nat} (hi:i<Ds.length) (hr:r∈Ds.getD i []):r<n:=by
 obtain⟨u,h1,h2,h3⟩:=h.word i r hi hr
 rw[←h3];exact j0 hst u h0 h2
theorem Hd.goes {n j:Nat} {s R:List Nat} (h:Bf st B y Ds) (hst:∀r a,r<n→a<B→st r a<n) (h0:0<n) (g:Hd n st B y Ds j s R) (hj:j<Ds.length) (hR:0<j→R≠[]) (he:∃r∈Ds.getD (Ds.length-1) [],Ends st B y r):∃r a,r∈Ds.getD (Ds.length-1-j) []∧a<B∧st r a∈R:=by
 by_cases z:j=0
 ·obtain⟨r,hr,a,h1,h2,h3⟩:=he
  refine⟨r,a,by rw[z];exact hr,h2,(g.fst z _).mpr ⟨hst r a (h.lt hst h0 (by omega) hr) h2,h3⟩⟩
 ·obtain⟨t,ht⟩:=List.exists_mem_of_ne_nil _ (hR (by omega))
  have h1:=((g.rooms (by omega) t).mp ht).1
  rw[show Ds.length-j=(Ds.length-1-j)+1 by omega] at h1
  obtain⟨_,r,a,hr,ha,e⟩:=(h.next _ (by omega) t).mp h1
  exact⟨r,a,hr,ha,by rw[e];exact ht⟩
theorem Hd.next {n j a:Nat} {s R R':List Nat} (h:Bf st B y Ds) (hst:∀r a,r<n→a<B→st r a<n) (h0:0<n) (y0:y 0=false) (hg:∀r,r<n→y (st r 0)=y r) (hB:0<B) (g:Hd n st B y Ds j s R) (hj:j<Ds.length)
  (ha:a<B) (hs:∃r∈Ds.getD (Ds.length-1-j) [],st r a∈R) (hl:∀b,b<a→∀r∈Ds.getD (Ds.length-1-j) [],st r b ∉ R) (hR':∀r,r∈R'↔r∈Ds.getD (Ds.length-1-j) []∧st r a∈R):Hd n st B y Ds (j+1) (a::s) R':=by
 have hsl:Lets B (a::s):=fun b hb=>by
  rcases List.mem_cons.mp hb with q | q
  ·rw[q];exact ha
  ·exact g.lets b q
 have ei:Ds.length-(j+1)=Ds.length-1-j:=by omega
 by_cases z:j=0
 ·subst z
  have es:s=[]:=List.length_eq_zero_iff.mp g.len
  subst es
  rw[Nat.sub_zero] at hs hl hR'
  obtain⟨k,hk⟩:∃k,Ds.length=k+1:=⟨Ds.length-1,by omega⟩
  have ek:Ds.length-1=k:=by omega
  rw[ek] at hs hl hR'
  have inR:∀{r b},r∈Ds.getD k []→b<B→(st r b∈R↔y (st r b)=true):=fun {r b} hr hb=>by
   rw[g.fst rfl]
   exact⟨fun q=>q.2,fun q=>⟨hst r b (h.lt hst h0 (by omega) hr) hb,q⟩⟩
  obtain⟨r,hr,hra⟩:=hs
  obtain⟨u,hu1,hu2,Dn⟩:=h.word k r (by omega) hr
  have ha0:0<a:=by
   apply Nat.pos_of_ne_zero
   intro ea
   subst ea
   have h1:=(inR hr ha).mp hra
   rw[hg r (h.lt hst h0 (by omega) hr)] at h1
   have h2:u∈Fw st B k y:=cA.mpr ⟨hu1,hu2,by rw[Dn];exact h1⟩
   have h3:=pE hst h0 hB hg k
   have h4:=h.before y0
   rw[ek] at h4
   rw[h4] at h3
   have h5:=List.length_eq_zero_iff.mp h3.symm
   rw[h5] at h2
   cases h2
  refine⟨rfl,by omega,hsl,fun _=>⟨[],a,rfl,ha0⟩,fun q=>(nomatch q),fun _ r=>?_,fun _=>?_⟩
  ·rw[hR' r,hk,Nat.add_sub_cancel_right]
   exact and_congr_right fun hr=>inR hr ha
  ·rw[hk]
   show((List.range' 1 (B-1)).flatMap _).head? =_
   refine(head_range (a:=a) (B-1) 1 ha0 (by omega) (fun b hb1 hb2=>?_) ?_).trans (by rw[head_map];rfl)
   ·cases e:Fw st B k fun r=>y (st r b) with
    | nil=>rfl
    | cons v l=>
     obtain⟨h1,h2,h3⟩:=cA.mp (show v∈Fw st B k fun r=>y (st r b) by rw[e];exact List.mem_cons_self)
     have h4:=h.pass (u:=v) (s:=[]) (by rw[h1,hk];rfl) h2 (fun a q=>(nomatch q)) ⟨b,hb1,by omega,h3⟩
     rw[h1] at h4
     exact absurd ((inR h4 (by omega)).mpr h3) (hl b hb2 _ h4)
   ·intro q
    have h2:u∈Fw st B k fun r=>y (st r a):=cA.mpr ⟨hu1,hu2,by rw[Dn];exact(inR hr ha).mp hra⟩
    rw[List.map_eq_nil_iff.mp q] at h2
    cases h2
 ·obtain⟨s',c,es,hc⟩:=g.top (by omega)
  obtain⟨p,hp⟩:∃p,Ds.length=p+1+j:=⟨Ds.length-1-j,by omega⟩
  have e1:Ds.length-1-j=p:=by omega
  have e2:Ds.length-j=p+1:=by omega
  have ls':s'.length+1=j:=by rw[←g.len,es];simp
  have cB:c<B:=g.lets c (by rw[es];simp)
  have sB:Lets B s':=fun b hb=>g.lets b (by rw[es];exact List.mem_append_left _ hb)
  rw[e1] at hs hl hR'
  have gr:=g.rooms (by omega)
  have gh:=g.head (by omega)
  rw[e2] at gr gh
  have go:∀{v b},v.length=p→Lets B v→b<B→y (rn st (st (rn st 0 v) b) s)=true→rn st 0 v∈Ds.getD p []∧st (rn st 0 v) b∈R:=fun {v b} hv Kv hb hy=>by
   have hy':=hy
   rw[es,bG] at hy'
   have en:Ends st B y (rn st (st (rn st 0 v) b) s'):=⟨c,hc,cB,hy'⟩
   have h1:=h.pass (u:=v) (s:=b::s') (by rw[List.length_cons,hv,hp];omega) Kv (fun x hx=>by
    rcases List.mem_cons.mp hx with q | q
    ·rw[q];exact hb
    ·exact sB x q) en
   have h2:=h.pass (u:=v++[b]) (s:=s') (by rw[List.length_append,hv,hp];simp;omega) (fun x hx=>by
    rcases List.mem_append.mp hx with q | q
    ·exact Kv x q
    ·rw[List.mem_singleton.mp q];exact hb) sB (by rw[bG];exact en)
   rw[hv] at h1
   rw[List.length_append,hv,bG] at h2
   exact⟨h1,(gr _).mpr ⟨h2,hy⟩⟩
  obtain⟨r,hr,hra⟩:=hs
  obtain⟨u,hu1,hu2,Dn⟩:=h.word p r (by omega) hr
  refine⟨by rw[List.length_cons,g.len],by omega,hsl,fun _=>⟨a::s',c,by rw[es];rfl,hc⟩,fun q=>(nomatch q),fun _ r=>?_,fun _=>?_⟩
  ·rw[hR' r,ei,e1]
   refine and_congr_right fun hr=>?_
   constructor
   ·intro q;exact((gr _).mp q).2
   ·intro q
    obtain⟨v,hv1,hv2,Kw⟩:=h.word p r (by omega) hr
    have:=(go (v:=v) hv1 hv2 ha (by rw[Kw];exact q)).2
    rw[Kw] at this;exact this
  ·rw[gh,ei,e1]
   show((List.range B).flatMap _).head?.map _=_
   have key:∀f:Nat→List (List Nat),(∀b,b<a→f b=[])→f a≠[]→((List.range B).flatMap f).head? =(f a).head? :=fun f k1 k2=>by
    rw[List.range_eq_range']
    exact head_range (a:=a) B 0 (Nat.zero_le _) (by omega) (fun b _ hb2=>k1 b hb2) k2
   refine(congrArg (Option.map (· ++s)) (key _ (fun b hb2=>?_) ?_)).trans ?_
   rotate_left 2
   ·rw[head_map,Option.map_map]
    congr 1
    funext v
    show(v++[a])++s=v++(a::s)
    rw[List.append_assoc];rfl
   ·cases e:Fw st B p fun r=>y (rn st (st r b) s) with
    | nil=>rfl
    | cons v l=>
     obtain⟨h1,h2,h3⟩:=cA.mp (show v∈Fw st B p fun r=>y (rn st (st r b) s) by rw[e];exact List.mem_cons_self)
     obtain⟨h4,h5⟩:=go h1 h2 (by omega) h3
     exact absurd h5 (hl b hb2 _ h4)
   ·intro q
    have h2:u∈Fw st B p fun r=>y (rn st (st r a) s):=cA.mpr ⟨hu1,hu2,by rw[Dn];exact((gr _).mp hra).2⟩
    rw[List.map_eq_nil_iff.mp q] at h2
    cases h2
theorem Hd.done {n:Nat} {s R:List Nat} (h:Bf st B y Ds) (y0:y 0=false) (g:Hd n st B y Ds Ds.length s R) (hR:R≠[]):(Nw st B y Ds.length).head? =Option.some s:=by
 have hp:=h.pos
 have h1:=g.head hp
 obtain⟨t,ht⟩:=List.exists_mem_of_ne_nil _ hR
 have h2:=(g.rooms hp t).mp ht
 rw[Nat.sub_self] at h1 h2
 have ht0:=(h.zero t).mp h2.1
 subst ht0
 have h3:Fw st B 0 (fun r=>y (rn st r s))=[[]]:=by
  show(if y (rn st 0 s)=true then [[]] else [])=[[]]
  rw[if_pos h2.2]
 rw[h3] at h1
 have h4:=h.before y0
 obtain⟨k,hk⟩:∃k,Ds.length=k+1:=⟨Ds.length-1,by omega⟩
 rw[hk] at h1 h4 ⊢
 show(Nw st B y k++Tw st B y (k+1)).head? =_
 have h5:Nw st B y k=[]:=h4
 rw[h5,List.nil_append,h1];rfl
end
def kK (f:Nat→Addr) (ls:List Nat):List (Key×V):=ls.map fun(c:Nat)=>(Sum.inl ((c:Nat):Int),V.ref (f c))
theorem kL (f:Nat→Addr) (c:Nat):∀ls:List Nat,bW (kK f ls) (Sum.inl (c:Int))=if c∈ls then some (.ref (f c)) else none
 | []=>rfl
 | x::ls=>by
  show bW ((Sum.inl ((x:Nat):Int),V.ref (f x))::kK f ls) (Sum.inl (c:Int))=_
  by_cases e:x=c
  ·subst e
   rw[dh rfl,if_pos List.mem_cons_self]
  ·have:¬(Sum.inl (x:Int):Key)=Sum.inl (c:Int):=fun z=>e (by have:=Sum.inl.inj z;omega)
   rw[dj this,kL f c ls]
   by_cases h:c∈ls
   ·rw[if_pos h,if_pos (List.mem_cons_of_mem _ h)]
   ·rw[if_neg h,if_neg (fun z=>(List.mem_cons.mp z).elim (fun z=>e z.symm) h)]
theorem Ce (f:Nat→Addr) (ls:List Nat):(kK f ls).map (·.1)=(aj ls).map Sum.inl:=by unfold kK aj;rw[List.map_map,List.map_map];rfl
theorem Cf {f:Nat→Addr} {ls:List Nat} {c:Nat} {Z:Addr} (h:c ∉ ls):putK (kK f ls) (Sum.inl (c:Int)) (.ref Z)=kK (fun x=>if x=c then Z else f x) (ls++[c]):=by
 rw[tW _ (by rw[kL,if_neg h])]
 unfold kK
 rw[List.map_append]
 congr 1
 ·refine List.map_congr_left fun x hx=>?_
  have:x≠c:=fun z=>h (z▸hx)
  show _=(_,V.ref (if x=c then Z else f x))
  rw[if_neg this]
 ·show _=[(_,V.ref (if c=c then Z else f c))]
  rw[if_pos rfl]
structure Gr (H0 H:Hp) (E:Addr) (f:Nat→Addr) (g:Nat→List Nat) (ls:List Nat) (n B:Nat) (P:Nat→Nat→Prop):Prop where
 dict:H E=some (.dK (kK f ls))
 once:ls.Nodup
 lt:∀c∈ls,c<B
 inj:∀c∈ls,∀d∈ls,f c=f d→c=d
 free:∀c∈ls,H0 (f c)=none
 at_:∀c∈ls,H (f c)=some (.dK (aR (g c)))
 ne:∀c∈ls,f c≠E
 nd:∀c∈ls,(g c).Nodup
 AN:∀c∈ls,∀r∈g c,r<n
 any:∀c∈ls,g c≠[]
 rooms:∀c r,(c∈ls∧r∈g c)↔P c r
section
variable {H0 H:Hp} {E:Addr} {f:Nat→Addr} {g:Nat→List Nat} {ls:List Nat} {n B:Nat} {P:Nat→Nat→Prop}
theorem Gr.keep {H':Hp} (h:Gr H0 H E f g ls n B P) (s:Same H H'):Gr H0 H' E f g ls n B P:={h with dict:=s _ _ h.dict,at_:=fun c hc=>s _ _ (h.at_ c hc)}
theorem Gr.iff {P':Nat→Nat→Prop} (h:Gr H0 H E f g ls n B P) (e:∀c r,P c r↔P' c r):Gr H0 H E f g ls n B P':={h with rooms:=fun c r=>(h.rooms c r).trans (e c r)}
theorem Gr.put {c r:Nat} (h:Gr H0 H E f g ls n B P) (hc:c∈ls) (hr:r<n):Gr H0 (upd H (f c) (.dK (aR (kh (g c) r)))) E f (fun x=>if x=c then kh (g c) r else g x) ls n B (fun c' r'=>P c' r'∨(c'=c∧r'=r)):=by
 refine {h with dict:=?_,at_:=fun d hd=>?_,nd:=fun d hd=>?_,AN:=fun d hd x hx=>?_,any:=fun d hd=>?_,rooms:=fun d x=>?_}
 ·rw[ao (h.ne c hc).symm];exact h.dict
 ·by_cases e:d=c
  ·subst e;rw[af,if_pos rfl]
  ·rw[ao (fun z=>e (h.inj d hd c hc z)),if_neg e];exact h.at_ d hd
 ·by_cases e:d=c
  ·rw[if_pos e];exact wV (h.nd c hc)
  ·rw[if_neg e];exact h.nd d hd
 ·by_cases e:d=c
  ·rw[if_pos e] at hx
   rcases jA.mp hx with z | z
   ·exact h.AN c hc x z
   ·rw[z];exact hr
  ·rw[if_neg e] at hx;exact h.AN d hd x hx
 ·by_cases e:d=c
  ·rw[if_pos e]
   intro z
   have:=(jA (es:=g c) (t:=r) (x:=r)).mpr (.inr rfl)
   rw[z] at this;cases this
  ·rw[if_neg e];exact h.any d hd
 ·rw[←h.rooms d x]
  by_cases e:d=c
  ·subst e
   rw[if_pos rfl,jA]
   constructor
   ·rintro⟨h1,h2 | h2⟩
    ·exact .inl ⟨h1,h2⟩
    ·exact .inr ⟨rfl,h2⟩
   ·rintro(⟨h1,h2⟩ | ⟨_,h2⟩)
    ·exact⟨h1,.inl h2⟩
    ·exact⟨hc,.inr h2⟩
  ·rw[if_neg e]
   exact⟨.inl,fun z=>z.elim id fun q=>absurd q.1 e⟩
theorem Gr.new {c r:Nat} {Z:Addr} {H':Hp} (h:Gr H0 H E f g ls n B P) (s:Same H0 H) (hZ:H Z=none) (hc:c ∉ ls) (hcB:c<B) (hr:r<n) (e1:H' E=some (.dK (putK (kK f ls) (Sum.inl (c:Int)) (.ref Z)))) (e2:H' Z=some (.dK (aR [r]))) (k:∀b o,H b=some o→b≠E→H' b=some o):
  Gr H0 H' E (fun x=>if x=c then Z else f x) (fun x=>if x=c then [r] else g x) (ls++[c]) n B (fun c' r'=>P c' r'∨(c'=c∧r'=r)):=by
 have old:∀d∈ls,d≠c:=fun d hd z=>hc (z▸hd)
 have spl:∀d∈ls++[c],d∈ls∧d≠c∨d=c:=fun d hd=>by
  rcases List.mem_append.mp hd with z | z
  ·exact .inl ⟨z,old d z⟩
  ·exact .inr (List.mem_singleton.mp z)
 have fz:∀d∈ls,f d≠Z:=fun d hd z=>by have:=h.at_ d hd;rw[z,hZ] at this;cases this
 refine⟨by rw[e1,Cf hc],?_,fun d hd=>?_,fun d hd d' hd' e=>?_,fun d hd=>?_,fun d hd=>?_,fun d hd=>?_,fun d hd=>?_,fun d hd x hx=>?_,fun d hd=>?_,fun d x=>?_⟩
 ·rw[List.nodup_append]
  exact⟨h.once,by simp,fun a ha b hb z=>hc (by rw[←List.mem_singleton.mp hb,←z];exact ha)⟩
 ·rcases spl d hd with⟨z,_⟩ | z
  ·exact h.lt d z
  ·rw[z];exact hcB
 ·rcases spl d hd with⟨z,z2⟩ | z<;>rcases spl d' hd' with⟨q,q2⟩ | q
  ·rw[if_neg z2,if_neg q2] at e;exact h.inj d z d' q e
  ·rw[if_neg z2,if_pos q] at e;exact absurd e (fz d z)
  ·rw[if_pos z,if_neg q2] at e;exact absurd e.symm (fz d' q)
  ·rw[z,q]
 ·rcases spl d hd with⟨z,z2⟩ | z
  ·rw[if_neg z2];exact h.free d z
  ·rw[if_pos z];exact s.free hZ
 ·rcases spl d hd with⟨z,z2⟩ | z
  ·rw[if_neg z2,if_neg z2];exact k _ _ (h.at_ d z) (h.ne d z)
  ·rw[if_pos z,if_pos z];exact e2
 ·rcases spl d hd with⟨z,z2⟩ | z
  ·rw[if_neg z2];exact h.ne d z
  ·rw[if_pos z];exact(ay h.dict hZ).symm
 ·rcases spl d hd with⟨z,z2⟩ | z
  ·rw[if_neg z2];exact h.nd d z
  ·rw[if_pos z];simp
 ·rcases spl d hd with⟨z,z2⟩ | z
  ·rw[if_neg z2] at hx;exact h.AN d z x hx
  ·rw[if_pos z] at hx;rw[List.mem_singleton.mp hx];exact hr
 ·rcases spl d hd with⟨z,z2⟩ | z
  ·rw[if_neg z2];exact h.any d z
  ·rw[if_pos z];simp
 ·rw[←h.rooms d x]
  by_cases e:d=c
  ·rw[if_pos e,List.mem_singleton]
   constructor
   ·rintro⟨_,h2⟩;exact .inr ⟨e,h2⟩
   ·rintro(⟨h1,_⟩ | ⟨_,h2⟩)
    ·exact absurd e (old d h1)
    ·exact⟨by rw[e];simp,h2⟩
  ·rw[if_neg e]
   constructor
   ·rintro⟨h1,h2⟩
    rcases spl d h1 with⟨z,_⟩ | z
    ·exact .inl ⟨z,h2⟩
    ·exact absurd z e
   ·rintro(⟨h1,h2⟩ | ⟨h1,_⟩)
    ·exact⟨List.mem_append_left _ h1,h2⟩
    ·exact absurd h1 e
end
def Hm:Sp:=fun vs H Q _=>∃(ma nm rd td:Addr) (bs:List Bool) (mv:List (List Nat)) (B:Nat) (o:Obj) (R th:List Nat),vs=[.ref ma,.ref rd,.ref td]∧cy H ma nm bs mv∧Moves bs.length B mv∧bs.length≤60∧B≤300∧
 Rd H rd (.dK (aR R))∧H td=some (.bN o (.dK (aR th)))∧(∀r∈th,r<bs.length)∧(∃r a,r∈th∧a<B∧stp mv r a∈R)∧
 ∀(p G:Addr) (a:Nat) (es:List Nat) (H':Hp),H G=none→Same H H'→H' p=some (.tup [.int (a:Nat),.ref G])→H' G=some (.dK (aR es))→es≠[]→a<B→(∃r∈th,stp mv r a∈R)→(∀b,b<a→∀r∈th,stp mv r b ∉ R)→(∀r,r∈es↔r∈th∧stp mv r a∈R)→Q (.ref p) H'
theorem dq:aY ["machine","rooms","there","by_letter","room","letter","to","found"] ["machine","rooms","there"] (aq eQ):=⟨rfl,rfl,rfl,by decide+kernel,rfl,by decide+kernel,by decide+kernel⟩
set_option maxHeartbeats 16000000 in
theorem sm {a:eK} (T:Txt K mg a):bR P w K mg base dr 1 a.gR a.iS ["machine","rooms","there"] Hm:=by
 refine T.uE.ok dq (fun vs H Q E h=>?_) (fun cdv A outer s H vs Q E hr h=>?_)
 ·obtain⟨ma,nm,rd,td,bs,mv,B,o,R,th,rfl,_⟩:=h
  rfl
 ·obtain⟨ma,nm,rd,td,bs,mv,B,o,R,th,rfl,hma,mo,hn,hB,uR,rE,hth,hex,k⟩:=h
  refine⟨_,(ah (aC (i:=3) dq.nd rfl (Or.inl rfl) kS)
  (ah (bh PassesOwn.never rfl (oA (pv 2)) (az (i:=4) dq.nd rfl (Or.inl rfl))
   (ax (bh PassesOwn.never rfl (jq rfl T.cX (ae (aE (aP K) (aE (aP K) (pv 0) ak (fun _ _=>rfl)) (pv 4) (fun _ _=>rfl)) ag)) (dQ rfl (aK (az (i:=5) dq.nd rfl (Or.inl rfl)) (aK (az (i:=6) dq.nd rfl (Or.inl rfl)) bV)))
    (ax (bZ (tH (y9 (jN hr) (pv 6) (pv 1)) (by with_unfolding_all rfl))
     (ah (aC (i:=7) dq.nd rfl (Or.inl rfl) (BG (pv 3) (pv 5) kS ⟨rfl,rfl,rfl,rfl⟩))
     (ax (qc (jN hr) (pv 7) (pv 4) cZ rfl)))
     br)))))
  (ah (aC (i:=5) dq.nd rfl (Or.inl rfl) (aL (zK K rfl) (by rfl) T.Jx FQ (ae (b_ (vJ rfl) (by rfl) T.mO kz (ae (pv 3) ag)) ag)))
  (ax (aS (bX (ae (pv 5) (ae (wy (jN hr) (pv 3) (pv 5) (fun _ _=>rfl)) ag)))))))),?_⟩
  have big:(1000000:Nat)≤sizeLine:=by decide
  obtain⟨ya,va,ps,e1,e2,e3,tp⟩:=hma
  refine fun E hE=>?_
  dsimp only[aH]
  have sE:=Same.new (o:=.dK []) hE
  refine aI fun Y hY=>?_
  refine⟨_,rfl,td,aR th,o,rfl,sE _ _ rE,?_⟩
  refine oB (fun j σ H'=>∃(f:Nat→Addr) (g:Nat→List Nat) (ls:List Nat) (v4 v5 v6 v7:Option V),σ=[some (.ref ma),some (.ref rd),some (.ref td),some (.ref E),v4,v5,v6,v7]∧Same H H'∧Gr H H' E f g ls bs.length B (fun c r=>r∈th.take j∧c<B∧stp mv r c∈R))
   ⟨fun _=>0,fun _=>[],[],none,none,none,none,rfl,sE,⟨af,by simp,fun c hc=>(by cases hc),fun c hc=>(by cases hc),fun c hc=>(by cases hc),fun c hc=>(by cases hc),fun c hc=>(by cases hc),fun c hc=>(by cases hc),fun c hc=>(by cases hc),fun c hc=>(by cases hc),fun c r=>(by simp)⟩⟩ (fun j σ H' _ ⟨_,_,_,_,_,_,_,_,s',_⟩=>s' _ _ rE) ?_ ?_
  ·rintro j kk vv σ H1 hk ⟨f,g,ls,v4,v5,v6,v7,rfl,s1,gr⟩
   obtain⟨r,hr',rfl,rfl⟩:=mU hk
   have j1:=hth r (List.mem_of_getElem? hr')
   obtain⟨r1,r2,r3⟩:=mo.row (tp.keep s1.kt) j1
   have GP:mv[r]? =some (mv.getD r []):=item_at [] (by rw[mo.len];exact j1)
   refine⟨_,rfl,ma,_,_,.ref va,rfl,rfl,.of (s1 _ _ e1),aD (j:=2) rfl,_,rfl,va,_,_,.ref (ps.getD r 0),rfl,rfl,.of (s1 _ _ e3),aD (by rw[List.getElem?_map,r1];rfl),_,rfl,⟨_,.of r2⟩,?_⟩
   refine jU (xs:=(aj (mv.getD r [])).map V.int) (fun l σ H'=>∃(f:Nat→Addr) (g:Nat→List Nat) (ls:List Nat) (v5 v6 v7:Option V),σ=[some (.ref ma),some (.ref rd),some (.ref td),some (.ref E),some (.int (r:Nat)),v5,v6,v7]∧Same H H'∧H' (ps.getD r 0)=some (.tup ((aj (mv.getD r [])).map V.int))∧Gr H H' E f g ls bs.length B (fun c x=>(x∈th.take j∧c<B∧stp mv x c∈R)∨(x=r∧c<l∧c<B∧stp mv r c∈R)))
    ⟨f,g,ls,v5,v6,v7,rfl,s1,r2,gr.iff fun c x=>⟨.inl,fun z=>z.elim id fun q=>absurd q.2.1 (Nat.not_lt_zero _)⟩⟩ (fun l σ H' _ ⟨_,_,_,_,_,_,_,_,h,_⟩=>.of h) ?_ ?_
   ·rintro l x q σ H2 hx ⟨f,g,ls,v5,v6,v7,rfl,s2,Kx,Hn⟩ hq
    obtain⟨t,rfl,et⟩:=cx hx
    have hl:l<B:=by rw[←r3];exact(List.getElem?_eq_some_iff.mp et).1
    have est:stp mv r l=t:=by unfold stp;rw[List.getD_eq_getElem?_getD (l:=mv.getD r []),et];rfl
    have sq:=Same.new (o:=.tup [.int (l:Nat),.int (t:Nat)]) hq
    have s3:=s2.trans sq
    have rH:=Hn.keep sq
    have Dp:=sq _ _ Kx
    generalize QD:upd H2 q (.tup [.int (l:Nat),.int (t:Nat)])=H3 at s3 rH Dp ⊢
    refine⟨q,_,rfl,.of (by rw[←QD];exact af),rfl,_,_,rfl,_,_,rfl,rfl,?_⟩
    have nxt:∀c x,((x∈th.take j∧c<B∧stp mv x c∈R)∨(x=r∧c<l+1∧c<B∧stp mv r c∈R))↔((x∈th.take j∧c<B∧stp mv x c∈R)∨(x=r∧c<l∧c<B∧stp mv r c∈R))∨(c=l∧x=r∧t∈R):=fun c x=>by
     constructor
     ·rintro(h1 | ⟨h1,h2,h3,h4⟩)
      ·exact .inl (.inl h1)
      ·by_cases e:c=l
       ·subst e;exact .inr ⟨rfl,h1,est▸h4⟩
       ·exact .inl (.inr ⟨h1,by omega,h3,h4⟩)
     ·rintro((h1 | ⟨h1,h2,h3,h4⟩) | ⟨h1,h2,h3⟩)
      ·exact .inl h1
      ·exact .inr ⟨h1,by omega,h3,h4⟩
      ·exact .inr ⟨h2,by omega,by omega,by rw[h1,est];exact h3⟩
    have lls:ls.length≤B:=dF _ _ rH.once rH.lt
    have dg:g7 H3 rd (.int (t:Nat)) (bW (aR R) (Sum.inl (t:Int))):=.inl ⟨aR R,Sum.inl (t:Int),je uR s3,rfl,rfl⟩
    refine⟨_,rfl,_,rfl,rd,_,rfl,dg,_,rfl,?_⟩
    rw[wU]
    refine cG (fun z=>?_) (fun z=>?_)
    ·have QE:t∈R:=of_decide_eq_true z
     have Ho:∀c x,((x∈th.take j∧c<B∧stp mv x c∈R)∨(x=r∧c<l∧c<B∧stp mv r c∈R))∨(c=l∧x=r)↔((x∈th.take j∧c<B∧stp mv x c∈R)∨(x=r∧c<l+1∧c<B∧stp mv r c∈R)):=fun c x=>by
      rw[nxt c x]
      exact⟨fun h=>h.elim .inl fun q=>.inr ⟨q.1,q.2,QE⟩,fun h=>h.elim .inl fun q=>.inr ⟨q.1,q.2.1⟩⟩
     refine aI fun Y2 dI=>?_
     refine⟨_,rfl,E,rfl,.inl ⟨_,.inl rH.dict⟩,_,rfl,fun Z hZ=>?_⟩
     have sZ:=Same.new (o:=.dK []) hZ
     have rJ:=rH.keep sZ
     have s4:=s3.trans sZ
     have Dq:=sZ _ _ Dp
     have Ky:E≠Z:=ay rH.dict hZ
     refine⟨kK f ls,Sum.inl (l:Int),rJ.dict,rfl,?_,fun v hv=>?_,fun hv=>?_⟩
     ·unfold kK;rw[List.length_map];omega
     ·rw[kL] at hv
      by_cases hc:l∈ls
      ·rw[if_pos hc] at hv
       cases hv
       dsimp only[aH]
       subst dI
       refine⟨_,rfl,_,rfl,f l,_,rfl,j8.k (k:=Sum.inl (r:Int)) (rJ.at_ l hc) ?_,?_⟩
       ·rw[fS]
        have:=dF _ _ (rJ.nd l hc) (rJ.AN l hc)
        omega
       ·rw[qz]
        refine⟨f,_,ls,_,_,_,rfl,s4.kbn (rJ.free l hc) KB.write,?_,(rJ.put hc j1).iff Ho⟩
        rw[ao (bF Dq (rJ.at_ l hc) (fun z=>nomatch z))];exact Dq
      ·rw[if_neg hc] at hv;cases hv
     ·rw[kL] at hv
      by_cases hc:l∈ls
      ·rw[if_pos hc] at hv;cases hv
      ·dsimp only[aH]
       subst dI
       refine⟨_,rfl,_,rfl,Z,_,rfl,j8.k (k:=Sum.inl (r:Int)) (kvs:=[]) (by rw[ao Ky.symm];exact af) (by decide),?_⟩
       have ep:putK [] (Sum.inl (r:Int):Key) (V.bl true)=aR [r]:=rfl
       rw[ep]
       refine⟨_,_,_,_,_,_,rfl,(s4.kbn hE KB.write).kbn (s3.free hZ) KB.write,?_,(rH.new s3 hZ hc hl j1 (r:=r) ?_ af fun b o e ne=>?_).iff Ho⟩
       ·rw[ao (ay Dp hZ),ao (bF Dq rJ.dict (fun z=>nomatch z))];exact Dq
       ·rw[ao Ky,af]
       ·rw[ao (ay e hZ),ao ne];exact sZ _ _ e
    ·refine⟨f,g,ls,_,_,_,rfl,s3,Dp,rH.iff fun c x=>?_⟩
     rw[nxt c x]
     exact⟨.inl,fun h=>h.elim id fun q=>absurd (decide_eq_true q.2.2) z⟩
   ·rintro σ H2 ⟨f,g,ls,v5,v6,v7,rfl,s2,Kx,Hn⟩
    refine⟨f,g,ls,_,_,_,_,rfl,s2,Hn.iff fun c x=>?_⟩
    rw[List.length_map,aA,r3,take_snoc hr',List.mem_append,List.mem_singleton]
    constructor
    ·rintro(⟨h1,h2,h3⟩ | ⟨h1,h2,h3,h4⟩)
     ·exact⟨.inl h1,h2,h3⟩
     ·exact⟨.inr h1,h2,h1▸h4⟩
    ·rintro⟨h1 | h1,h2,h3⟩
     ·exact .inl ⟨h1,h2,h3⟩
     ·exact .inr ⟨h1,h2,h2,h1▸h3⟩
  ·rintro σ H1 ⟨f,g,ls,v4,v5,v6,v7,rfl,s1,gr⟩
   rw[fS,List.take_length] at gr
   subst hY
   have lls:ls.length≤B:=dF _ _ gr.once gr.lt
   refine⟨_,rfl,E,kK f ls,aj ls,rfl,gr.dict,Ce f ls,by rw[aA];omega,fun L hL=>?_⟩
   have sL:=Same.new (o:=.lst ((aj ls).map V.int)) hL
   refine⟨L,aj ls,rfl,.of af,?_,fun mm h1 h2=>?_⟩
   ·obtain⟨r,c,h1,h2,h3⟩:=hex
    have:=((gr.rooms c r).mpr ⟨h1,h2,h3⟩).1
    intro z
    have e:(aj ls).length=0:=by rw[z];rfl
    rw[aA] at e
    rw[List.length_eq_zero_iff.mp e] at this
    cases this
   obtain⟨c,hc,rfl⟩:=List.mem_map.mp h1
   have least:∀d∈ls,c≤d:=fun d hd=>by
    have:=h2 (d:Int) (List.mem_map.mpr ⟨d,hd,rfl⟩)
    omega
   dsimp only[aH]
   refine⟨_,rfl,_,rfl,_,rfl,E,.ref (f c),rfl,.inl ⟨kK f ls,Sum.inl (c:Int),.inl (sL _ _ gr.dict),rfl,by rw[kL,if_pos hc]⟩,by show 2≤sizeLine;omega,fun p hp=>?_⟩
   have sp:=Same.new (o:=.tup [.int (c:Nat),.ref (f c)]) hp
   refine k p (f c) c (g c) _ (gr.free c hc) ((s1.trans sL).trans sp) af (sp _ _ (sL _ _ (gr.at_ c hc))) (gr.any c hc) (gr.lt c hc) ?_ ?_ ?_
   ·obtain⟨r,hr'⟩:=List.exists_mem_of_ne_nil _ (gr.any c hc)
    obtain⟨h3,_,h4⟩:=(gr.rooms c r).mp ⟨hc,hr'⟩
    exact⟨r,h3,h4⟩
   ·intro b hb r hr' hR
    have hcB:=gr.lt c hc
    have:=least b ((gr.rooms b r).mpr ⟨hr',by omega,hR⟩).1
    omega
   ·intro r
    constructor
    ·intro h3
     obtain⟨h4,_,h5⟩:=(gr.rooms c r).mp ⟨hc,h3⟩
     exact⟨h4,h5⟩
    ·rintro⟨h3,h4⟩
     exact((gr.rooms c r).mpr ⟨h3,gr.lt c hc,h4⟩).2
def fU (H:Hp) (ds:List Addr) (au:List (List Nat)):Prop:=Paired (fun(d:Addr) (th:List Nat)=>∃o,H d=some (.bN o (.dK (aR th)))) ds au
theorem fU.keep {H H':Hp} {ds:List Addr} {au:List (List Nat)} (h:fU H ds au) (s:∀d o u,H d=some (.bN o u)→H' d=some (.bN o u)):fU H' ds au:=by
 unfold fU at h ⊢
 induction h with
 | nil=>exact .nil
 | cons r t ih=>obtain⟨o,r⟩:=r;exact .cons ⟨o,s _ _ _ r⟩ ih
theorem fU.snoc {H:Hp} {ds:List Addr} {au:List (List Nat)} {d:Addr} {th:List Nat} {o:Obj} (h:fU H ds au) (e:H d=some (.bN o (.dK (aR th)))):fU H (ds++[d]) (au++[th]):=by
 unfold fU at h ⊢
 induction h with
 | nil=>exact .cons ⟨o,e⟩ .nil
 | cons r t ih=>exact .cons r ih
theorem yt {J:It} {g:TG} {tt:TT} {te:TE} {D:Addr} {σ:St} {H:Hp} {R R':Hp→Prop} (h:∀H,R H→R' H) (c:gg J g tt te D σ H R):gg J g tt te D σ H R':=by
 obtain⟨W,w0,f⟩:=c
 exact⟨W,w0,fun i m σ H w=>(f i m σ H w).imp (fun z=>⟨z.1,h _ z.2⟩) id⟩
theorem su {t:Nat}:∀{Ds:List (List Nat)},t∈Ds.flatten↔∃j,j<Ds.length∧t∈Ds.getD j []:=fun {Ds}=>by
 rw[List.mem_flatten]
 constructor
 ·rintro⟨l,hl,ht⟩
  obtain⟨j,hj⟩:=List.getElem?_of_mem hl
  exact⟨j,(List.getElem?_eq_some_iff.mp hj).1,by rw[List.getD_eq_getElem?_getD,hj];exact ht⟩
 ·rintro⟨j,hj,ht⟩
  exact⟨Ds.getD j [],List.mem_of_getElem? (item_at [] hj),ht⟩
theorem rK:∀(es xs:List Nat),∃zs,fe (aR xs) (aR es)=aR zs∧∀t,t∈zs↔t∈xs∨t∈es
 | [],xs=>⟨xs,rfl,fun t=>by simp⟩
 | e::es,xs=>by
  obtain⟨zs,h1,h2⟩:=rK es (kh xs e)
  refine⟨zs,?_,fun t=>?_⟩
  ·rw[←h1,←qz];rfl
  ·rw[h2 t,jA,List.mem_cons,or_assoc]
theorem Cg (n:Nat):(List.replicate n [V.bl true]).flatten=(List.replicate n true).map V.bl:=by
 induction n with
 | zero=>rfl
 | succ n ih=>rw[List.replicate_succ,List.flatten_cons,ih,List.replicate_succ];rfl
def AO:Sp:=fun vs H Q _=>∃(b m:Nat) (ma nm:Addr) (ns:List V) (bs:List Bool) (mv:List (List Nat)),vs=[.int b,.ref ma]∧0<b∧b≤4∧m≤4∧cy H ma nm bs mv∧H nm=some (.tup ns)∧ns.length=m∧Moves bs.length (b ^ m) mv∧0<bs.length∧bs.length≤60∧(∀r,r<bs.length→yB bs (stp mv r 0)=yB bs r)∧
 (∀H',Same H H'→(∀k,Nw (stp mv) (b ^ m) (yB bs) k=[])→Q .non H')∧
 ∀(p:Addr) (w:List Nat) (k:Nat) (H':Hp),Same H H'→H' p=some (.tup ((aj (aZ b m w)).map V.int))→(Nw (stp mv) (b ^ m) (yB bs) k).head? =some w→Q (.ref p) H'
theorem bU:aY ["base","machine","numbers","ends","fresh","reached","room","letters","rooms","there","step"] ["base","machine"] (aq dX):=⟨rfl,rfl,rfl,by decide+kernel,rfl,by decide+kernel,by decide+kernel⟩
set_option maxHeartbeats 16000000 in
theorem vU {a:eK} (T:Txt K mg a):bR P w K mg base dr 3 a.i7 a.ke ["base","machine"] AO:=by
 have fG:=iT (P:=P) (w:=w) (base:=base) T
 have mX:=pH (P:=P) (w:=w) (base:=base) T
 have iW:=kF (P:=P) (w:=w) (base:=base) T
 have iV:=kG (P:=P) (w:=w) (base:=base) T
 have kj:=mT (P:=P) (w:=w) (base:=base) T
 have vg:=sm (P:=P) (w:=w) (base:=base) T
 have iU:=kE (P:=P) (w:=w) (base:=base) T
 refine T.x5.ok bU (fun vs H Q E h=>?_) (fun cdv A outer s H vs Q E hr h=>?_)
 ·obtain⟨b,m,ma,nm,ns,bs,mv,rfl,_⟩:=h
  rfl
 ·obtain⟨b,m,ma,nm,ns,bs,mv,rfl,hb0,hb,hm,hma,i4,rF,mo,h0,hn,hg,k1,k2⟩:=h
  have fg:aX 1 _:=hr.mono (by decide)
  have lG:aX 1 _:=hr.mono (by decide)
  have ip:aX 1 _:=hr.mono (by decide)
  have il:aX 1 _:=hr.mono (by decide)
  have jD:aX 1 _:=hr.mono (by decide)
  have sv:aX 1 _:=hr.mono (by decide)
  have ij:aX 1 _:=hr.mono (by decide)
  refine⟨_,(ah (aC (i:=2) bU.nd rfl (Or.inl rfl) (aG fG fg rfl T.jv T.jw T.jx .nil aO (ae (pv 1) ag)))
  (ah (bZ (cb K (aE (aP K) (aE (aP K) (pv 1) ak (fun _ _=>rfl)) ak (fun _ _=>rfl)) (fun _=>rfl))
   (ax (aS (pv 2)))
   br)
  (ah (aC (i:=3) bU.nd rfl (Or.inr rfl) (aG mX lG rfl T.rj T.rq T.rA .nil aO (ae (pv 1) ag)))
  (ah (aC (i:=4) bU.nd rfl (Or.inl rfl) (aF tT (bx (ae cZ ag)) (aL (aW K) (by rfl) T.cF bP (ae (pv 3) ag))))
  (ah (aC (i:=5) bU.nd rfl (Or.inl rfl) (bx (ae (wA (t_ ak cZ wz) rfl rfl (fun z=>nomatch z) (by decide)) ag)))
  (ah (kO PassesOwn.never (PW.pt (mw (mJ (aE (aM K) (pv 5) (fI eN ak) (fun _ _=>rfl)) (fun _=>rfl)) (kn (ji (cb K (aL (mH K rfl) (by rfl) T.sJ pf (ae (cg (aJ.mk' (esc:=aq dX) (N:=["base","machine","numbers","ends","fresh","reached","room","letters","rooms","there","step"]) (own:=["room"]) (bu:=["ends"]) (bB:=[3]) rfl rfl (by decide+kernel)) rfl (ug (aE (aM K) (pv 5) (fI eN ak) (fun _ _=>rfl))) (fun _ _ _ _=>(az (i:=0) (show List.Nodup (["room","ends"]:List Str) by decide+kernel) rfl (Or.inl rfl))) (fun _ _ _ _=>bM) (fun _ _ _ _=>(aE (aM K) (pv 1) (pv 0) (fun _ _=>rfl)))) ag)) (fun _=>rfl))))))
   (ah (bh PassesOwn.never rfl (oA (aE (aM K) (pv 5) (fI eN ak) (fun _ _=>rfl))) (az (i:=6) bU.nd rfl (Or.inl rfl))
    (ax (iF cZ (oX (pv 4) (pv 6) set_list))))
   (ax (bI (cE PySem.F.plainAttrs_list PySem.F.slot_list_append PySem.F.type_list_append bz (pv 5) (ae (aG iW ip rfl T.lO T.lP T.lQ .nil aO (ae (pv 1) (ae (aE (aM K) (pv 5) (fI eN ak) (fun _ _=>rfl)) (ae (pv 4) ag)))) ag))))))
  (ah (bZ (ji (mJ (aE (aM K) (pv 5) (fI eN ak) (fun _ _=>rfl)) (fun _=>rfl)))
   (ax (aS oW))
   br)
  (ah (aC (i:=7) bU.nd rfl (Or.inl rfl) (aG iV il rfl T.lL T.lM T.lN .nil aO (ae (pv 0) (ae (aL (aW K) (by rfl) T.cF bP (ae (aE (aP K) (pv 1) ak (fun _ _=>rfl)) ag)) ag))))
  (ah (aC (i:=8) bU.nd rfl (Or.inl rfl) (b_ (xM hr.hd) (by rfl) T.Gq Eb (ae (cg (aJ.mk' (esc:=aq dX) (N:=["base","machine","numbers","ends","fresh","reached","room","letters","rooms","there","step"]) (own:=["room"]) (bu:=[]) (bB:=[]) rfl rfl (by decide+kernel)) rfl (f_ (aG kj jD rfl T.nV T.nW T.nX .nil aO (ae (pv 1) ag))) (fun _ _ _ _=>(az (i:=0) (show List.Nodup (["room"]:List Str) by decide+kernel) rfl (Or.inl rfl))) (fun _ _ _ _=>bM) (fun _ _ _ _=>(bX (ae (pv 0) (ae cZ ag))))) ag)))
  (ah (bh PassesOwn.never rfl (zj rfl T.pB (ae (pv 5) ag)) (az (i:=9) bU.nd rfl (Or.inl rfl))
   (ah (aC (i:=10) bU.nd rfl (Or.inl rfl) (aG vg sv rfl T.uF T.uG T.uH .nil aO (ae (pv 1) (ae (pv 8) (ae (pv 9) ag)))))
   (ah (aC (i:=2) bU.nd rfl (Or.inl rfl) (aG iU ij rfl T.lR T.lT T.lU .nil aO (ae (pv 0) (ae (pv 2) (ae (aE (aM K) (pv 7) (aE (aP K) (pv 10) ak (fun _ _=>rfl)) (fun _ _=>rfl)) ag)))))
   (ax (aC (i:=8) bU.nd rfl (Or.inl rfl) (aE (aP K) (pv 10) ak (fun _ _=>rfl)))))))
  (ax (aS (pv 2))))))))))))),?_⟩
  have big:(1000000:Nat)≤sizeLine:=by decide
  have oQ:=hma
  obtain⟨ya,va,ps,e1,e2,e3,tp⟩:=oQ
  have hB:b ^ m≤256:=iL hb hm
  have pI:0<b ^ m:=Nat.pow_pos hb0
  have Hh:bs[0]? =some (bs.getD 0 false):=item_at false h0
  have hst:∀r a,r<bs.length→a<b ^ m→stp mv r a<bs.length:=fun r a h1 h2=>mo.stp h1 h2
  refine aI fun Y hY=>?_
  refine⟨_,rfl,ma,nm,bs,mv,ns,rfl,hma,i4,by omega,fun p0 H1 s1 Hq=>?_⟩
  rw[rF] at Hq
  dsimp only[aH]
  subst hY
  refine aI fun Y hY=>?_
  refine⟨_,rfl,ma,_,_,.ref ya,rfl,rfl,.of (s1 _ _ e1),aD (j:=1) rfl,ya,_,_,.bl (bs.getD 0 false),rfl,rfl,.of (s1 _ _ e2),aD (j:=0) (by rw[List.getElem?_map,Hh];rfl),_,rfl,?_⟩
  refine cG (fun z=>?_) (fun z=>?_)
  ·refine⟨_,rfl,k2 p0 [] 0 H1 s1 Hq ?_⟩
   show(if yB bs 0=true then [[]] else []).head? =some []
   rw[if_pos (show yB bs 0=true from z)];rfl
  have y0:yB bs 0=false:=Bool.eq_false_iff.mpr z
  refine eA ?_
  dsimp only
  subst hY
  refine aI fun Y hY=>?_
  refine⟨_,rfl,ma,nm,bs,mv,b ^ m,rfl,hma.keep s1.kt,mo,hn,by omega,pI,fun en H2 hen s2 xf=>?_⟩
  have Az:=s1.trans s2
  have AI:(mv.map (fE bs)).length=bs.length:=by rw[List.length_map,mo.len]
  dsimp only[aH]
  subst hY
  refine aI fun Y hY=>?_
  refine⟨by show 1≤sizeLine;omega,fun f0 QF=>?_⟩
  have xg:=Same.new (o:=.lst [.bl true]) QF
  refine⟨_,rfl,_,bs.length,rfl,.inl ⟨_,.of (xg _ _ xf),by rw[List.length_map,AI]⟩,f0,_,_,rfl,rfl,af,by omega,by omega,?rz,fun fa hfa=>?_⟩
  case rz=>show 1*((bs.length:Nat):Int).toNat≤_;omega
  rw[Int.toNat_natCast,Cg]
  have Hr:=Same.new (o:=.lst ((List.replicate bs.length true).map V.bl)) hfa
  have cW:=(Az.trans xg).trans Hr
  have yu:=Hr _ _ (xg _ _ xf)
  have Hs:=Hr _ _ (xg _ _ (s2 _ _ Hq))
  have Ms:H fa=none:=(Az.trans xg).free hfa
  have JF:en≠fa:=ay (xg _ _ xf) hfa
  have Dr:(upd (upd H2 f0 (.lst [.bl true])) fa (.lst ((List.replicate bs.length true).map V.bl))) fa=some (.lst ((List.replicate bs.length true).map V.bl)):=af
  generalize upd (upd H2 f0 (.lst [.bl true])) fa (.lst ((List.replicate bs.length true).map V.bl))=H3 at cW yu Hs Dr ⊢
  dsimp only[aH]
  subst hY
  refine aI fun Y hY=>?_
  refine fun d hd=>⟨af,[(Sum.inl 0,.bl true)],rfl,by decide,?_⟩
  have em:fe [] [((Sum.inl 0:Key),V.bl true)]=aR [0]:=rfl
  rw[em]
  have sd:Same H3 (upd (upd H3 d (.dK [])) d (.dK (aR [0]))):=(Same.new hd).kbn hd KB.write
  refine⟨by show 1≤sizeLine;omega,fun R hR=>?_⟩
  have sR:=Same.new (o:=.lst [.ref d]) hR
  have pO:=sd.trans sR
  have kH:=cW.trans pO
  have Du:H3 R=none:=sd.free hR
  have Hi:H R=none:=cW.free Du
  have Kz:fa≠R:=ay Dr Du
  have Mt:en≠R:=ay yu Du
  have KA:(upd (upd (upd H3 d (.dK [])) d (.dK (aR [0]))) R (.lst [.ref d])) d=some (.dK (aR [0])):=sR _ _ af
  have KC:(upd (upd (upd H3 d (.dK [])) d (.dK (aR [0]))) R (.lst [.ref d])) R=some (.lst [.ref d]):=af
  have hdH:H d=none:=cW.free hd
  generalize upd (upd (upd H3 d (.dK [])) d (.dK (aR [0]))) R (.lst [.ref d])=H4 at pO kH KA KC ⊢
  have Mu:=pO _ _ yu
  have QG:=pO _ _ Hs
  have Mv:=pO _ _ Dr
  clear pO sR sd cW Hs yu Dr hR hd Du
  dsimp only[aH]
  subst hY
  refine aI fun Y hY=>?_
  refine nz (fun M σ H'=>∃(ds:List Addr) (au:List (List Nat)) (d:Addr) (th:List Nat) (fr:List Bool) (v6:Option V),M=bs.length-au.flatten.length∧σ=[some (.int (b:Nat)),some (.ref ma),some (.ref p0),some (.ref en),some (.ref fa),some (.ref R),v6,none,none,none,none]∧Same H H'∧H' p0=some (.tup ((aj (aZ b m [])).map V.int))∧H' en=some (.lst ((mv.map (fE bs)).map V.bl))∧H' fa=some (.lst (fr.map V.bl))∧fr.length=bs.length∧(∀r,r<bs.length→(fr.getD r false=true↔r ∉ au.flatten))∧H' R=some (.lst (ds.map V.ref++[.ref d]))∧H d=none∧fU H' ds au∧H' d=some (.dK (aR th))∧(au++[th]).flatten.Nodup∧(∀r∈(au++[th]).flatten,r<bs.length)∧Bf (stp mv) (b ^ m) (yB bs) (au++[th])∧au.length+M≤60)
   ⟨_,[],[],d,[0],List.replicate bs.length true,none,rfl,rfl,kH,QG,Mu,Mv,List.length_replicate,fun r hr'=>?fr,KC,hdH,.nil,KA,by simp,fun r hr'=>?lt,Bf.begin,?bnd⟩ ?_ ?mono
  case fr=>
   rw[List.getD_eq_getElem?_getD,List.getElem?_replicate,if_pos hr']
   simp
  case lt=>
   have:r=0:=by simpa using hr'
   omega
  case bnd=>show 0+_≤_;omega
  case mono=>
   intro σ H Q Q' h ⟨v1,e1,v2,e2,p,xs,i,v3,e3,e4,e5,e6,d,kv,e7,e8,q⟩
   refine⟨v1,e1,v2,e2,p,xs,i,v3,e3,e4,e5,e6,d,kv,e7,e8,xc (fun q=>?_) (h _ _) q⟩
   obtain⟨a1,b1,a2,b2,p,xs,i,v,c1,c2,c3,c4,d,kv,c5,c6,q⟩:=q
   exact⟨a1,b1,a2,b2,p,xs,i,v,c1,c2,c3,c4,d,kv,c5,c6,fun o L hL=>yt (fun H' ⟨a,bs,g1,g2,k,g3,q⟩=>⟨a,bs,g1,g2,k,g3,h _ _ q⟩) (q o L hL)⟩
  rintro M σ H7 N hN ⟨ds,au,d,th,fr,v6,rfl,rfl,s7,p7,n7,f7,KD,hfr,r7,hdH,z7,d7,AQ,blt,bf,hM⟩
  have Hj:d≠R:=bF d7 r7 (fun z=>nomatch z)
  have vh:(au++[th]).flatten=au.flatten++th:=by rw[List.flatten_append];simp
  rw[vh] at AQ blt
  have bnd:∀r∈th,r<bs.length:=fun r hr'=>blt r (List.mem_append_right _ hr')
  have Dl:th.Nodup:=(List.nodup_append.mp AQ).2.1
  have ve:(au++[th]).length=au.length+1:=by rw[List.length_append];rfl
  have Ks:th.length≤bs.length:=dF _ _ Dl bnd
  have Ht:(au.flatten++th).length≤bs.length:=dF _ _ AQ blt
  rw[List.length_append] at Ht
  refine⟨_,rfl,_,rfl,R,_, -1,.ref d,rfl,rfl,.of r7,eU _ _,d,aR th,rfl,.inl d7,?_⟩
  cases hth:th with
  | nil=>
   refine cS (cS ?_)
   subst hY
   refine⟨_,rfl,_,rfl,R,_, -1,.ref d,rfl,rfl,.of r7,eU _ _,d,aR th,rfl,.inl d7,?_⟩
   rw[hth]
   refine oy (k1 H7 s7 fun kk=>bf.never y0 ?_ kk)
   rw[ve,Nat.add_sub_cancel_right,jH,hth]
  | cons t0 Qz=>
  rw[←hth]
  have ek:(!(aR th).isEmpty)=true:=by rw[hth];rfl
  rw[ek]
  refine oy ?_
  refine⟨_,rfl,_,rfl,R,_, -1,.ref d,rfl,rfl,.of r7,eU _ _,d,aR th,rfl,d7,fun o=>?_⟩
  have s8:Same H (upd H7 d (.bN o (.dK (aR th)))):=s7.kbn hdH KB.write
  have kd:∀c u,H7 c=some u→c≠d→(upd H7 d (.bN o (.dK (aR th)))) c=some u:=fun c u e ne=>by rw[ao ne];exact e
  have p8:=kd _ _ p7 (bF p7 d7 (fun z=>nomatch z))
  have n8:=kd _ _ n7 (bF n7 d7 (fun z=>nomatch z))
  have f8:=kd _ _ f7 (bF f7 d7 (fun z=>nomatch z))
  have r8:=kd _ _ r7 (bF r7 d7 (fun z=>nomatch z))
  have z8:fU (upd H7 d (.bN o (.dK (aR th)))) ds au:=z7.keep fun c o' u e=>kd _ _ e (bF e d7 (fun z=>nomatch z))
  have d8:(upd H7 d (.bN o (.dK (aR th)))) d=some (.bN o (.dK (aR th))):=af
  generalize upd H7 d (.bN o (.dK (aR th)))=H8 at s8 kd p8 n8 f8 r8 z8 d8 ⊢
  refine fun L hL=>?_
  refine rb (fun j σ H'=>∃v:Option V,σ=[v,some (.ref en)]∧Same H8 H'∧H' L=some (.lst (((th.take j).map fun r=>fE bs (mv.getD r [])).map V.bl)))
   ⟨none,?sg,Same.new hL,af⟩ (fun j σ H' _ ⟨_,_,s',_⟩=>s' _ _ d8) ?_ ?_
  case sg=>rfl
  ·rintro j kk vv σ H9 hk ⟨v,rfl,s9,l9⟩
   obtain⟨r,hr',rfl,rfl⟩:=mU hk
   have j1:=bnd r (List.mem_of_getElem? hr')
   have hj:=(List.getElem?_eq_some_iff.mp hr').1
   refine⟨_,rfl,_,rfl,en,_,_,.bl (fE bs (mv.getD r [])),rfl,rfl,.of (s9 _ _ n8),aD (j:=r) ?_,_,l9,?_,_,rfl,s9.kbn hL KB.write,?_⟩
   ·rw[List.getElem?_map,List.getElem?_map,item_at [] (show r<mv.length by rw[mo.len];exact j1)];rfl
   ·rw[List.length_map,List.length_map,List.length_take]
    omega
   ·rw[af,take_snoc hr',List.map_append,List.map_append];rfl
  rintro σ H9 ⟨v,rfl,s9,l9⟩
  rw[fS,List.take_length] at l9
  have om:=s8.trans s9
  have p9:=s9 _ _ p8
  have n9:=s9 _ _ n8
  have f9:=s9 _ _ f8
  have r9:=s9 _ _ r8
  have d9:=s9 _ _ d8
  have z9:fU H9 ds au:=z8.keep fun c o' u e=>s9 _ _ e
  refine⟨L,_,rfl,.of l9,_,rfl,?_⟩
  rw[List.any_map]
  refine cG (fun z=>?_) (fun z=>?_)
  ·
   have hno:∀r∈th,¬Ends (stp mv) (b ^ m) (yB bs) r:=fun r h1 h2=>by
    have h3:(th.any (id∘fun r=>fE bs (mv.getD r [])))=true:=List.any_eq_true.mpr ⟨r,h1,(jG mo (bnd r h1)).mpr h2⟩
    rw[h3] at z
    exact absurd z (by decide)
   refine aI fun Y2 dI=>?_
   refine⟨_,rfl,_,rfl,R,_, -1,.ref d,rfl,rfl,.of r9,eU _ _,d,aR th,o,rfl,d9,?_⟩
   refine oB (fun j σ H'=>∃(fr':List Bool) (v6:Option V),σ=[some (.int (b:Nat)),some (.ref ma),some (.ref p0),some (.ref en),some (.ref fa),some (.ref R),v6,none,none,none,none]∧KB fa H9 H'∧H' fa=some (.lst (fr'.map V.bl))∧fr'.length=bs.length∧∀r,r<bs.length→(fr'.getD r false=true↔r ∉ au.flatten∧r ∉ th.take j))
    ⟨fr,v6,rfl,KB.refl _ _,f9,KD,fun r hr'=>(by rw[hfr r hr'];simp)⟩ (fun j σ H' _ ⟨_,_,_,kb,_⟩=>kb _ _ d9 (bF d9 f9 (fun z=>nomatch z))) ?_ ?_
   ·rintro j kk vv σ lJ hk ⟨fr',v6,rfl,kb,kJ,qE,h10⟩
    obtain⟨r,hr',rfl,rfl⟩:=mU hk
    have j1:=bnd r (List.mem_of_getElem? hr')
    refine⟨_,rfl,_,rfl,fa,_,_,r,rfl,rfl,kJ,wO (by rw[List.length_map,qE];exact j1),?_⟩
    refine⟨fr'.set r false,_,rfl,kb.trans KB.write,by rw[af,List.map_set],by rw[List.length_set];exact qE,fun x hx=>?_⟩
    rw[take_snoc hr',List.mem_append,List.mem_singleton,not_or,←and_assoc,←h10 x hx]
    rw[List.getD_eq_getElem?_getD,List.getElem?_set]
    by_cases e:r=x
    ·subst e
     rw[if_pos rfl,if_pos (by rw[qE];exact j1)]
     simp
    ·rw[if_neg e,←List.getD_eq_getElem?_getD]
     exact⟨fun q=>⟨q,fun z=>e z.symm⟩,fun q=>q.1⟩
   rintro σ lJ ⟨fr',v6,rfl,kb,kJ,qE,h10⟩
   rw[fS,List.take_length] at h10
   have iY:Same H lJ:=om.kbn Ms kb
   have r10:=kb _ _ r9 Kz.symm
   have n10:=kb _ _ n9 JF
   have KG:=kb _ _ p9 (bF p9 f9 (fun z=>nomatch z))
   have AU:=kb _ _ d9 (bF d9 f9 (fun z=>nomatch z))
   have z10:fU lJ ds au:=z9.keep fun c o' u e=>kb _ _ e (bF e f9 (fun z=>nomatch z))
   subst dI
   refine⟨_,rfl,.inl ⟨rfl,_,.of r10⟩,_,rfl,_,rfl,_,rfl,R,_, -1,.ref d,rfl,rfl,.of r10,eU _ _,_,rfl,ma,nm,d,fa,bs,mv,b ^ m,o,th,fr',rfl,hma.keep iY.kt,mo,hn,AU,bnd,kJ,qE,fun G es wC hG iZ FI nd hes=>?_⟩
   have r11:=iZ _ _ r10
   have Hk:G≠R:=(ay r10 hG).symm
   have kr:∀c u,wC c=some u→c≠R→(upd wC R (.lst ((ds.map V.ref++[.ref d])++[.ref G]))) c=some u:=fun c u e ne=>by rw[ao ne];exact e
   refine⟨R,_,_,rfl,rfl,r11,by rw[List.length_append,List.length_map,Paired.length z10];simp;omega,?_⟩
   have Hu:∀t,t∈es↔(t ∉ au.flatten++th)∧∃r a,r∈th∧a<b ^ m∧stp mv r a=t:=fun t=>by
    rw[hes t,List.mem_append,not_or]
    constructor
    ·rintro⟨h1,h2,r,h3,h4⟩
     obtain⟨c,hc,e⟩:=(nH mo (bnd r h3)).mp h4
     exact⟨(h10 t h1).mp h2,r,c,h3,hc,e⟩
    ·rintro⟨h1,r,c,h3,hc,e⟩
     have ht:t<bs.length:=by rw[←e];exact hst r c (bnd r h3) hc
     exact⟨ht,(h10 t ht).mpr h1,r,h3,(nH mo (bnd r h3)).mpr ⟨c,hc,e⟩⟩
   have hfl:∀t,(t ∉ au.flatten++th)↔∀j,j≤au.length→t ∉ (au++[th]).getD j []:=fun t=>by
    rw[←vh,su,ve]
    exact⟨fun q j hj z=>q ⟨j,by omega,z⟩,fun q ⟨j,hj,z⟩=>q j (by omega) z⟩
   have KH:((au++[th])++[es]).flatten=(au.flatten++th)++es:=by rw[List.flatten_append,vh];simp
   have T4:0<th.length:=by rw[hth];simp
   refine hN _ _ _ ?mm ⟨ds++[d],au++[th],G,es,fr',v6,rfl,rfl,(iY.trans iZ).kbn Hi KB.write,kr _ _ (iZ _ _ KG) (bF (iZ _ _ KG) r11 (fun z=>nomatch z)),kr _ _ (iZ _ _ n10) Mt,kr _ _ (iZ _ _ kJ) Kz,qE,?_,?_,iY.free hG,?_,kr _ _ FI Hk,?_,?_,?_,?_⟩
   case mm=>rw[vh,List.length_append];omega
   ·intro r hr'
    rw[h10 r hr',vh,List.mem_append,not_or]
   ·rw[af,List.map_append];rfl
   ·exact((z10.keep fun c o' u e=>iZ _ _ e).snoc (iZ _ _ AU)).keep fun c o' u e=>kr _ _ e (bF e r11 (fun z=>nomatch z))
   ·rw[KH,List.nodup_append]
    exact⟨AQ,nd,fun x hx y hy e=>((Hu y).mp hy).1 (e▸hx)⟩
   ·intro r hr'
    rw[KH] at hr'
    rcases List.mem_append.mp hr' with q | q
    ·exact blt r q
    ·exact((hes r).mp q).1
   ·exact bf.more hno fun t=>by rw[Hu t,hfl t]
   ·rw[ve,vh,List.length_append];omega
  ·
   have hyes:(th.any (id∘fun r=>fE bs (mv.getD r [])))=true:=by
    cases e:th.any (id∘fun r=>fE bs (mv.getD r [])) with
    | true=>rfl
    | false=>rw[e] at z;exact absurd rfl z
   obtain⟨r0,hr1,hr2⟩:=List.any_eq_true.mp hyes
   have hend:∃r∈(au++[th]).getD ((au++[th]).length-1) [],Ends (stp mv) (b ^ m) (yB bs) r:=⟨r0,by rw[ve,Nat.add_sub_cancel_right,jH];exact hr1,(jG mo (bnd r0 hr1)).mp hr2⟩
   show Y _ _
   subst hY
   refine aI fun Y hY=>?_
   refine⟨_,rfl,_,rfl,R,_, -1,.ref d,rfl,rfl,.of r9,eU _ _,d,aR th,rfl,.inr ⟨o,d9⟩,?_⟩
   rw[ek]
   refine cS (eA ?_)
   show Y _ _
   subst hY
   have zz:fU H9 (ds++[d]) (au++[th]):=z9.snoc d9
   have rr:H9 R=some (.lst ((ds++[d]).map V.ref)):=by rw[r9,List.map_append];rfl
   generalize QH:ds++[d]=KI at zz rr
   have xa:KI.length=(au++[th]).length:=Paired.length zz
   generalize au++[th]=Ds at bf hend zz xa
   clear hN hM AQ blt bnd Dl ve Ks Ht KD hfr vh r7 r8 r9 d7 d8 d9 z7 z8 z9 p7 p8 n7 n8 f7 f8 kd ek l9 QH hth Hj hr1 hr2 hyes z
   refine aI fun Y hY=>?_
   refine⟨_,rfl,_,rfl,ma,_,_,.ref nm,rfl,rfl,.of (om _ _ e1),aD (j:=0) rfl,_,_,rfl,.inr ⟨_,.of (om _ _ i4),rfl⟩,b,ns.length,rfl,hb,by omega,fun la lps lJ hla iY uS tl=>?_⟩
   rw[rF] at tl
   dsimp only[aH]
   subst hY
   refine aI fun Y hY=>?_
   have Mw:=om.trans iY
   refine⟨_,rfl,ma,nm,bs,mv,rfl,hma.keep Mw.kt,hn,fun yl wC iZ Di=>⟨_,rfl,⟨_,.of Di⟩,fun L2 hL2=>?_⟩⟩
   have Mx:=iY.trans iZ
   have Tg:((List.range bs.length).filter fun r=>bs.getD r false).length≤60:=by
    have:=List.length_filter_le (fun r=>bs.getD r false) (List.range bs.length)
    rw[List.length_range] at this
    omega
   refine jl (xs:=(aj ((List.range bs.length).filter fun r=>bs.getD r false)).map V.int) (fun j σ H'=>∃(v:Option V) (qs:List Addr),σ=[v]∧Same wC H'∧H' L2=some (.lst (qs.map V.ref))∧Paired (fun(p:Addr) (q:Key×V)=>H' p=some (.tup [kV q.1,q.2])) qs (aR (((List.range bs.length).filter fun r=>bs.getD r false).take j)))
    ⟨none,[],?sg2,Same.new hL2,af,.nil⟩ (fun j σ H' _ ⟨_,_,_,s',_⟩=>.of (s' _ _ Di)) ?_ ?_
   case sg2=>rfl
   ·rintro j x σ pT hx ⟨v,qs,rfl,s12,l12,xh⟩
    obtain⟨t,rfl,et⟩:=cx hx
    refine⟨_,rfl,by show 2≤sizeLine;omega,fun q hq=>?_⟩
    have sq:=Same.new (o:=.tup [.int (t:Nat),.bl true]) hq
    have lq:qs.length≤60:=by
     rw[Paired.length xh,fS,List.length_take];omega
    refine⟨_,sq _ _ l12,by rw[List.length_map];omega,_,qs++[q],rfl,(s12.trans sq).kbn hL2 KB.write,by rw[af,List.map_append];rfl,?_⟩
    rw[take_snoc et]
    have kt:cH pT (upd (upd pT q (.tup [.int (t:Nat),.bl true])) L2 (.lst (qs.map V.ref++[.ref q]))):=fun c xs e=>by
     rw[ao (bF e l12 (fun z=>nomatch z))];exact sq _ _ e
    have eq2:(upd (upd pT q (.tup [.int (t:Nat),.bl true])) L2 (.lst (qs.map V.ref++[.ref q]))) q=some (.tup [.int (t:Nat),.bl true]):=by
     rw[ao (ay l12 hq).symm,af]
    generalize upd (upd pT q (.tup [.int (t:Nat),.bl true])) L2 (.lst (qs.map V.ref++[.ref q]))=KJ at kt eq2
    have ek:aR (((List.range bs.length).filter fun r=>bs.getD r false).take j++[t])=aR (((List.range bs.length).filter fun r=>bs.getD r false).take j)++[(Sum.inl (t:Int),V.bl true)]:=by unfold aR;rw[List.map_append];rfl
    rw[ek]
    generalize aR (((List.range bs.length).filter fun r=>bs.getD r false).take j)=kk at xh
    clear lq l12
    induction xh with
    | nil=>exact .cons eq2 .nil
    | cons r t ih=>exact .cons (kt _ _ r) ih
   rintro σ pT ⟨v,qs,rfl,s12,l12,xh⟩
   rw[List.length_map,aA,List.take_length] at xh
   refine⟨L2,qs,_,rfl,l12,xh,by rw[fS];omega,fun rm hrm=>?_⟩
   obtain⟨zs,QI,hzs⟩:=rK ((List.range bs.length).filter fun r=>bs.getD r false) []
   have Mz:fe [] (aR ((List.range bs.length).filter fun r=>bs.getD r false))=aR zs:=QI
   rw[Mz]
   have Hv:=Same.new (o:=.dK (aR zs)) hrm
   have vj:=(Mx.trans s12).trans Hv
   have Hw:=Hv _ _ (s12 _ _ (iZ _ _ uS))
   have Hx:=((tl.keep iZ.kt).keep s12.kt).keep Hv.kt
   have KL:(upd pT rm (.dK (aR zs))) rm=some (.dK (aR zs)):=af
   generalize upd pT rm (.dK (aR zs))=KJ at vj Hw Hx KL ⊢
   have hyz:∀r,r∈zs↔r<bs.length∧yB bs r=true:=fun r=>by
    rw[hzs r,List.mem_filter,List.mem_range]
    exact⟨fun q=>q.elim (fun z=>nomatch z) id,.inr⟩
   dsimp only[aH]
   subst hY
   refine aI fun Y hY=>?_
   have Hy:=vj _ _ rr
   have Hz:=om.trans vj
   have G4:lps.length=b ^ m:=by rw[Paired.length tl,jB]
   refine⟨_,rfl,R,_,rfl,.of Hy,?_⟩
   refine wF (xs:=KI.map V.ref) (fun i σ H'=>∃(pn rm:Addr) (s Rl:List Nat) (v9 v10:Option V),σ=[some (.int (b:Nat)),some (.ref ma),some (.ref pn),some (.ref en),some (.ref fa),some (.ref R),v6,some (.ref la),some (.ref rm),v9,v10]∧Same KJ H'∧H' pn=some (.tup ((aj (aZ b m s)).map V.int))∧H' rm=some (.dK (aR Rl))∧Hd bs.length (stp mv) (b ^ m) (yB bs) Ds i s Rl∧(0<i→Rl≠[]))
    ⟨p0,rm,[],zs,none,none,rfl,Same.refl _,vj _ _ p9,KL,Hd.start hyz,fun z=>absurd z (Nat.lt_irrefl _)⟩ (fun i σ H' _ ⟨_,_,_,_,_,_,_,s',_⟩=>.of (s' _ _ Hy)) ?_ ?_
   ·rintro i x σ KN hi hx ⟨pn,rm,s,Rl,v9,v10,rfl,AV,HA,KO,vk,sS⟩
    rw[List.length_map] at hx hi
    obtain⟨di,rfl,QJ⟩:=cV hx
    obtain⟨KP,MA,oi,hdi⟩:=dW zz QJ
    have KQ:i<Ds.length:=by omega
    have eD:Ds.getD (Ds.length-1-i) []=KP:=by rw[List.getD_eq_getElem?_getD,←xa,MA];rfl
    have MB:=Hz.trans AV
    have JG:=AV _ _ (vj _ _ hdi)
    refine aI fun Y2 dI=>?_
    refine⟨_,rfl,_,rfl,_,rfl,ma,nm,rm,di,bs,mv,b ^ m,oi,Rl,KP,rfl,hma.keep MB.kt,mo,hn,by omega,.inl KO,JG,fun r hr'=>bf.lt hst h0 (i:=Ds.length-1-i) (by omega) (by rw[eD];exact hr'),?ex,fun p G c es T5 hG KR ep eG hne hc h1 h2 h3=>?_⟩
    case ex=>
     have:=vk.goes bf hst h0 KQ sS hend
     rw[eD] at this;exact this
    have QK:=vk.next bf hst h0 y0 hg pI KQ hc (by rw[eD];exact h1) (by rw[eD];exact h2) (R':=es) (by rw[eD];exact h3)
    dsimp only[aH]
    subst dI
    refine aI fun Y2 dI=>?_
    have hlp:=item_at 0 (show c<lps.length by rw[G4];exact hc)
    have yv:=AV.trans KR
    obtain⟨l',hl',G5⟩:=(Hx.keep yv.kt).get hlp
    rw[qB hb0 m c hc] at hl'
    cases hl'
    refine⟨_,rfl,_,rfl,_,rfl,_,rfl,p,_,_,.int (c:Nat),rfl,rfl,.of ep,aD (j:=0) rfl,la,_,_,.ref (lps.getD c 0),rfl,rfl,.of (yv _ _ Hw),aD (by rw[List.getElem?_map,hlp];rfl),b,pn,lps.getD c 0,aZ b m s,fl b m c,rfl,KR _ _ HA,G5,by omega,by rw[fH,gf],by rw[fH];omega,fun p2 T6 HB QL=>?_⟩
    dsimp only[aH]
    subst dI
    refine⟨_,rfl,p,_,_,.ref G,rfl,rfl,.of (HB _ _ ep),aD (j:=1) rfl,?_⟩
    exact⟨p2,G,c::s,es,_,_,rfl,yv.trans HB,QL,HB _ _ eG,QK,fun _=>hne⟩
   ·rintro σ KN ⟨pn,rm,s,Rl,v9,v10,rfl,AV,HA,KO,vk,sS⟩
    rw[List.length_map,xa] at vk sS
    subst hY
    exact⟨_,rfl,k2 pn s Ds.length KN (Hz.trans AV) HA (vk.done bf y0 (sS bf.pos))⟩
theorem lst_snoc (b acc d:Nat) (xs:List Nat):lst b acc (xs++[d])=lst b acc xs*b+d:=by unfold lst;rw[List.foldl_append];rfl
theorem AW {b:Nat} (hb:0<b):∀(m a:Nat),a<b ^ m→lst b 0 (fl b m a)=a
 | 0,a,h=>by
  have:a=0:=by rw[Nat.pow_zero] at h;omega
  subst this;rfl
 | m+1,a,h=>by
  rw[fl,lst_snoc,AW hb m (a / b) (Nat.div_lt_of_lt_mul (by rw[Nat.mul_comm,←Nat.pow_succ];exact h)),Nat.mul_comm]
  exact Nat.div_add_mod a b
theorem EN {b:Nat} {ns fs:List Nat} {i:Nat} (hn:i<ns.length) (hf:i<fs.length):(more b ns fs)[i]? =some (ns.getD i 0*b+fs.getD i 0):=by
 unfold more
 rw[List.getElem?_zipWith,item_at 0 hn,item_at 0 hf]
def TopW (w:List Nat):Prop:=w=[]∨∃u a,w=u++[a]∧0<a
theorem TopW.tail {a:Nat} {s:List Nat} (h:TopW (a::s)):TopW s:=by
 rcases h with h | ⟨u,c,e,hc⟩
 ·cases h
 ·cases u with
  | nil=>cases e;exact .inl rfl
  | cons x u=>cases e;exact .inr ⟨u,c,rfl,hc⟩
theorem TopW.some {s:List Nat} (h:TopW s) (hs:s≠[]):∃a∈s,0<a:=by
 rcases h with h | ⟨u,c,e,hc⟩
 ·exact absurd h hs
 ·exact⟨c,by rw[e];simp,hc⟩
def HC:Sp:=fun vs H Q _=>∃(b m:Nat) (na:Addr) (w:List Nat),vs=[.int b,.ref na]∧0<b∧b≤4∧m≤4∧H na=some (.tup ((aj (aZ b m w)).map V.int))∧Lets (b ^ m) w∧TopW w∧w.length≤20000∧
 ∀(D:Addr) (H':Hp),H D=none→Same H H'→H' D=some (.lst ((aj w).map V.int))→Q (.ref D) H'
def JH:Sp:=fun vs H Q _=>∃(va sa:Addr) (ps:List Addr) (mv:List (List Nat)) (n B:Nat) (w:List Nat),vs=[.ref va,.int 0,.ref sa]∧H va=some (.tup (ps.map V.ref))∧bD H ps (mv.map aj)∧Moves n B mv∧0<n∧H sa=some (.lst ((aj w).map V.int))∧Lets B w∧Q (.int (rn (stp mv) 0 w:Nat)) H
theorem oU:aY ["_law_moves","_law_room","_law_some","_law_letter"] ["_law_moves","_law_room","_law_some"] (aq jc):=⟨rfl,rfl,rfl,by decide+kernel,rfl,by decide+kernel,by decide+kernel⟩
theorem Ci {a:eK} (T:Txt K mg a):bR P w K mg base dr 1 a.nA a.oE ["_law_moves","_law_room","_law_some"] JH:=by
 refine T.Em.ok oU (fun vs H Q E h=>?_) (fun cdv A outer s H vs Q E hr h=>?_)
 ·obtain⟨va,sa,ps,mv,n,B,w,rfl,_⟩:=h
  rfl
 ·obtain⟨va,sa,ps,mv,n,B,w,rfl,e3,tp,mo,h0,pU,hw,k⟩:=h
  refine⟨_,(ah (bh PassesOwn.never rfl (c_ (pv 2)) (az (i:=3) oU.nd rfl (Or.inl rfl))
   (ax (aC (i:=1) oU.nd rfl (Or.inl rfl) (aE (aP K) (aE (aP K) (pv 0) (pv 1) (fun _ _=>rfl)) (pv 3) (fun _ _=>rfl)))))
  (ax (aS (pv 1)))),?_⟩
  have hst:∀r a,r<n→a<B→stp mv r a<n:=fun r a h1 h2=>mo.stp h1 h2
  refine⟨_,rfl,sa,rfl,⟨_,.of pU⟩,g_ (xs:=(aj w).map V.int) (fun j σ H'=>∃v3:Option V,σ=[some (.ref va),some (.int (rn (stp mv) 0 (w.take j):Nat)),some (.ref sa),v3]∧H'=H)
   ⟨none,rfl,rfl⟩ (fun j σ H' _ ⟨_,_,e⟩=>by rw[e];exact .of pU) ?_ ?_⟩
  ·rintro j x σ H' hx ⟨v3,rfl,rfl⟩
   obtain⟨c,rfl,ec⟩:=cx hx
   have hc:c<B:=hw c (List.mem_of_getElem? ec)
   have hrn:rn (stp mv) 0 (w.take j)<n:=j0 hst _ h0 fun x hx=>hw x (List.mem_of_mem_take hx)
   obtain⟨r1,r2,r3⟩:=mo.row tp hrn
   have e:rn (stp mv) 0 (w.take (j+1))=stp mv (rn (stp mv) 0 (w.take j)) c:=by rw[take_snoc ec,bG];rfl
   refine⟨_,rfl,_,rfl,va,_,_,_,rfl,rfl,.of e3,aD (by rw[List.getElem?_map,r1];rfl),_,rfl,_,_,_,.int (stp mv (rn (stp mv) 0 (w.take j)) c:Nat),rfl,rfl,.of r2,aD (dv (by rw[r3];exact hc)),some (.int (c:Nat)),?_,rfl⟩
   rw[e];rfl
  ·rintro σ H' ⟨v3,rfl,rfl⟩
   rw[List.length_map,aA,List.take_length]
   exact⟨_,rfl,k⟩
theorem dG:aY ["_law_base","_law_numbers","_law_found","_law_left","_law_letter","_law_number"] ["_law_base","_law_numbers"] (aq eJ):=⟨rfl,rfl,rfl,by decide+kernel,rfl,by decide+kernel,by decide+kernel⟩
set_option maxHeartbeats 16000000 in
theorem vm {a:eK} (T:Txt K mg a):bR P w K mg base dr 1 a.iB a.ju ["_law_base","_law_numbers"] HC:=by
 refine T.vP.ok dG (fun vs H Q E h=>?_) (fun cdv A outer s H vs Q E hr h=>?_)
 ·obtain⟨b,m,na,w,rfl,_⟩:=h
  rfl
 ·obtain⟨b,m,na,w,rfl,hb0,hb,hm,Aw,hw,tw,lw,k⟩:=h
  refine⟨_,(ah (aC (i:=2) dG.nd rfl (Or.inl rfl) (bx ag))
  (ah (aC (i:=3) dG.nd rfl (Or.inl rfl) (b_ (ph K) (by rfl) T.mO kz (ae (pv 1) ag)))
  (ah (kO PassesOwn.never (bA kR (wI K rfl rfl T.yf (ae (pv 3) ag) (wm ak yS)) ak (bw _))
   (ah (aC (i:=4) dG.nd rfl (Or.inl rfl) ak)
   (ah (bh PassesOwn.never rfl (c_ (pv 3)) (az (i:=5) dG.nd rfl (Or.inl rfl))
    (ax (aC (i:=4) dG.nd rfl (Or.inl rfl) (aF cq (aF fc (pv 4) (pv 0)) (aF ja (pv 5) (pv 0))))))
   (ah (bI (cE PySem.F.plainAttrs_list PySem.F.slot_list_append PySem.F.type_list_append bz (pv 2) (ae (pv 4) ag)))
   (ax (dU (i:=3) (aJ.mk' (esc:=aq eJ) (N:=["_law_base","_law_numbers","_law_found","_law_left","_law_letter","_law_number"]) (own:=["_law_number"]) (bu:=["_law_base"]) (bB:=[0]) rfl rfl (by decide+kernel)) rfl (c_ (pv 3)) (fun _ _ _ _=>(az (i:=0) (show List.Nodup (["_law_number","_law_base"]:List Str) by decide+kernel) rfl (Or.inl rfl))) (fun _ _ _ _=>bM) (fun _ _ _ _=>(aF kW (pv 0) (pv 1))) dG.nd rfl rfl))))))
  (ax (aS (pv 2)))))),?_⟩
  have big:(1000000:Nat)≤sizeLine:=by decide
  have lg:((b:Nat):Int).natAbs.log2<9000:=by
   have:b=1∨b=2∨b=3∨b=4:=by omega
   rcases this with rfl | rfl | rfl | rfl<;>decide
  refine⟨by decide,fun F hF=>?_⟩
  have sF:=Same.new (o:=.lst []) hF
  dsimp only[aH]
  refine⟨_,rfl,na,_,rfl,.inr (.of (sF _ _ Aw)),fun L0 hL0=>?_⟩
  have KS:=Same.new (o:=.lst ((aj (aZ b m w)).map V.int)) hL0
  dsimp only[aH]
  refine aI fun Y hY=>?_
  refine nz (fun M σ H'=>∃(s pre:List Nat) (L:Addr) (v4 v5:Option V),M=s.length∧w=pre++s∧TopW s∧σ=[some (.int (b:Nat)),some (.ref na),some (.ref F),some (.ref L),v4,v5]∧Same H H'∧L≠F∧H' F=some (.lst ((aj pre).map V.int))∧H' L=some (.lst ((aj (aZ b m s)).map V.int)))
   ⟨_,w,[],L0,none,none,rfl,rfl,tw,rfl,sF.trans KS,(ay (show(upd H F (.lst [])) F=_ from af) hL0).symm,KS _ _ af,af⟩ ?_ ?mono
  case mono=>
   intro σ H Q Q' h ⟨v1,e1,a,ns,d,e2,e3,e4,e5,q⟩
   refine⟨v1,e1,a,ns,d,e2,e3,e4,fun z=>?_,fun m' h1 h2=>?_⟩
   ·obtain⟨i,j,g1,g2,x,g3,g4⟩:=e5 z
    exact⟨i,j,g1,g2,x,g3,h _ _ g4⟩
   ·obtain⟨i,j,g1,g2,x,g3,g4⟩:=q m' h1 h2
    exact⟨i,j,g1,g2,x,g3,h _ _ g4⟩
  rintro M σ H1 N hN ⟨s,pre,L,v4,v5,rfl,rfl,ts,rfl,s1,Kk,f1,l1⟩
  have hs:Lets (b ^ m) s:=fun x hx=>hw x (List.mem_append_right _ hx)
  have any:=oR hb0 s hs
  have MC:∀x∈aj (aZ b m s),∃y:Nat,x=(y:Int)∧y∈aZ b m s:=fun x hx=>by
   obtain⟨y,hy,rfl⟩:=List.mem_map.mp hx
   exact⟨y,rfl,hy⟩
  have done:s=[]→Y [some (.int (b:Nat)),some (.ref na),some (.ref F),some (.ref L),v4,v5] H1:=fun z=>by
   subst hY
   subst z
   refine⟨_,rfl,k F H1 hF s1 ?_⟩
   rw[List.append_nil];exact f1
  have zero:s=[]→∀x∈aZ b m s,x=0:=fun z x hx=>by
   subst z
   exact(List.mem_replicate.mp hx).2
  cases hse:s with
  | nil=>
   refine⟨_,rfl,L,aj (aZ b m s),.int 0,rfl,rfl,.of l1,fun z=>?_,fun mm h1 h2=>?_⟩
   ·exact⟨0,0,rfl,rfl,false,rfl,cS (done hse)⟩
   ·obtain⟨y,rfl,hy⟩:=MC mm h1
    have:=zero hse y hy
    subst this
    exact⟨0,0,rfl,rfl,false,rfl,cS (done hse)⟩
  | cons a0 s0=>
  have hsn:s≠[]:=by rw[hse];exact fun z=>nomatch z
  obtain⟨y,hy,hy0⟩:=List.any_eq_true.mp (any.mpr (ts.some hsn))
  have Ti:0<y:=by
   have:y≠0:=by simpa using hy0
   omega
  refine⟨_,rfl,L,aj (aZ b m s),.int 0,rfl,rfl,.of l1,fun z=>?_,fun mm h1 h2=>?_⟩
  ·have:(y:Int)∈aj (aZ b m s):=List.mem_map.mpr ⟨y,hy,rfl⟩
   rw[z] at this;cases this
  have hmm:0<mm:=by
   have:=h2 (y:Int) (List.mem_map.mpr ⟨y,hy,rfl⟩)
   omega
  refine⟨_,_,rfl,rfl,_,rfl,?_⟩
  rw[show decide (mm>0)=true from decide_eq_true hmm]
  refine oy ?_
  clear h1 h2 hmm
  rw[hse] at l1 hs hN
  have ha0:a0<b ^ m:=hs a0 List.mem_cons_self
  have ln:(aZ b m s0).length=m:=fH s0
  have HD:(fl b m a0).length=m:=gf b m a0
  have en:aZ b m (a0::s0)=more b (aZ b m s0) (fl b m a0):=rfl
  have Dv:(more b (aZ b m s0) (fl b m a0)).length=m:=by rw[←en];exact fH _
  have flb:∀i,i<m→(fl b m a0).getD i 0<b:=fun i hi=>Df hb0 m a0 _ (List.mem_of_getElem? (item_at 0 (by rw[HD];exact hi)))
  rw[en] at l1
  have KU:∀i,i<m→(more b (aZ b m s0) (fl b m a0))[i]? =some ((aZ b m s0).getD i 0*b+(fl b m a0).getD i 0):=fun i hi=>EN (by rw[ln];exact hi) (by rw[HD];exact hi)
  refine aI fun Y2 dI=>?_
  dsimp only[ou,tC,aH]
  subst dI
  refine aI fun Y2 dI=>?_
  refine⟨_,rfl,L,rfl,⟨_,.of l1⟩,g_ (xs:=(aj (more b (aZ b m s0) (fl b m a0))).map V.int) (fun j σ H'=>∃v5:Option V,σ=[some (.int (b:Nat)),some (.ref na),some (.ref F),some (.ref L),some (.int (lst b 0 ((fl b m a0).take j):Nat)),v5]∧H'=H1)
   ⟨v5,rfl,rfl⟩ (fun j σ H' _ ⟨_,_,e⟩=>by rw[e];exact .of l1) ?_ ?_⟩
  ·rintro j x σ H' hx ⟨v5,rfl,rfl⟩
   obtain⟨c,rfl,ec⟩:=cx hx
   have hj:j<m:=by rw[←Dv];exact(List.getElem?_eq_some_iff.mp ec).1
   rw[KU j hj] at ec
   cases ec
   have hf:=flb j hj
   have e1:((((aZ b m s0).getD j 0*b+(fl b m a0).getD j 0:Nat):Nat):Int) % (b:Int)=(((fl b m a0).getD j 0:Nat):Int):=by
    rw[←Int.natCast_emod,Nat.mul_add_mod_self_right,Nat.mod_eq_of_lt hf]
   refine⟨_,rfl,_,rfl,_,_,rfl,rfl,.inr ⟨by omega,by omega⟩,_,rfl,_,rfl,_,_,rfl,rfl,cpos (by omega),_,_,rfl,rfl,some (.int (((aZ b m s0).getD j 0*b+(fl b m a0).getD j 0:Nat):Int)),?_,rfl⟩
   show[some (V.int b),some (.ref na),some (.ref F),some (.ref L),some (.int (((lst b 0 ((fl b m a0).take j):Nat):Int)*(b:Int)+((((aZ b m s0).getD j 0*b+(fl b m a0).getD j 0:Nat):Nat):Int) % (b:Int))),_]=_
   rw[e1,take_snoc (item_at 0 (show j<(fl b m a0).length by rw[HD];exact hj)),lst_snoc,Int.natCast_add,Int.natCast_mul]
   rfl
  rintro σ H' ⟨T7,rfl,rfl⟩
  rw[List.length_map,aA,Dv]
  have e0:(fl b m a0).take m=fl b m a0:=List.take_of_length_le (by omega)
  rw[e0,AW hb0 m a0 ha0]
  show Y2 _ _
  subst dI
  refine aI fun Y2 dI=>?_
  have Tj:pre.length≤20000:=by rw[List.length_append] at lw;omega
  refine⟨_,rfl,.inl ⟨rfl,_,.of f1⟩,_,rfl,F,_,_,rfl,rfl,f1,by rw[List.length_map,aA];omega,?_⟩
  have s2:Same H (upd H' F (.lst ((aj pre).map V.int++[.int (a0:Nat)]))):=s1.kbn hF KB.write
  have l2:(upd H' F (.lst ((aj pre).map V.int++[.int (a0:Nat)]))) L=some (.lst ((aj (more b (aZ b m s0) (fl b m a0))).map V.int)):=by rw[ao Kk];exact l1
  have f2:(upd H' F (.lst ((aj pre).map V.int++[.int (a0:Nat)]))) F=some (.lst ((aj (pre++[a0])).map V.int)):=by rw[af,bt,List.map_append];rfl
  generalize upd H' F (.lst ((aj pre).map V.int++[.int (a0:Nat)]))=H2 at s2 l2 f2 ⊢
  subst dI
  refine⟨_,rfl,L,rfl,⟨_,.of l2⟩,fun L2 hL2=>?_⟩
  refine ft (xs:=(aj (more b (aZ b m s0) (fl b m a0))).map V.int) (fun j σ H'=>∃v:Option V,σ=[v,some (.int (b:Nat))]∧Same H2 H'∧H' L2=some (.lst ((aj ((aZ b m s0).take j)).map V.int)))
   ⟨none,?sg,Same.new hL2,af⟩ (fun j σ H' _ ⟨_,_,s',_⟩=>.of (s' _ _ l2)) ?_ ?_
  case sg=>rfl
  ·rintro j x σ H3 hx ⟨v,rfl,s3,l3⟩
   obtain⟨c,rfl,ec⟩:=cx hx
   have hj:j<m:=by rw[←Dv];exact(List.getElem?_eq_some_iff.mp ec).1
   rw[KU j hj] at ec
   cases ec
   have hf:=flb j hj
   have e1:((((aZ b m s0).getD j 0*b+(fl b m a0).getD j 0:Nat):Nat):Int) / (b:Int)=(((aZ b m s0).getD j 0:Nat):Int):=by
    rw[←Int.natCast_ediv,Nat.mul_comm,Nat.mul_add_div hb0,Nat.div_eq_of_lt hf,Nat.add_zero]
   refine⟨_,rfl,_,rfl,_,_,rfl,rfl,⟨by omega,lg⟩,_,l3,?_,_,rfl,s3.kbn hL2 KB.write,?_⟩
   ·rw[List.length_map,aA,List.length_take];omega
   ·rw[af,take_snoc (item_at 0 (show j<(aZ b m s0).length by rw[ln];exact hj)),bt,List.map_append]
    show some (HO.lst (_++[V.int _]))=_
    rw[e1];rfl
  rintro σ H3 ⟨v,rfl,s3,l3⟩
  rw[List.length_map,aA,Dv,List.take_of_length_le (by omega)] at l3
  refine hN _ _ s0.length (by rw[List.length_cons];omega) ⟨s0,pre++[a0],L2,_,_,rfl,by rw[List.append_assoc];rfl,(hse▸ts:TopW (a0::s0)).tail,rfl,s2.trans s3,(ay f2 hL2).symm,s3 _ _ f2,l3⟩
theorem vn {K:PySem.W.Frag} {H:Hp} {a:Addr} {xs:List V} {k:Nat} {y:V} {Q:VK} (ha:H a=some (.tup xs)) (hy:y=.int (k:Int)) (hx:xs≠[]) (hz:xs.length*k≤100000) (q:∀(u:Addr) (H':Hp),Same H H'→H' u=some (.tup (List.replicate k xs).flatten)→Q (.ref u) H'):CO K (.ref a) y H Q:=
 ⟨a,xs,k,rfl,hy,.of ha,hx,hz,fun z=>q a H (.refl _) (by rw[z];simpa using ha),fun p hp=>q p _ (Same.new hp) af⟩
theorem yw (k c:Nat):(List.replicate k ([.int (c:Nat)]:List V)).flatten=(aj (List.replicate k c)).map V.int:=by
 induction k with
 | zero=>rfl
 | succ m ih=>rw[List.replicate_succ,List.flatten_cons,ih,List.replicate_succ];rfl
theorem MD (k:Nat) (c:Bool):(List.replicate k ([.bl c]:List V)).flatten=(List.replicate k c).map V.bl:=by
 induction k with
 | zero=>rfl
 | succ m ih=>rw[List.replicate_succ,List.flatten_cons,ih,List.replicate_succ];rfl
def gX (b y:Nat):List (List Nat):=(List.range (y-1)).map (fun r=>List.replicate b (r+1))++[0::y::List.replicate (b-2) 0,y::List.replicate (b-1) (y+1),List.replicate b (y+1)]
def fV (y:Nat):List Bool:=List.replicate y false++[true,false]
theorem j6 (y:Nat):(fV y).length=y+2:=by unfold fV;rw[List.length_append,List.length_replicate];rfl
theorem yx {b y:Nat} (hb:2≤b) (hy:0<y):Moves (fV y).length (b ^ 1) (gX b y):=by
 rw[j6,Nat.pow_one]
 refine⟨?_,fun l hl=>?_⟩
 ·unfold gX
  rw[List.length_append,List.length_map,List.length_range]
  show y-1+3=y+2
  omega
 ·unfold gX at hl
  rcases List.mem_append.mp hl with h | h
  ·obtain⟨r,hr,rfl⟩:=List.mem_map.mp h
   have:=List.mem_range.mp hr
   exact⟨List.length_replicate,fun x hx=>by rw[(List.mem_replicate.mp hx).2];omega⟩
  ·simp only[List.mem_cons,List.mem_nil_iff,or_false] at h
   rcases h with rfl | rfl | rfl
   ·refine⟨by rw[List.length_cons,List.length_cons,List.length_replicate];omega,fun x hx=>?_⟩
    rcases List.mem_cons.mp hx with q | hx
    ·omega
    ·rcases List.mem_cons.mp hx with q | hx
     ·omega
     ·rw[(List.mem_replicate.mp hx).2];omega
   ·refine⟨by rw[List.length_cons,List.length_replicate];omega,fun x hx=>?_⟩
    rcases List.mem_cons.mp hx with q | hx
    ·omega
    ·rw[(List.mem_replicate.mp hx).2];omega
   ·exact⟨List.length_replicate,fun x hx=>by rw[(List.mem_replicate.mp hx).2];omega⟩
theorem lH {y r:Nat} (h:r<y):(fV y).getD r false=false:=by
 unfold fV
 rw[List.getD_eq_getElem?_getD,List.getElem?_append_left (by rw[List.length_replicate];exact h),List.getElem?_replicate,if_pos h];rfl
theorem vo {b y:Nat} (hb:2≤b) (hy:0<y) (r:Nat) (hr:r<(fV y).length):(fV y).getD (((gX b y).getD r []).getD 0 0) false=(fV y).getD r false:=by
 rw[j6] at hr
 obtain⟨c,rfl⟩:∃c,b=c+1:=⟨b-1,by omega⟩
 have l1:((List.range (y-1)).map fun r=>List.replicate (c+1) (r+1)).length=y-1:=by rw[List.length_map,List.length_range]
 by_cases h:r<y-1
 ·have e:(gX (c+1) y).getD r []=List.replicate (c+1) (r+1):=by
   unfold gX
   rw[List.getD_eq_getElem?_getD,List.getElem?_append_left (by omega),List.getElem?_map,List.getElem?_range h];rfl
  rw[e]
  show(fV y).getD (r+1) false=_
  rw[lH (by omega),lH (by omega)]
 ·have e:(gX (c+1) y).getD r []=[0::y::List.replicate (c+1-2) 0,y::List.replicate (c+1-1) (y+1),List.replicate (c+1) (y+1)].getD (r-(y-1)) []:=by
   unfold gX
   rw[List.getD_eq_getElem?_getD,List.getElem?_append_right (by omega),l1];rfl
  rw[e]
  have QM:r=y-1∨r=y∨r=y+1:=by omega
  rcases QM with rfl | rfl | rfl
  ·rw[Nat.sub_self]
   show(fV y).getD 0 false=_
   rw[lH hy,lH (by omega)]
  ·rw[show r-(r-1)=1 by omega];rfl
  ·rw[show y+1-(y-1)=2 by omega];rfl
def HE:Sp:=fun vs H Q _=>∃(d:Addr) (b:Nat),vs=[.ref d,.int b]∧cT H d∧2≤b∧b≤4∧
 ∀(ma nm:Addr) (ss:List Str) (bs:List Bool) (mv:List (List Nat)) (H':Hp),KB d H H'→cT H' d→H' nm=some (.tup (ss.map V.str))→ss.length=1→cy H' ma nm bs mv→Moves bs.length (b ^ 1) mv→0<bs.length→bs.length≤50→(∀r,r<bs.length→bs.getD ((mv.getD r []).getD 0 0) false=bs.getD r false)→Q (.ref ma) H'
theorem mY:aY ["_law_deck_here","_law_base","_law_many","_law_moves"] ["_law_deck_here","_law_base"] (aq gC):=⟨rfl,rfl,rfl,by decide+kernel,rfl,by decide+kernel,by decide+kernel⟩
set_option maxHeartbeats 16000000 in
theorem AX {a:eK} (T:Txt K mg a):bR P w K mg base dr 3 a.lu a.mM ["_law_deck_here","_law_base"] HE:=by
 have bT:=j_ (P:=P) (w:=w) (base:=base) T
 refine T.BP.ok mY (fun vs H Q E h=>?_) (fun cdv A outer s H vs Q E hr h=>?_)
 ·obtain⟨d,b,rfl,_⟩:=h
  rfl
 ·obtain⟨d,b,rfl,hd,hb2,hb4,k⟩:=h
  have bH:aX 2 _:=hr
  refine⟨_,(ah (aC (i:=2) mY.nd rfl (Or.inl rfl) (aF cq ak (aG bT bH rfl T.cJ T.cK T.cL .nil aO (ae (pv 0) (ae ak ag)))))
  (ah (dU (i:=3) (aJ.mk' (esc:=aq gC) (N:=["_law_deck_here","_law_base","_law_many","_law_moves"]) (own:=["_law_room"]) (bu:=["_law_base"]) (bB:=[1]) rfl rfl (by decide+kernel)) rfl (cp rfl T.cw (ae (aF gH (pv 2) ak) ag)) (fun _ _ _ _=>(az (i:=0) (show List.Nodup (["_law_room","_law_base"]:List Str) by decide+kernel) rfl (Or.inl rfl))) (fun _ _ _ _=>bM) (fun _ _ _ _=>(aF (g9 K) (bX (ae (aF cq (pv 0) ak) ag)) (pv 1))) mY.nd rfl rfl)
  (ah (bI (cE PySem.F.plainAttrs_list PySem.F.slot_list_append PySem.F.type_list_append bz (pv 3) (ae (aF (qj K) (bX (ae ak (ae (pv 2) ag))) (aF (g9 K) (bX (ae ak ag)) (aF gH (pv 1) ak))) ag)))
  (ah (bI (cE PySem.F.plainAttrs_list PySem.F.slot_list_append PySem.F.type_list_append bz (pv 3) (ae (aF (qj K) (bX (ae (pv 2) ag)) (aF (g9 K) (bX (ae (aF cq (pv 2) ak) ag)) (aF gH (pv 1) ak))) ag)))
  (ah (bI (cE PySem.F.plainAttrs_list PySem.F.slot_list_append PySem.F.type_list_append bz (pv 3) (ae (aF (g9 K) (bX (ae (aF cq (pv 2) ak) ag)) (pv 1)) ag)))
  (ax (aS (bX (ae (bX (ae iD ag)) (ae (aF (qj K) (aF (g9 K) (bX (ae cZ ag)) (pv 2)) (bX (ae cZ (ae cZ ag)))) (ae (b_ (dy K) (by rfl) T.fR eV (ae (pv 3) ag)) ag))))))))))),?_⟩
  have big:(1000000:Nat)≤sizeLine:=by decide
  refine aI fun Y hY=>?_
  refine⟨_,rfl,d,40,rfl,hd,by decide,fun r H1 r0 r1 k1 d1=>⟨_,_,rfl,rfl,?_⟩⟩
  obtain⟨r',rfl⟩:=toN r0
  have eb:(1:Int)+(r':Int)=((1+r':Nat):Int):=by omega
  dsimp only[aH]
  rw[eb]
  generalize T9:1+r'=y
  have hy:0<y:=by omega
  have Tn:y≤40:=by omega
  subst hY
  refine aI fun Y hY=>?_
  refine⟨_,rfl,_,_,rfl,rfl,_,rfl,by omega,by omega,fun M hM=>?_⟩
  refine fJ (fun j σ H'=>∃(ps:List Addr) (v:Option V),σ=[v,some (.int (b:Nat))]∧Same H1 H'∧H' M=some (.lst (ps.map V.ref))∧bD H' ps (((List.range j).map (fun r=>List.replicate b (r+1))).map aj))
   ⟨[],none,?sg,Same.new hM,af,.nil⟩ ?_ ?_
  case sg=>rfl
  ·rintro j σ H2 hj ⟨ps,v,rfl,s2,m2,t2⟩
   have hj':j<y-1:=by omega
   refine⟨_,rfl,_,_,rfl,rfl,by show 1≤sizeLine;omega,fun q hq=>?_⟩
   have sq:=Same.new (o:=.tup [.int (0+(j:Int)+1)]) hq
   refine⟨_,rfl,?_⟩
   refine vn (k:=b) (xs:=[.int (0+(j:Int)+1)]) af rfl (fun z=>nomatch z) (by show 1*b≤_;omega) fun u H3 s3 eu=>?_
   have ej:(0:Int)+(j:Int)+1=((j+1:Nat):Int):=by omega
   rw[ej,yw] at eu
   have HF:=sq.trans s3
   have m3:=HF _ _ m2
   have lp:ps.length=j:=by rw[Paired.length t2,List.length_map,List.length_map,List.length_range]
   refine⟨_,m3,by rw[List.length_map];omega,ps++[u],_,rfl,(s2.trans HF).kbn hM KB.write,by rw[af,List.map_append];rfl,?_⟩
   rw[List.range_succ,List.map_append,List.map_append]
   have kt:cH H3 (upd H3 M (.lst (ps.map V.ref++[.ref u]))):=cH.lst m3
   exact dk ((t2.keep HF.kt).keep kt) (.cons (kt _ _ eu) .nil)
  rintro σ H2 ⟨ps,v,rfl,s2,m2,t2⟩
  rw[show((y:Int)-1).toNat=y-1 by omega] at t2
  have k2:KB d H H2:=k1.trans s2.kb
  have d2:=d1.same s2
  have nM:M≠d:=d1.ne hM
  have HG:H M=none:=d1.lo k1 hM
  have lp:ps.length=y-1:=by rw[Paired.length t2,List.length_map,List.length_map,List.length_range]
  dsimp only[aH]
  subst hY
  refine aI fun Y hY=>?_
  refine⟨_,rfl,.inl ⟨rfl,_,.of m2⟩,_,rfl,by show 2≤sizeLine;omega,fun q1 hq1=>⟨by show 1≤sizeLine;omega,fun q2 hq2=>⟨_,rfl,_,_,rfl,rfl,?_⟩⟩⟩
  have AY:=Same.new (o:=.tup [.int 0,.int (y:Nat)]) hq1
  have pV:=Same.new (o:=.tup [.int 0]) hq2
  refine vn (k:=b-2) (xs:=[.int 0]) af (by show V.int ((b:Int)-2)=_;rw[show((b:Int)-2)=((b-2:Nat):Int) by omega]) (fun z=>nomatch z) (by show 1*(b-2)≤_;omega) fun u1 H3 s3 vp=>?_
  rw[show([.int 0]:List V)=[.int ((0:Nat):Int)] from rfl,yw] at vp
  refine⟨q1,u1,_,_,rfl,rfl,s3 _ _ (pV _ _ af),vp,by rw[List.length_map,aA,List.length_replicate];show 2+_≤_;omega,fun u2 H4 s4 KW=>?_⟩
  have oo:=((AY.trans pV).trans s3).trans s4
  have m4:=oo _ _ m2
  have HH:H4 u2=some (.tup ((aj (0::y::List.replicate (b-2) 0)).map V.int)):=KW
  refine⟨M,_,_,rfl,rfl,m4,by rw[List.length_map];omega,?_⟩
  have HI:cH H4 (upd H4 M (.lst (ps.map V.ref++[.ref u2]))):=cH.lst m4
  have k5:KB d H (upd H4 M (.lst (ps.map V.ref++[.ref u2]))):=KB.mQ (k2.trans oo.kb) HG
  have d5:=(d2.same oo).upd (o:=.lst (ps.map V.ref++[.ref u2])) nM
  have t5:=(t2.keep oo.kt).keep HI
  have xi:=HI _ _ HH
  have m5:(upd H4 M (.lst (ps.map V.ref++[.ref u2]))) M=some (.lst (ps.map V.ref++[.ref u2])):=af
  generalize upd H4 M (.lst (ps.map V.ref++[.ref u2]))=H5 at k5 d5 t5 xi m5 ⊢
  clear oo s4 s3 AY pV vp KW HH HI m4 t2 m2 k2 d2 s2
  show Y _ _
  subst hY
  refine aI fun Y hY=>?_
  refine⟨_,rfl,.inl ⟨rfl,_,.of m5⟩,_,rfl,by show 1≤sizeLine;omega,fun q1 hq1=>⟨_,rfl,_,_,rfl,rfl,by show 1≤sizeLine;omega,fun q2 hq2=>⟨_,rfl,_,_,rfl,rfl,?_⟩⟩⟩
  have AY:=Same.new (o:=.tup [.int (y:Nat)]) hq1
  have pV:=Same.new (o:=.tup [.int ((y:Int)+1)]) hq2
  have ey:((y:Int)+1)=((y+1:Nat):Int):=by omega
  refine vn (k:=b-1) (xs:=[.int ((y:Int)+1)]) af (by show V.int ((b:Int)-1)=_;rw[show((b:Int)-1)=((b-1:Nat):Int) by omega]) (fun z=>nomatch z) (by show 1*(b-1)≤_;omega) fun u1 H6 s6 vp=>?_
  rw[ey,yw] at vp
  refine⟨q1,u1,_,_,rfl,rfl,s6 _ _ (pV _ _ af),vp,by rw[List.length_map,aA,List.length_replicate];show 1+_≤_;omega,fun u3 H7 s7 KY=>?_⟩
  have xj:=((AY.trans pV).trans s6).trans s7
  have m7:=xj _ _ m5
  have HJ:H7 u3=some (.tup ((aj (y::List.replicate (b-1) (y+1))).map V.int)):=KY
  refine⟨M,_,_,rfl,rfl,m7,by rw[List.length_append,List.length_map,lp];simp;omega,?_⟩
  have Dw:cH H7 (upd H7 M (.lst ((ps.map V.ref++[.ref u2])++[.ref u3]))):=cH.lst m7
  have k8:KB d H (upd H7 M (.lst ((ps.map V.ref++[.ref u2])++[.ref u3]))):=KB.mQ (k5.trans xj.kb) HG
  have d8:=(d5.same xj).upd (o:=.lst ((ps.map V.ref++[.ref u2])++[.ref u3])) nM
  have t8:=(t5.keep xj.kt).keep Dw
  have HK:=Dw _ _ (xj _ _ xi)
  have HL:=Dw _ _ HJ
  have m8:(upd H7 M (.lst ((ps.map V.ref++[.ref u2])++[.ref u3]))) M=some (.lst ((ps.map V.ref++[.ref u2])++[.ref u3])):=af
  generalize upd H7 M (.lst ((ps.map V.ref++[.ref u2])++[.ref u3]))=H8 at k8 d8 t8 HK HL m8 ⊢
  clear xj s6 s7 AY pV vp KY HJ Dw m7 t5 m5 k5 d5 xi
  show Y _ _
  subst hY
  refine aI fun Y hY=>?_
  refine⟨_,rfl,.inl ⟨rfl,_,.of m8⟩,_,rfl,_,_,rfl,rfl,by show 1≤sizeLine;omega,fun q2 hq2=>⟨_,rfl,?_⟩⟩
  have pV:=Same.new (o:=.tup [.int ((y:Int)+1)]) hq2
  refine vn (k:=b) (xs:=[.int ((y:Int)+1)]) af rfl (fun z=>nomatch z) (by show 1*b≤_;omega) fun u4 H9 s9 KZ=>?_
  rw[ey,yw] at KZ
  have xk:=pV.trans s9
  have m9:=xk _ _ m8
  refine⟨M,_,_,rfl,rfl,m9,by rw[List.length_append,List.length_append,List.length_map,lp];simp;omega,?_⟩
  have kt9:cH H9 (upd H9 M (.lst (((ps.map V.ref++[.ref u2])++[.ref u3])++[.ref u4]))):=cH.lst m9
  have k10:KB d H (upd H9 M (.lst (((ps.map V.ref++[.ref u2])++[.ref u3])++[.ref u4]))):=KB.mQ (k8.trans xk.kb) HG
  have AU:=(d8.same xk).upd (o:=.lst (((ps.map V.ref++[.ref u2])++[.ref u3])++[.ref u4])) nM
  have t10:bD (upd H9 M (.lst (((ps.map V.ref++[.ref u2])++[.ref u3])++[.ref u4]))) (ps++[u2,u3,u4]) ((gX b y).map aj):=by
   unfold gX
   rw[List.map_append]
   exact dk ((t8.keep xk.kt).keep kt9) (.cons (kt9 _ _ (xk _ _ HK)) (.cons (kt9 _ _ (xk _ _ HL)) (.cons (kt9 _ _ KZ) .nil)))
  have K_:(upd H9 M (.lst (((ps.map V.ref++[.ref u2])++[.ref u3])++[.ref u4]))) M=some (.lst ((ps++[u2,u3,u4]).map V.ref)):=by
   rw[af,List.map_append,List.append_assoc,List.append_assoc];rfl
  generalize upd H9 M (.lst (((ps.map V.ref++[.ref u2])++[.ref u3])++[.ref u4]))=lJ at k10 AU t10 K_ ⊢
  show Y _ _
  subst hY
  refine⟨by show 1≤sizeLine;omega,fun nm hnm=>⟨by show 1≤sizeLine;omega,fun q5 QN=>⟨_,rfl,?_⟩⟩⟩
  have C1:=Same.new (o:=.tup [.str "r"]) hnm
  have K0:=Same.new (o:=.tup [.bl false]) QN
  refine vn (k:=y) (xs:=[.bl false]) af rfl (fun z=>nomatch z) (by show 1*y≤_;omega) fun u5 wC iZ xi=>?_
  rw[MD] at xi
  refine⟨by show 2≤sizeLine;omega,fun q6 QO=>?_⟩
  have HM:=Same.new (o:=.tup [.bl true,.bl false]) QO
  refine⟨u5,q6,_,_,rfl,rfl,HM _ _ xi,af,by rw[List.length_map,List.length_replicate];show y+2≤_;omega,fun ya pT s12 QP=>?_⟩
  have ME:pT ya=some (.tup ((fV y).map V.bl)):=by rw[QP];unfold fV;rw[List.map_append];rfl
  have Dx:=(((C1.trans K0).trans iZ).trans HM).trans s12
  refine⟨_,rfl,M,_,rfl,.inl ⟨.of (Dx _ _ K_),fun va hva=>?_⟩⟩
  have HN:=Same.new (o:=.tup ((ps++[u2,u3,u4]).map V.ref)) hva
  refine⟨by show 3≤sizeLine;omega,fun ma hma=>?_⟩
  have uP:=Same.new (o:=.tup [.ref nm,.ref ya,.ref va]) hma
  have sA:=(Dx.trans HN).trans uP
  refine k ma nm ["r"] (fV y) (gX b y) _ (k10.trans sA.kb) (AU.same sA) ?_ rfl ⟨ya,va,ps++[u2,u3,u4],af,uP _ _ (HN _ _ ME),uP _ _ af,t10.keep sA.kt⟩ (yx hb2 hy) (by rw[j6];omega) (by rw[j6];omega) (vo hb2 hy)
  exact uP _ _ (HN _ _ (s12 _ _ (HM _ _ (iZ _ _ (K0 _ _ af)))))
def ind (g:Nat→Bool) (r:Nat):Nat:=if g r=true then 1 else 0
theorem AZ (mv:List (List Nat)):∀p,U mv p (fun _=>0)=0
 | 0=>rfl
 | p+1=>by
  show U mv p (lift mv fun _=>0)=0
  have:lift mv (fun _=>0)=fun _=>0:=funext fun r=>by
   unfold lift
   rw[rB,Nat.zero_mul]
  rw[this,AZ mv p]
theorem Dy (mv:List (List Nat)) (p:Nat) (h:Nat→Nat→Nat):∀l:List Nat,(l.map fun a=>U mv p (h a)).sum=U mv p (fun r=>(l.map fun a=>h a r).sum)
 | []=>(AZ mv p).symm
 | a::l=>by
  rw[List.map_cons,List.sum_cons,Dy mv p h l,←CT]
  rfl
theorem vq {α β:Type} (f:α→List β):∀l:List α,(l.flatMap f).length=(l.map fun a=>(f a).length).sum
 | []=>rfl
 | a::l=>by rw[List.flatMap_cons,List.length_append,vq f l,List.map_cons,List.sum_cons]
theorem EO {n B:Nat} {mv:List (List Nat)} (mo:Moves n B mv) {r:Nat} (hr:r<n):mv.getD r []=(List.range B).map (stp mv r):=by
 have h1:mv[r]? =some (mv.getD r []):=item_at [] (by rw[mo.len];exact hr)
 have h2:=(mo.lead _ (List.mem_of_getElem? h1)).1
 refine List.ext_getElem? fun i=>?_
 by_cases hi:i<B
 ·rw[List.getElem?_map,List.getElem?_range hi,item_at 0 (show i<(mv.getD r []).length by omega)];rfl
 ·rw[List.getElem?_eq_none (by omega),List.getElem?_eq_none (by rw[List.length_map,List.length_range];omega)]
theorem yz {n B:Nat} {mv:List (List Nat)} (mo:Moves n B mv) (h0:0<n):∀(p:Nat) (g:Nat→Bool),(Fw (stp mv) B p g).length=U mv p (ind g)
 | 0,g=>by
  show(if g 0=true then [[]] else []:List (List Nat)).length=ind g 0
  unfold ind
  by_cases h:g 0=true
  ·rw[if_pos h,if_pos h];rfl
  ·rw[if_neg h,if_neg h];rfl
 | p+1,g=>by
  show((List.range B).flatMap fun a=>(Fw (stp mv) B p fun r=>g (stp mv r a)).map (· ++[a])).length=U mv p (lift mv (ind g))
  rw[vq]
  have e:((List.range B).map fun a=>((Fw (stp mv) B p fun r=>g (stp mv r a)).map (· ++[a])).length)=(List.range B).map fun a=>U mv p (fun r=>ind g (stp mv r a)):=List.map_congr_left fun a _=>by
   rw[List.length_map,yz mo h0 p];rfl
  rw[e,Dy mv p (fun a r=>ind g (stp mv r a))]
  refine wL mo h0 p _ _ fun r hr=>?_
  unfold lift
  rw[EO mo hr,List.map_map];rfl
def rk (st:Nat→Nat→Nat) (B:Nat) (y:Nat→Bool) (w:List Nat):Nat:=if w=[] then 0 else(Fw st B (w.length-1) y).length+ahead st B y w.reverse 1
theorem oq {st:Nat→Nat→Nat} {B n:Nat} (hst:∀r a,r<n→a<B→st r a<n) (h0:0<n):∀(ru:List Nat) (g h:Nat→Bool) (lo:Nat),Lets B ru→(∀r,r<n→g r=h r)→ahead st B g ru lo=ahead st B h ru lo
 | [],_,_,_,_,_=>rfl
 | a::ru,g,h,lo,hw,e=>by
  have ha:=hw a List.mem_cons_self
  rw[gU,gU,oq hst h0 ru (fun r=>g (st r a)) (fun r=>h (st r a)) 0 (fun b hb=>hw b (List.mem_cons_of_mem _ hb)) fun r hr=>e _ (hst r a hr ha)]
  congr 1
  refine congrArg List.sum (List.map_congr_left fun c hc=>?_)
  have:=List.mem_range'_1.mp hc
  rw[oM hst h0 _ _ (fun r=>h (st r c)) fun r hr=>e _ (hst r c hr (by omega))]
def HP:Sp:=fun vs H Q _=>∃(ma nm ca sa:Addr) (bs:List Bool) (mv:List (List Nat)) (B:Nat) (rs:List Addr) (w:List Nat),vs=[.ref ma,.ref ca,.ref sa]∧cy H ma nm bs mv∧Moves bs.length B mv∧0<bs.length∧bs.length≤60∧B≤300∧
 H ca=some (.lst (rs.map V.ref))∧jz H mv bs.length rs∧H sa=some (.lst ((aj w).map V.int))∧Lets B w∧w.length≤rs.length∧w.length≤20000∧∀H',Same H H'→Q (.int (rk (stp mv) B (yB bs) w:Nat)) H'
theorem j7:∀cs:List Nat,(aj cs).sum=((cs.sum:Nat):Int)
 | []=>rfl
 | x::cs=>by show(x:Int)+(aj cs).sum=((x+cs.sum:Nat):Int);rw[j7 cs];omega
theorem cP:aY ["_law_machine_here","_law_counts_here","_law_some","_law_names","_law_yes","_law_moves","_law_found","_law_goals","_law_place","_law_first","_law_letter"] ["_law_machine_here","_law_counts_here","_law_some"] (aq eZ):=⟨rfl,rfl,rfl,by decide+kernel,rfl,by decide+kernel,by decide+kernel⟩
set_option maxHeartbeats 32000000 in
theorem A_ {a:eK} (T:Txt K mg a):bR P w K mg base dr 1 a.lx a.mN ["_law_machine_here","_law_counts_here","_law_some"] HP:=by
 refine T.BU.ok cP (fun vs H Q E h=>?_) (fun cdv A outer s H vs Q E hr h=>?_)
 ·obtain⟨ma,nm,ca,sa,bs,mv,B,rs,w,rfl,_⟩:=h
  rfl
 ·obtain⟨ma,nm,ca,sa,bs,mv,B,rs,w,rfl,hma,mo,h0,hn,hB,rL,rows,pU,hw,Ua,lw,k⟩:=h
  refine⟨_,(ah (iF (pv 0) (dQ rfl (aK (az (i:=3) cP.nd rfl (Or.inl rfl)) (aK (az (i:=4) cP.nd rfl (Or.inl rfl)) (aK (az (i:=5) cP.nd rfl (Or.inl rfl)) bV)))))
  (ah (aC (i:=6) cP.nd rfl (Or.inl rfl) ak)
  (ah (bZ (bA kR (aL (aW K) (by rfl) T.cF bP (ae (pv 2) ag)) ak (bw _))
   (ax (aC (i:=6) cP.nd rfl (Or.inl rfl) (aL (jR K) (by rfl) T.sO pe (ae (cg (aJ.mk' (esc:=aq eZ) (N:=["_law_machine_here","_law_counts_here","_law_some","_law_names","_law_yes","_law_moves","_law_found","_law_goals","_law_place","_law_first","_law_letter"]) (own:=["_law_count","_law_good"]) (bu:=[]) (bB:=[]) rfl rfl (by decide+kernel)) rfl (qi rfl T.sP (ae (aE (aM K) (pv 1) (aF gH (aL (aW K) (by rfl) T.cF bP (ae (pv 2) ag)) ak) (fun _ _=>rfl)) (ae (pv 4) ag))) (fun _ _ _ _=>(jb K (n:=2) rfl (aK (az (i:=0) (show List.Nodup (["_law_count","_law_good"]:List Str) by decide+kernel) rfl (Or.inl rfl)) (aK (az (i:=1) (show List.Nodup (["_law_count","_law_good"]:List Str) by decide+kernel) rfl (Or.inl rfl)) bV)))) (fun _ _ _ _=>(gx (cb K (pv 1) (fun _=>rfl)))) (fun _ _ _ _=>(pv 0))) ag))))
   br)
  (ah (aC (i:=7) cP.nd rfl (Or.inr rfl) (pv 4))
  (ah (bh PassesOwn.never rfl (zq rfl T.cw (ae (aF gH (aL (aW K) (by rfl) T.cF bP (ae (pv 2) ag)) ak) (ae (fI eN ak) (ae (fI eN ak) ag)))) (az (i:=8) cP.nd rfl (Or.inr rfl))
   (ah (aC (i:=9) cP.nd rfl (Or.inl rfl) (b_ qL (by rfl) T.yg uc (ae (g5 kQ (pv 8) (aF gH (aL (aW K) (by rfl) T.cF bP (ae (pv 2) ag)) ak) (bw _)) ag)))
   (ah (bh PassesOwn.never rfl (qK rfl T.cw (ae (pv 9) (ae (aE (aM K) (pv 2) (pv 8) (fun _ _=>rfl)) ag))) (az (i:=10) cP.nd rfl (Or.inr rfl))
    (ax (aC (i:=6) cP.nd rfl (Or.inl rfl) (aF cq (pv 6) (aL (jR K) (by rfl) T.sO pe (ae (cg (aJ.mk' (esc:=aq eZ) (N:=["_law_machine_here","_law_counts_here","_law_some","_law_names","_law_yes","_law_moves","_law_found","_law_goals","_law_place","_law_first","_law_letter"]) (own:=["_law_count","_law_goes"]) (bu:=["_law_goals","_law_letter"]) (bB:=[7,10]) rfl rfl (by decide+kernel)) rfl (qi rfl T.sP (ae (aE (aM K) (pv 1) (pv 8) (fun _ _=>rfl)) (ae (pv 5) ag))) (fun _ _ _ _=>(jb K (n:=2) rfl (aK (az (i:=0) (show List.Nodup (["_law_count","_law_goes","_law_goals","_law_letter"]:List Str) by decide+kernel) rfl (Or.inl rfl)) (aK (az (i:=1) (show List.Nodup (["_law_count","_law_goes","_law_goals","_law_letter"]:List Str) by decide+kernel) rfl (Or.inl rfl)) bV)))) (fun _ _ _ _=>(gx (cb K (aE (zS K) (pv 2) (aE (aP K) (pv 1) (pv 3) (fun _ _=>rfl)) (fun _ _=>rfl)) (fun _=>rfl)))) (fun _ _ _ _=>(pv 0))) ag))))))
   (ax (aC (i:=7) cP.nd rfl (Or.inr rfl) (cg (aJ.mk' (esc:=aq eZ) (N:=["_law_machine_here","_law_counts_here","_law_some","_law_names","_law_yes","_law_moves","_law_found","_law_goals","_law_place","_law_first","_law_letter"]) (own:=["_law_goes"]) (bu:=["_law_goals","_law_some","_law_place"]) (bB:=[7,2,8]) rfl rfl (by decide+kernel)) rfl (f_ (pv 5)) (fun _ _ _ _=>(az (i:=0) (show List.Nodup (["_law_goes","_law_goals","_law_some","_law_place"]:List Str) by decide+kernel) rfl (Or.inl rfl))) (fun _ _ _ _=>bM) (fun _ _ _ _=>(aE (zS K) (pv 1) (aE (aP K) (pv 0) (aE (aM K) (pv 2) (pv 3) (fun _ _=>rfl)) (fun _ _=>rfl)) (fun _ _=>rfl)))))))))
  (ax (aS (pv 6)))))))),?_⟩
  have big:(1000000:Nat)≤sizeLine:=by decide
  obtain⟨ya,va,ps,e1,e2,e3,tp⟩:=hma
  have hst:∀r a,r<bs.length→a<B→stp mv r a<bs.length:=fun r a h1 h2=>mo.stp h1 h2
  have lps:ps.length=bs.length:=by rw[Paired.length tp,List.length_map,mo.len]
  refine⟨_,rfl,ma,_,rfl,.of e1,rfl,_,_,rfl,_,_,rfl,_,_,rfl,rfl,?_⟩
  dsimp only[aH]
  refine aI fun Y hY=>?_
  dsimp only[ou,tC,aH]
  subst hY
  refine aI fun Y hY=>?_
  have rest:∀(f:Nat) (H1:Hp),Same H H1→f+ahead (stp mv) B (yB bs) w.reverse 1=rk (stp mv) B (yB bs) w→Y [some (.ref ma),some (.ref ca),some (.ref sa),some (.ref nm),some (.ref ya),some (.ref va),some (.int (f:Nat)),none,none,none,none] H1:=by
   intro f H1 s1 hf
   subst hY
   refine aI fun Y hY=>?_
   refine⟨_,rfl,?_⟩
   dsimp only[aH]
   subst hY
   refine aI fun Y hY=>?_
   refine⟨_,rfl,_,w.length,rfl,.inl ⟨_,.of (s1 _ _ pU),by rw[List.length_map,aA]⟩,_,_,rfl,rfl,_,rfl,_,rfl,_,_,rfl,⟨by omega,by omega,by omega,by omega⟩,?_⟩
   rw[show(((w.length:Nat):Int)-1- -1).toNat=w.length by omega]
   refine xI (hi:=((w.length:Nat):Int)-1) (n:=w.length) (fun i σ H'=>∃(ga:Addr) (gs:List Bool) (f:Nat) (v8 v9 v10:Option V),σ=[some (.ref ma),some (.ref ca),some (.ref sa),some (.ref nm),some (.ref ya),some (.ref va),some (.int (f:Nat)),some (.ref ga),v8,v9,v10]∧Same H H'∧(bp K H' ga (gs.map V.bl)∨bo K H' ga (gs.map V.bl))∧gs.length=bs.length∧f+ahead (stp mv) B (fun r=>gs.getD r false) (w.take (w.length-i)).reverse (if i=0 then 1 else 0)=rk (stp mv) B (yB bs) w)
    ⟨ya,bs,f,none,none,none,rfl,s1,.inr (.of (s1 _ _ e2)),rfl,?QQ⟩ ?_ ?_
   case QQ=>rw[Nat.sub_zero,List.take_length,if_pos rfl];exact hf
   ·rintro i σ H2 hi ⟨ga,gs,f,v8,v9,v10,rfl,s2,eg,lg,hf2⟩
    obtain⟨p,hp⟩:∃p,w.length=p+1+i:=⟨w.length-1-i,by omega⟩
    have HQ:((w.length:Nat):Int)-1-(i:Int)=((p:Nat):Int):=by omega
    have Dz:w[p]? =some (w.getD p 0):=item_at 0 (by omega)
    have oj:w.getD p 0<B:=hw _ (List.mem_of_getElem? Dz)
    obtain⟨rp,rM⟩:∃r,rs[p]? =some r:=⟨_,List.getElem?_eq_getElem (by omega)⟩
    obtain⟨cs,rN,lcs,hcs⟩:=rows p rp rM
    dsimp only[aH]
    rw[HQ]
    refine aI fun Y2 dI=>?_
    refine⟨_,rfl,_,rfl,_,w.length,rfl,.inl ⟨_,.of (s2 _ _ pU),by rw[List.length_map,aA]⟩,_,_,rfl,rfl,rfl,.inr ⟨_,rfl,?_⟩⟩
    have HR:(if(decide (V.int ((p:Nat):Int)=V.int (((w.length:Nat):Int)-1)))=true then(1:Int) else 0)=(((if i=0 then 1 else 0:Nat):Nat):Int):=by
     by_cases z:i=0
     ·rw[if_pos z,decide_eq_true (show V.int ((p:Nat):Int)=V.int (((w.length:Nat):Int)-1) by congr 1;omega),if_pos rfl];rfl
     ·rw[if_neg z,decide_eq_false (show ¬V.int ((p:Nat):Int)=V.int (((w.length:Nat):Int)-1) by intro q;have:=V.int.inj q;omega),if_neg Bool.false_ne_true];rfl
    rw[HR]
    generalize hlo:(if i=0 then 1 else 0:Nat)=lo at hf2
    have To:lo≤1:=by rw[←hlo];split<;>omega
    have ew:(w.take (w.length-i)).reverse=w.getD p 0::(w.take p).reverse:=by
     rw[show w.length-i=p+1 by omega,take_snoc Dz,List.reverse_append];rfl
    have QR:(w.take p).reverse.length=p:=by rw[List.length_reverse,List.length_take];omega
    rw[ew,gU,QR] at hf2
    generalize hav:w.getD p 0=av at hf2 oj
    dsimp only[aH]
    subst dI
    refine aI fun Y2 dI=>?_
    refine⟨_,rfl,_,rfl,_,rfl,sa,_,_,.int (av:Nat),rfl,rfl,.of (s2 _ _ pU),aD (by rw[List.getElem?_map,ic,Dz,hav];rfl),_,_,rfl,⟨by omega,by omega,by omega,by omega⟩,?_⟩
    rw[show(((av:Nat):Int)-((lo:Nat):Int)).toNat=av-lo by omega]
    refine dR (lo:=((lo:Nat):Int)) (n:=av-lo) (fun j σ H'=>∃(f':Nat) (v10:Option V),σ=[some (.ref ma),some (.ref ca),some (.ref sa),some (.ref nm),some (.ref ya),some (.ref va),some (.int (f':Nat)),some (.ref ga),some (.int (p:Nat)),some (.int (lo:Nat)),v10]∧Same H2 H'∧f'=f+((List.range' lo j).map fun b=>(Fw (stp mv) B p fun r=>gs.getD (stp mv r b) false).length).sum)
     ⟨f,v10,rfl,.refl _,by simp⟩ ?_ ?_
    ·rintro j σ H3 hj ⟨f',v10,rfl,s3,hf'⟩
     have ec:((lo:Nat):Int)+(j:Int)=((lo+j:Nat):Int):=by omega
     have hcB:lo+j<B:=by omega
     dsimp only[aH]
     rw[ec]
     generalize hc:lo+j=c at hcB
     have cW:=s2.trans s3
     refine⟨_,rfl,_,rfl,_,rfl,ca,_,_,.ref rp,rfl,rfl,.of (cW _ _ rL),aD (by rw[List.getElem?_map,rM];rfl),_,rfl,rp,va,rfl,⟨_,.of (cW _ _ rN)⟩,⟨_,.of (cW _ _ e3)⟩,fun L hL=>?_⟩
     refine mI (xs:=(aj cs).map V.int) (ys:=ps.map V.ref) (fun j σ H'=>∃(ds:List Nat) (v0 v1:Option V),σ=[v0,v1,some (.ref ga),some (.int (c:Nat))]∧Same H3 H'∧H' L=some (.lst ((aj ds).map V.int))∧ds.length≤j∧ds.sum=Wf (ind fun r=>gs.getD (stp mv r c) false) (cs.take j) 0)
      (by rw[List.length_map,aA,List.length_map,lcs,lps]) ⟨[],none,none,?sg,Same.new hL,af,Nat.le_refl _,rfl⟩ (fun j σ H' _ ⟨_,_,_,_,s',_⟩=>⟨.of (s' _ _ (cW _ _ rN)),.of (s' _ _ (cW _ _ e3))⟩) ?_ ?_
     case sg=>rfl
     ·rintro l x y pp σ Hb hx hy ⟨ds,v0,v1,rfl,sb,lb,ld,hds⟩ hpp
      obtain⟨cnt,rfl,K5⟩:=cx hx
      obtain⟨q,rfl,eq⟩:=cV hy
      have hl:l<bs.length:=by rw[←lps];exact(List.getElem?_eq_some_iff.mp eq).1
      have gZ:=Same.new (o:=.tup [.int (cnt:Nat),.ref q]) hpp
      have sA:=(cW.trans sb).trans gZ
      obtain⟨r1,r2,r3⟩:=mo.row (tp.keep sA.kt) hl
      rw[r1] at eq
      have eq':=Option.some.inj eq
      subst eq'
      have MF:=hst l c hl hcB
      have HS:gs[stp mv l c]? =some (gs.getD (stp mv l c) false):=item_at false (by rw[lg];exact MF)
      have pW:=(s3.trans sb).trans gZ
      have HU:bp K _ ga (gs.map V.bl)∨bo K _ ga (gs.map V.bl):=eg.imp pW.seq pW.FO
      refine⟨pp,_,rfl,.of af,rfl,_,_,rfl,_,_,rfl,rfl,?_⟩
      refine⟨_,rfl,_,rfl,_,rfl,_,_,_,.int (stp mv l c:Nat),rfl,rfl,.of r2,aD (dv (by rw[r3];exact hcB)),?_⟩
      refine wK (v:=.bl (gs.getD (stp mv l c) false)) HU (aD (by rw[List.getElem?_map,HS];rfl)) ?_
      refine⟨_,rfl,?_⟩
      refine cG (fun z=>?_) (fun z=>?_)
      ·refine⟨_,rfl,_,gZ _ _ lb,?_,ds++[cnt],_,_,rfl,(sb.trans gZ).kbn hL KB.write,?_,by rw[List.length_append];show ds.length+1≤l+1;omega,?_⟩
       ·rw[List.length_map,aA];omega
       ·rw[af,bt,List.map_append];rfl
       ·rw[ig _ K5,List.sum_append,hds,ind,if_pos z]
        simp
      ·refine⟨ds,_,_,rfl,sb.trans gZ,gZ _ _ lb,by omega,?_⟩
       rw[ig _ K5,hds,ind,if_neg z]
       simp
     rintro σ Hb ⟨ds,v0,v1,rfl,sb,lb,ld,hds⟩
     rw[List.length_map,aA,List.take_length,hcs,←yz mo h0] at hds
     refine⟨L,_,rfl,.of lb,?_⟩
     rw[j7,hds]
     refine⟨_,_,rfl,rfl,f'+(Fw (stp mv) B p fun r=>gs.getD (stp mv r c) false).length,some (.int (c:Nat)),?_,s3.trans sb,?_⟩
     ·rw[Int.natCast_add];rfl
     ·rw[List.range'_concat,List.map_append,List.sum_append,hf',Nat.one_mul,hc]
      simp[Nat.add_assoc]
    rintro σ H3 ⟨f',Tp,rfl,s3,hf'⟩
    have cW:=s2.trans s3
    show Y2 _ _
    subst dI
    refine⟨_,rfl,va,rfl,⟨_,.of (cW _ _ e3)⟩,fun G hG=>?_⟩
    refine jl (xs:=ps.map V.ref) (fun j σ H'=>∃v:Option V,σ=[v,some (.ref ga),some (.ref sa),some (.int (p:Nat))]∧Same H3 H'∧H' G=some (.lst ((((List.range j).map fun r=>gs.getD (stp mv r av) false)).map V.bl)))
     ⟨none,?sg2,Same.new hG,af⟩ (fun j σ H' _ ⟨_,_,s',_⟩=>.of (s' _ _ (cW _ _ e3))) ?_ ?_
    case sg2=>rfl
    ·rintro l x σ Hb hx ⟨v,rfl,sb,gb⟩
     obtain⟨q,rfl,eq⟩:=cV hx
     have hl:l<bs.length:=by rw[←lps];exact(List.getElem?_eq_some_iff.mp eq).1
     have sA:=cW.trans sb
     obtain⟨r1,r2,r3⟩:=mo.row (tp.keep sA.kt) hl
     rw[r1] at eq
     have eq':=Option.some.inj eq
     subst eq'
     have HS:gs[stp mv l av]? =some (gs.getD (stp mv l av) false):=item_at false (by rw[lg];exact hst l av hl oj)
     have pW:=s3.trans sb
     have HU:bp K Hb ga (gs.map V.bl)∨bo K Hb ga (gs.map V.bl):=eg.imp pW.seq pW.FO
     refine⟨_,rfl,_,rfl,_,rfl,_,rfl,sa,_,_,.int (av:Nat),rfl,rfl,.of (sA _ _ pU),aD (by rw[List.getElem?_map,ic,Dz,hav];rfl),_,_,_,.int (stp mv l av:Nat),rfl,rfl,.of r2,aD (dv (by rw[r3];exact oj)),?_⟩
     refine wK (v:=.bl (gs.getD (stp mv l av) false)) HU (aD (by rw[List.getElem?_map,HS];rfl)) ?_
     refine⟨_,gb,?_,_,rfl,sb.kbn hG KB.write,?_⟩
     ·rw[List.length_map,List.length_map,List.length_range];omega
     ·rw[af,List.range_succ,List.map_append,List.map_append];rfl
    rintro σ Hb ⟨v,rfl,sb,gb⟩
    rw[List.length_map,lps] at gb
    dsimp only[aH]
    refine⟨G,(List.range bs.length).map fun r=>gs.getD (stp mv r av) false,f',_,_,_,rfl,cW.trans sb,.inl (.of gb),by rw[List.length_map,List.length_range],?_⟩
    rw[if_neg (Nat.succ_ne_zero i),show w.length-(i+1)=p by omega,←hf2,hf',Nat.add_assoc]
    congr 2
    refine oq hst h0 _ _ _ 0 (fun x hx=>hw x (List.mem_of_mem_take (List.mem_reverse.mp hx))) fun r hr'=>?_
    rw[List.getD_eq_getElem?_getD,List.getElem?_map,List.getElem?_range hr'];rfl
   ·rintro σ H2 ⟨ga,gs,f,v8,v9,v10,rfl,s2,eg,lg,hf2⟩
    rw[Nat.sub_self,List.take_zero] at hf2
    have QS:f=rk (stp mv) B (yB bs) w:=hf2
    subst hY
    rw[QS]
    exact⟨_,rfl,k H2 s2⟩
  refine⟨_,rfl,_,w.length,rfl,.inl ⟨_,.of pU,by rw[List.length_map,aA]⟩,_,_,rfl,rfl,_,rfl,?_⟩
  refine cG (fun z=>?_) (fun z=>?_)
  ·have hw0:0<w.length:=by have:=of_decide_eq_true z;omega
   have hwn:w≠[]:=fun z=>by rw[z] at hw0;cases hw0
   obtain⟨p,hp⟩:∃p,w.length=p+1:=⟨w.length-1,by omega⟩
   obtain⟨rp,rM⟩:∃r,rs[p]? =some r:=⟨_,List.getElem?_eq_getElem (by omega)⟩
   obtain⟨cs,rN,lcs,hcs⟩:=rows p rp rM
   refine⟨_,rfl,_,rfl,_,w.length,rfl,.inl ⟨_,.of pU,by rw[List.length_map,aA]⟩,_,_,rfl,rfl,ca,_,_,.ref rp,rfl,rfl,.of rL,?ai,_,rfl,rp,ya,rfl,⟨_,.of rN⟩,⟨_,.of e2⟩,fun L hL=>?_⟩
   case ai=>
    rw[show((w.length:Nat):Int)-1=((p:Nat):Int) by omega]
    exact aD (by rw[List.getElem?_map,rM];rfl)
   refine mI (xs:=(aj cs).map V.int) (ys:=bs.map V.bl) (fun j σ H'=>∃(ds:List Nat) (v0 v1:Option V),σ=[v0,v1]∧Same H H'∧H' L=some (.lst ((aj ds).map V.int))∧ds.length≤j∧ds.sum=Wf (ind (yB bs)) (cs.take j) 0)
    (by rw[List.length_map,aA,List.length_map,lcs]) ⟨[],none,none,?pW,Same.new hL,af,Nat.le_refl _,rfl⟩ (fun j σ H' _ ⟨_,_,_,_,s',_⟩=>⟨.of (s' _ _ rN),.of (s' _ _ e2)⟩) ?_ ?_
   case pW=>rfl
   ·rintro j x y pp σ Hb hx hy ⟨ds,v0,v1,rfl,sb,lb,ld,hds⟩ hpp
    obtain⟨c,rfl,ec⟩:=cx hx
    obtain⟨yj,rfl,ey⟩:=lB hy
    have hj:j<bs.length:=(List.getElem?_eq_some_iff.mp ey).1
    have eD:yB bs j=yj:=by unfold yB;rw[List.getD_eq_getElem?_getD,ey];rfl
    have gZ:=Same.new (o:=.tup [.int (c:Nat),.bl yj]) hpp
    refine⟨pp,_,rfl,.of af,rfl,_,_,rfl,_,_,rfl,rfl,_,rfl,yj,rfl,?_⟩
    refine cG (fun z=>?_) (fun z=>?_)
    ·refine⟨_,rfl,_,gZ _ _ lb,?_,ds++[c],_,_,rfl,(sb.trans gZ).kbn hL KB.write,?_,by rw[List.length_append];show ds.length+1≤j+1;omega,?_⟩
     ·rw[List.length_map,aA];omega
     ·rw[af,bt,List.map_append];rfl
     ·rw[ig _ ec,List.sum_append,hds,ind,eD,if_pos z]
      simp
    ·refine⟨ds,_,_,rfl,sb.trans gZ,gZ _ _ lb,by omega,?_⟩
     rw[ig _ ec,hds,ind,eD,if_neg z]
     simp
   rintro σ Hb ⟨ds,v0,v1,rfl,sb,lb,ld,hds⟩
   rw[List.length_map,aA,List.take_length,hcs,←yz mo h0] at hds
   refine⟨L,_,rfl,.of lb,?_⟩
   rw[j7,hds]
   dsimp only[aH]
   refine rest _ Hb sb ?_
   unfold rk
   rw[if_neg hwn,show w.length-1=p by omega]
  ·have hw0:w=[]:=List.length_eq_zero_iff.mp (by
    have:¬(0:Int)<((w.length:Nat):Int):=fun q=>z (decide_eq_true q)
    omega)
   refine eA ?_
   dsimp only
   refine rest 0 H (.refl _) ?_
   rw[hw0];rfl
def JI:Sp:=fun vs H Q _=>∃(ma nm ca:Addr) (bs:List Bool) (mv:List (List Nat)) (B:Nat) (rs:List Addr) (sp:Nat),vs=[.ref ma,.ref ca,.int sp]∧cy H ma nm bs mv∧Moves bs.length B mv∧0<bs.length∧bs.length≤60∧
 H ca=some (.lst (rs.map V.ref))∧jz H mv bs.length rs∧2*sp<rs.length∧rs.length≤100000∧
 (∀H',Same H H'→(Fw (stp mv) B sp (yB bs)).length<(Fw (stp mv) B (2*sp) (yB bs)).length→Q .non H')∧
 ∀H',Same H H'→¬(Fw (stp mv) B sp (yB bs)).length<(Fw (stp mv) B (2*sp) (yB bs)).length→Q (.int ((Fw (stp mv) B sp (yB bs)).length:Nat)) H'
theorem jI:aY ["_law_machine_here","_law_counts_here","_law_span","_law_names","_law_yes","_law_moves","_law_totals"] ["_law_machine_here","_law_counts_here","_law_span"] (aq hU):=⟨rfl,rfl,rfl,by decide+kernel,rfl,by decide+kernel,by decide+kernel⟩
set_option maxHeartbeats 16000000 in
theorem Cj {a:eK} (T:Txt K mg a):bR P w K mg base dr 1 a.nB a.oF ["_law_machine_here","_law_counts_here","_law_span"] JI:=by
 refine T.Er.ok jI (fun vs H Q E h=>?_) (fun cdv A outer s H vs Q E hr h=>?_)
 ·obtain⟨ma,nm,ca,bs,mv,B,rs,sp,rfl,_⟩:=h
  rfl
 ·obtain⟨ma,nm,ca,bs,mv,B,rs,sp,rfl,hma,mo,h0,hn,rL,rows,hsp,lrs,k1,k2⟩:=h
  refine⟨_,(ah (iF (pv 0) (dQ rfl (aK (az (i:=3) jI.nd rfl (Or.inl rfl)) (aK (az (i:=4) jI.nd rfl (Or.inr rfl)) (aK (az (i:=5) jI.nd rfl (Or.inl rfl)) bV)))))
  (ah (dU (i:=6) (aJ.mk' (esc:=aq hU) (N:=["_law_machine_here","_law_counts_here","_law_span","_law_names","_law_yes","_law_moves","_law_totals"]) (own:=["_law_row"]) (bu:=["_law_yes"]) (bB:=[4]) rfl rfl (by decide+kernel)) rfl (c_ (pv 1)) (fun _ _ _ _=>(az (i:=0) (show List.Nodup (["_law_row","_law_yes"]:List Str) by decide+kernel) rfl (Or.inl rfl))) (fun _ _ _ _=>bM) (fun _ _ _ _=>(aL (jR K) (by rfl) T.sO pe (ae (cg (aJ.mk' (esc:=_) (N:=["_law_row","_law_yes"]) (own:=["_law_count","_law_good"]) (bu:=[]) (bB:=[]) rfl rfl (by rfl)) rfl (BI K rfl T.sP (ae (pv 0) (ae (pv 1) ag))) (fun _ _ _ _=>(jb K (n:=2) rfl (aK (az (i:=0) (show List.Nodup (["_law_count","_law_good"]:List Str) by decide+kernel) rfl (Or.inl rfl)) (aK (az (i:=1) (show List.Nodup (["_law_count","_law_good"]:List Str) by decide+kernel) rfl (Or.inl rfl)) bV)))) (fun _ _ _ _=>(gx (cb K (pv 1) (fun _=>rfl)))) (fun _ _ _ _=>(pv 0))) ag))) jI.nd rfl rfl)
  (ah (bZ (bA kR (aE (aM K) (pv 6) (aF fc ak (pv 2)) (fun _ _=>rfl)) (aE (aM K) (pv 6) (pv 2) (fun _ _=>rfl)) (bw _))
   (ax (aS oW))
   br)
  (ax (aS (aE (aM K) (pv 6) (pv 2) (fun _ _=>rfl))))))),?_⟩
  have big:(1000000:Nat)≤sizeLine:=by decide
  obtain⟨ya,va,ps,e1,e2,e3,tp⟩:=hma
  refine⟨_,rfl,ma,_,rfl,.of e1,rfl,_,_,rfl,_,_,rfl,_,_,rfl,rfl,?_⟩
  dsimp only[aH]
  refine aI fun Y hY=>?_
  refine⟨_,rfl,ca,rfl,⟨_,.of rL⟩,fun D hD=>?_⟩
  refine ft (xs:=rs.map V.ref) (fun i σ H'=>∃v:Option V,σ=[v,some (.ref ya)]∧Same H H'∧H' D=some (.lst ((aj ((List.range i).map fun j=>(Fw (stp mv) B j (yB bs)).length)).map V.int)))
   ⟨none,?sg,Same.new hD,af⟩ (fun i σ H' _ ⟨_,_,s',_⟩=>.of (s' _ _ rL)) ?_ ?_
  case sg=>rfl
  ·rintro i x σ H1 hx ⟨v,rfl,s1,d1⟩
   obtain⟨rp,rfl,rM⟩:=cV hx
   have hi:i<rs.length:=(List.getElem?_eq_some_iff.mp rM).1
   obtain⟨cs,rN,lcs,hcs⟩:=rows i rp rM
   refine⟨_,rfl,_,rfl,rp,ya,rfl,⟨_,.of (s1 _ _ rN)⟩,⟨_,.of (s1 _ _ e2)⟩,fun L hL=>?_⟩
   have GQ:D≠L:=ay d1 hL
   refine mI (xs:=(aj cs).map V.int) (ys:=bs.map V.bl) (fun j σ H'=>∃(ds:List Nat) (v0 v1:Option V),σ=[v0,v1]∧Same H1 H'∧H' L=some (.lst ((aj ds).map V.int))∧ds.length≤j∧ds.sum=Wf (ind (yB bs)) (cs.take j) 0)
    (by rw[List.length_map,aA,List.length_map,lcs]) ⟨[],none,none,?pW,Same.new hL,af,Nat.le_refl _,rfl⟩ (fun j σ H' _ ⟨_,_,_,_,s',_⟩=>⟨.of (s' _ _ (s1 _ _ rN)),.of (s' _ _ (s1 _ _ e2))⟩) ?_ ?_
   case pW=>rfl
   ·rintro j x y pp σ Hb hx hy ⟨ds,v0,v1,rfl,sb,lb,ld,hds⟩ hpp
    obtain⟨c,rfl,ec⟩:=cx hx
    obtain⟨yj,rfl,ey⟩:=lB hy
    have hj:j<bs.length:=(List.getElem?_eq_some_iff.mp ey).1
    have eD:yB bs j=yj:=by unfold yB;rw[List.getD_eq_getElem?_getD,ey];rfl
    have gZ:=Same.new (o:=.tup [.int (c:Nat),.bl yj]) hpp
    refine⟨pp,_,rfl,.of af,rfl,_,_,rfl,_,_,rfl,rfl,_,rfl,yj,rfl,?_⟩
    refine cG (fun z=>?_) (fun z=>?_)
    ·refine⟨_,rfl,_,gZ _ _ lb,?_,ds++[c],_,_,rfl,(sb.trans gZ).kbn hL KB.write,?_,by rw[List.length_append];show ds.length+1≤j+1;omega,?_⟩
     ·rw[List.length_map,aA];omega
     ·rw[af,bt,List.map_append];rfl
     ·rw[ig _ ec,List.sum_append,hds,ind,eD,if_pos z]
      simp
    ·refine⟨ds,_,_,rfl,sb.trans gZ,gZ _ _ lb,by omega,?_⟩
     rw[ig _ ec,hds,ind,eD,if_neg z]
     simp
   rintro σ Hb ⟨ds,v0,v1,rfl,sb,lb,ld,hds⟩
   rw[List.length_map,aA,List.take_length,hcs,←yz mo h0] at hds
   refine⟨L,_,rfl,.of lb,?_⟩
   rw[j7,hds]
   refine⟨_,sb _ _ d1,?_,_,rfl,(s1.trans sb).kbn hD KB.write,?_⟩
   ·rw[List.length_map,aA,List.length_map,List.length_range];omega
   ·rw[af,List.range_succ,List.map_append,bt,List.map_append];rfl
  rintro σ H1 ⟨v,rfl,s1,d1⟩
  rw[List.length_map] at d1
  dsimp only[aH]
  subst hY
  have at1:∀j,j<rs.length→iX ((aj ((List.range rs.length).map fun j=>(Fw (stp mv) B j (yB bs)).length)).map V.int) ((j:Nat):Int)=some (.int ((Fw (stp mv) B j (yB bs)).length:Nat)):=fun j hj=>aD (by
   rw[List.getElem?_map,ic,List.getElem?_map,List.getElem?_range hj];rfl)
  refine aI fun Y hY=>?_
  refine⟨_,rfl,_,rfl,_,_,rfl,rfl,.inl ⟨by decide,by decide⟩,D,_,_,.int ((Fw (stp mv) B (2*sp) (yB bs)).length:Nat),rfl,rfl,.of d1,?a1,_,rfl,_,rfl,D,_,_,_,rfl,rfl,.of d1,at1 sp (by omega),_,_,rfl,rfl,_,rfl,?_⟩
  case a1=>
   have:=at1 (2*sp) hsp
   rw[show((2*sp:Nat):Int)=2*(sp:Int) by omega] at this
   exact this
  refine cG (fun z=>?_) (fun z=>?_)
  ·exact k1 H1 s1 (by have:=of_decide_eq_true z;omega)
  ·refine eA ?_
   dsimp only
   subst hY
   refine⟨_,rfl,_,rfl,D,_,_,_,rfl,rfl,.of d1,at1 sp (by omega),k2 H1 s1 fun q=>z (decide_eq_true (by omega))⟩
section
variable {st:Nat→Nat→Nat} {B n:Nat} {y:Nat→Bool}
def fh (st:Nat→Nat→Nat) (B:Nat) (y:Nat→Bool) (h K:Nat):Prop:=h≤(Nw st B y K).length∨∀r,¬Ly st B y K r
theorem fh.more {h K:Nat} (e:fh st B y h K) (q:Nat):(Nw st B y (K+q)).take h=(Nw st B y K).take h:=by
 rcases e with e | e
 ·obtain⟨r,er⟩:=pF st B y K q
  rw[er,List.take_append_of_le_length e]
 ·rw[lD e q]
theorem fh.less {h h' K:Nat} (e:fh st B y h' K) (q:h≤h'):fh st B y h K:=e.imp (fun z=>Nat.le_trans q z) id
theorem fh.agree {h h' K K':Nat} (e:fh st B y h K) (e':fh st B y h' K') (q:h≤h'):(Nw st B y K).take h=((Nw st B y K').take h').take h:=by
 rw[List.take_take,Nat.min_eq_left q,←e.more K',←(e'.less q).more K,Nat.add_comm]
theorem ER (hst:∀r a,r<n→a<B→st r a<n) (h0:0<n) (hB:0<B) (hg:∀r,r<n→y (st r 0)=y r) {K k:Nat} {w:List Nat} (h:(Nw st B y K)[k]? =some w):rk st B y w=k:=by
 rcases CV h with⟨rfl,rfl⟩ | ⟨a,ru,rfl,rfl⟩
 ·rfl
 ·unfold rk
  rw[if_neg (by simp),List.reverse_reverse,List.length_reverse,List.length_cons,Nat.add_sub_cancel_right,pE hst h0 hB hg]
theorem A0 (hst:∀r a,r<n→a<B→st r a<n) (h0:0<n) {k q:Nat} (hq:n<q) (h:Nw st B y k≠[]):Nw st B y q≠[]:=by
 have up:∀j,j≤q→Nw st B y j≠[]→Nw st B y q≠[]:=fun j hj hn z=>by
  obtain⟨r,er⟩:=pF st B y j (q-j)
  rw[show j+(q-j)=q by omega,z] at er
  exact hn (List.append_eq_nil_iff.mp er.symm).1
 obtain⟨w,hw⟩:=List.exists_mem_of_ne_nil _ h
 obtain⟨_,h2,h3,h4⟩:=uJ hw
 rcases h4 with rfl | ⟨u,a,rfl,ha⟩
 ·refine up 0 (Nat.zero_le _) ?_
  show(if y 0=true then [[]] else []:List (List Nat))≠[]
  rw[if_pos (show y 0=true from h3)]
  exact fun z=>nomatch z
 ·have hu:Lets B u:=fun b hb=>h2 b (List.mem_append_left _ hb)
  rw[bG] at h3
  obtain⟨v,v1,v2,c,c1,c2,c3⟩:=oS (y:=y) hst h0 u.length u (Nat.le_refl _) hu ⟨a,ha,h2 a (by simp),h3⟩
  refine up (v.length+1) (by omega) fun z=>?_
  have:v++[c]∈Tw st B y (v.length+1):=kC.mpr ⟨cA.mpr ⟨by simp,fun b hb=>by
   rcases List.mem_append.mp hb with q | q
   ·exact v2 b q
   ·rw[List.mem_singleton.mp q];exact c2,by rw[bG];exact c3⟩,v,c,rfl,c1⟩
  have z':Nw st B y v.length++Tw st B y (v.length+1)=[]:=z
  rw[(List.append_eq_nil_iff.mp z').2] at this
  cases this
theorem ES {K k h:Nat} {w:List Nat} (e:fh st B y h K) (hh:0<h) (hw:(Nw st B y k).head? =some w):∃l,(Nw st B y K).take h=w::l:=by
 obtain⟨r,er⟩:=pF st B y k K
 rw[←e.more k,Nat.add_comm,er]
 cases hk:Nw st B y k with
 | nil=>rw[hk] at hw;cases hw
 | cons x l=>
  rw[hk] at hw
  cases hw
  obtain⟨h',rfl⟩:∃h',h=h'+1:=⟨h-1,by omega⟩
  exact⟨_,rfl⟩
theorem Ck (hst:∀r a,r<n→a<B→st r a<n) (h0:0<n) {K sp:Nat} (hsp:n≤sp) (e:∀r,¬Ly st B y K r):(Nw st B y sp).length=(Nw st B y K).length∧(Nw st B y (2*sp)).length=(Nw st B y sp).length:=by
 have en:=Gz hst h0 e
 have h1:∀q,n≤q→Nw st B y q=Nw st B y n:=fun q hq=>by
  have:=lD en (q-n)
  rwa [show n+(q-n)=q by omega] at this
 have h2:=lD e n
 have h3:=h1 (K+n) (by omega)
 rw[h1 sp hsp,h1 (2*sp) (by omega),←h3,h2]
 exact⟨rfl,rfl⟩
end
theorem oV (xs:List V) (x:V):eO (xs++[x]) none (some (-1))=xs:=by
 unfold eO
 have e:HT.aU (xs++[x]).length (xs++[x]).length (some (-1))=xs.length:=by
  show(if(-1:Int)<0 then(-1+((xs++[x]).length:Int)).toNat else min (-1:Int).toNat (xs++[x]).length)=_
  rw[if_pos (by decide),List.length_append]
  simp only[List.length_cons,List.length_nil]
  omega
 rw[e,HT.ow,List.drop_zero,Nat.sub_zero]
 exact List.take_left
theorem vt {K:PySem.W.Frag} {H:Hp}:∀ss:List Bool,aQ K H (ss.map V.bl) (ss.map Dt.bl)
 | []=>jo
 | s::ss=>fw (by rw[aB]) (vt ss)
def gu (l:List Nat):Dt:=.tup ((aj l).map Dt.int)
theorem rO {K:PySem.W.Frag} {H:Hp}:∀{ps:List Addr} {mv:List (List Nat)},bD H ps (mv.map aj)→aQ K H (ps.map V.ref) (mv.map gu)
 | [],[],_=>jo
 | _::_,[],h=>nomatch h
 | [],_::_,h=>nomatch h
 | p::ps,l::mv,.cons h t=>fw (gE (.of h) (iH _)) (rO t)
def mZ (ss:List Str) (bs:List Bool) (mv:List (List Nat)):Dt:=.tup [.tup (ss.map Dt.str),.tup (bs.map Dt.bl),.tup (mv.map gu)]
theorem m_ {α:Type} (f:α→Dt) (h:∀x,(f x).dep=0):∀l:List α,Dt.deps (l.map f)=0
 | []=>by simp[Dt.deps]
 | x::l=>by rw[List.map_cons,Dt.deps,m_ f h l,h x];rfl
theorem rP:∀mv:List (List Nat),Dt.deps (mv.map gu)≤1
 | []=>by simp[Dt.deps]
 | l::mv=>by
  rw[List.map_cons,Dt.deps]
  have:=rP mv
  have e:(gu l).dep=1:=by rw[gu,Dt.dep,jT]
  omega
theorem Cm (ss:List Str) (bs:List Bool) (mv:List (List Nat)):(mZ ss bs mv).dep≤40:=by
 have h1:=m_ Dt.str (fun _=>by simp[Dt.dep]) ss
 have h2:=m_ Dt.bl (fun _=>by simp[Dt.dep]) bs
 have h3:=rP mv
 simp only[mZ,Dt.dep,Dt.deps,h1,h2]
 omega
theorem cy.dat {K:PySem.W.Frag} {H:Hp} {ma nm:Addr} {ss:List Str} {bs:List Bool} {mv:List (List Nat)} (h:cy H ma nm bs mv) (e:H nm=some (.tup (ss.map V.str))):aB K H (.ref ma) (mZ ss bs mv):=by
 obtain⟨ya,va,ps,e1,e2,e3,tp⟩:=h
 exact gE (.of e1) (fw (gE (.of e) (qZ ss)) (fw (gE (.of e2) (vt bs)) (fw (gE (.of e3) (rO tp)) jo)))
def sT (K:PySem.W.Frag):Sp:=fun vs H Q _=>∃(a:Addr) (ns:List Int),vs=[.ref a]∧bp K H a (ns.map V.int)∧ns.length≤63∧∀H',Q (.bl true) H'
def jJ (b m:Nat) (ws:List (List Nat)):List Dt:=ws.map fun w=>gu (aZ b m w)
theorem iN {K:PySem.W.Frag} {H:Hp} {b m:Nat}:∀{qs:List Addr} {ws:List (List Nat)},bD H qs (ws.map fun w=>aj (aZ b m w))→aQ K H (qs.map V.ref) (jJ b m ws)
 | [],[],_=>jo
 | _::_,[],h=>nomatch h
 | [],_::_,h=>nomatch h
 | _::_,_::_,.cons h t=>fw (gE (.of h) (iH _)) (iN t)
theorem vw {H:Hp} {qs:List Addr} {ws:List (List Nat)} {f:List Nat→List Int} {j:Nat} {q:Addr} (t:bD H qs (ws.map f)) (e:qs[j]? =some q):∃w,ws[j]? =some w∧H q=some (.tup ((f w).map V.int)):=by
 obtain⟨x,ex,h⟩:=dW t e
 rw[List.getElem?_map] at ex
 obtain⟨w,ew,rfl⟩:=Option.map_eq_some_iff.mp ex
 exact⟨w,ew,h⟩
theorem rQ (b m:Nat):∀ws:List (List Nat),Dt.deps (jJ b m ws)≤1
 | []=>by simp[jJ,Dt.deps]
 | w::ws=>by
  have:=rQ b m ws
  have e:(gu (aZ b m w)).dep=1:=by rw[gu,Dt.dep,jT]
  show Dt.deps (gu (aZ b m w)::jJ b m ws)≤1
  rw[Dt.deps]
  omega
theorem xl (b m:Nat) (ws:List (List Nat)):(Dt.lst (jJ b m ws)).dep≤40:=by
 have:=rQ b m ws
 rw[Dt.dep];omega
theorem vx {K:PySem.W.Frag} {H:Hp} {b m:Nat} {p p':Addr} {qs pM:List Addr} {ws:List (List Nat)} {Q:VK} (e:H p=some (.lst (qs.map V.ref))) (t:bD H qs (ws.map fun w=>aj (aZ b m w))) (e':H p'=some (.lst (pM.map V.ref))) (t':bD H pM (ws.map fun w=>aj (aZ b m w))) (q:Q (.bl false) H):BJ K (.ref p) (.ref p') H Q:=by
 have d1:aB K H (.ref p) (.lst (jJ b m ws)):=ny (.of e) (iN t)
 have d2:aB K H (.ref p') (.lst (jJ b m ws)):=ny (.of e') (iN t')
 refine .inr ⟨⟨_,_,d1,d2,rfl,rfl,xl b m ws,?_⟩,_,_,d1,d2,.inr ⟨_,_,rfl,rfl⟩⟩
 rw[if_pos rfl,Dt.beq_refl];exact q
theorem ET {K:PySem.W.Frag} {H:Hp} {p p':Addr} {l:List Nat} {Q:VK} (e:H p=some (.tup ((aj l).map V.int))) (e':H p'=some (.tup ((aj l).map V.int))) (q:Q (.bl false) H):BJ K (.ref p) (.ref p') H Q:=by
 have d1:aB K H (.ref p) (gu l):=gE (.of e) (iH _)
 have d2:aB K H (.ref p') (gu l):=gE (.of e') (iH _)
 refine .inr ⟨⟨_,_,d1,d2,rfl,rfl,by rw[gu,Dt.dep,jT];omega,?_⟩,_,_,d1,d2,.inl ⟨_,_,rfl,rfl⟩⟩
 rw[if_pos rfl,Dt.beq_refl];exact q
theorem cD:aY ["_law_script","_law_deck_here","_law_base","_law_count","_law_machine_here","_law_many","_law_names","_law_yes","_law_moves","_law_found","_law_span","_law_longest","_law_counts_here","_law_k","_law_one","_law_number","_law_some","_law_total","_law_first"] ["_law_script"] (aq ix):=⟨rfl,rfl,rfl,by decide+kernel,rfl,by decide+kernel,by decide+kernel⟩
set_option maxHeartbeats 64000000 in
theorem HV {a:eK} (T:Txt K mg a):bR P w K mg base dr 5 a.xV a.zT ["_law_script"] (sT K):=by
 have Cn:=zW (P:=P) (w:=w) (base:=base) T
 have bT:=j_ (P:=P) (w:=w) (base:=base) T
 have vV:=uN (P:=P) (w:=w) (base:=base) T
 have Co:=AX (P:=P) (w:=w) (base:=base) T
 have fW:=pQ (P:=P) (w:=w) (base:=base) T
 have yA:=vU (P:=P) (w:=w) (base:=base) T
 have ot:=vm (P:=P) (w:=w) (base:=base) T
 have EU:=Ci (P:=P) (w:=w) (base:=base) T
 have yC:=vQ (P:=P) (w:=w) (base:=base) T
 have Cp:=A_ (P:=P) (w:=w) (base:=base) T
 have EV:=Cj (P:=P) (w:=w) (base:=base) T
 refine T.Jw.ok cD (fun vs H Q E h=>?_) (fun cdv A outer s H vs Q E hr h=>?_)
 ·obtain⟨sa,ns,rfl,_⟩:=h
  rfl
 ·obtain⟨sa,ns,rfl,hS,hns,k⟩:=h
  have A1:aX 2 _:=hr.mono (by decide)
  have bH:aX 2 _:=hr.mono (by decide)
  have vy:aX 4 _:=hr
  have fm:aX 4 _:=hr
  have vW:aX 3 _:=hr.mono (by decide)
  have A2:aX 3 _:=hr.mono (by decide)
  have m6:aX 1 _:=hr.mono (by decide)
  have Cq:aX 1 _:=hr.mono (by decide)
  have vX:aX 1 _:=hr.mono (by decide)
  have A3:aX 1 _:=hr.mono (by decide)
  have Cr:aX 1 _:=hr.mono (by decide)
  refine⟨_,(ah (aC (i:=1) cD.nd rfl (Or.inl rfl) (aG Cn A1 rfl T.BL T.BM T.BN .nil aO (ae (pv 0) ag)))
  (ah (aC (i:=2) cD.nd rfl (Or.inr rfl) (aF cq ak (aG bT bH rfl T.cJ T.cK T.cL .nil aO (ae (pv 1) (ae ak ag)))))
  (ah (aC (i:=3) cD.nd rfl (Or.inl rfl) (aE (aM K) (bx (ae (aG bT bH rfl T.cJ T.cK T.cL .nil aO (ae (pv 1) (ae ak ag))) (ae ak ag))) (b_ qL (by rfl) T.yg uc (ae (g5 kQ (aG bT bH rfl T.cJ T.cK T.cL .nil aO (ae (pv 1) (ae ak ag))) ak (bw _)) ag)) (fun _ _=>rfl)))
  (ah (aC (i:=4) cD.nd rfl (Or.inl rfl) (aG vV vy rfl T.vM T.vN T.vO .nil aO (ae (pv 1) (ae (pv 2) (ae (aE (aM K) (bx (ae ak (ae ak (ae ak (ae ak ag))))) (pv 3) (fun _ _=>rfl)) (ae (pv 3) ag))))))
  (ah (aC (i:=5) cD.nd rfl (Or.inl rfl) (aG bT bH rfl T.cJ T.cK T.cL .nil aO (ae (pv 1) (ae (aE (aM K) (bx (ae ak (ae ak (ae ak (ae ak ag))))) (pv 3) (fun _ _=>rfl)) ag))))
  (ah (bZ (bA kQ (aG bT bH rfl T.cJ T.cK T.cL .nil aO (ae (pv 1) (ae ak ag))) ak (bw _))
   (ax (aC (i:=4) cD.nd rfl (Or.inl rfl) (aG Co A2 rfl T.BQ T.BR T.BS .nil aO (ae (pv 1) (ae (pv 2) ag)))))
   br)
  (ah (iF (pv 4) (dQ rfl (aK (az (i:=6) cD.nd rfl (Or.inl rfl)) (aK (az (i:=7) cD.nd rfl (Or.inl rfl)) (aK (az (i:=8) cD.nd rfl (Or.inl rfl)) bV)))))
  (ah (aC (i:=9) cD.nd rfl (Or.inl rfl) (aG fW fm rfl T.fO T.fP T.fQ .nil aO (ae (pv 2) (ae (pv 4) (ae (pv 5) ag)))))
  (ah (bZ (PW.pt (nh (ji (gw (aL (jS K) (by rfl) T.gS gi (ae (pv 9) (ae (ng (v:=.ty "list") rfl T.mO kz rfl) ag))) (fun _=>rfl))) (mr (bA kR (aL (aW K) (by rfl) T.cF bP (ae (pv 9) ag)) (pv 5) (bw _)))))
   (ax (aS cZ))
   br)
  (ah (aC (i:=10) cD.nd rfl (Or.inl rfl) (aF cq (aF fc ak (aL (aW K) (by rfl) T.cF bP (ae (pv 8) ag))) ak))
  (ah (aC (i:=11) cD.nd rfl (Or.inl rfl) (wI K rfl rfl T.yf (ae (cg (aJ.mk' (esc:=aq ix) (N:=["_law_script","_law_deck_here","_law_base","_law_count","_law_machine_here","_law_many","_law_names","_law_yes","_law_moves","_law_found","_law_span","_law_longest","_law_counts_here","_law_k","_law_one","_law_number","_law_some","_law_total","_law_first"]) (own:=["_law_one"]) (bu:=["_law_base"]) (bB:=[2]) rfl rfl (by decide+kernel)) rfl (c_ (pv 9)) (fun _ _ _ _=>(az (i:=0) (show List.Nodup (["_law_one","_law_base"]:List Str) by decide+kernel) rfl (Or.inl rfl))) (fun _ _ _ _=>bM) (fun _ _ _ _=>(aL (aW K) (by rfl) T.cF bP (ae (aG ot m6 rfl T.nY T.n_ T.n5 .nil aO (ae (pv 1) (ae (pv 0) ag))) ag)))) ag) (wm ak yS)))
  (ah (aC (i:=12) cD.nd rfl (Or.inl rfl) (aG yC vX rfl T.yc T.yd T.ye .nil aO (ae (pv 4) (ae (aL (yP rfl) (by rfl) T.yf zf (ae (pv 11) (ae (aF fc ak (pv 10)) ag))) ag))))
  (ah (bh PassesOwn.never rfl (nu rfl T.cX (ae (pv 9) ag)) (dQ rfl (aK (az (i:=13) cD.nd rfl (Or.inl rfl)) (aK (az (i:=14) cD.nd rfl (Or.inl rfl)) bV)))
   (ah (bZ (PW.pt (nh (ji (gw (aL (jS K) (by rfl) T.gS gi (ae (pv 14) (ae (ng (v:=.ty "tuple") rfl T.fR eV rfl) ag))) (fun _=>rfl))) (mr (bA oY (aL (aW K) (by rfl) T.cF bP (ae (pv 14) ag)) (aL (aW K) (by rfl) T.cF bP (ae (pv 6) ag)) (bw _)))))
    (ax (aS cZ))
    br)
   (ah (bh PassesOwn.never rfl (f_ (pv 14)) (az (i:=15) cD.nd rfl (Or.inl rfl))
    (ax (bZ (PW.pt (nh (ji (gw (aL (jS K) (by rfl) T.gS gi (ae (pv 15) (ae (ng (v:=.ty "int") rfl T.yg uc rfl) ag))) (fun _=>rfl))) (nh (gw (aL (jS K) (by rfl) T.gS gi (ae (pv 15) (ae (ng (v:=.ty "bool") rfl T.Gs Ea rfl) ag))) (fun _=>rfl)) (mr (bA sx (pv 15) ak (bw _))))))
     (ax (aS cZ))
     br)))
   (ah (aC (i:=16) cD.nd rfl (Or.inl rfl) (aG ot m6 rfl T.nY T.n_ T.n5 .nil aO (ae (pv 2) (ae (pv 14) ag))))
   (ax (bZ (PW.pt (nh (ji (cb K (aE (aP K) (pv 7) (aG EU Cq rfl T.En T.Eo T.Ep .nil aO (ae (pv 8) (ae ak (ae (pv 16) ag)))) (fun _ _=>rfl)) (fun _=>rfl))) (mr (bA oY (aG Cp A3 rfl T.BV T.BW T.BX .nil aO (ae (pv 4) (ae (pv 12) (ae (pv 16) ag)))) (pv 13) (bw _)))))
    (ax (aS cZ))
    br))))))
  (ah (aC (i:=17) cD.nd rfl (Or.inl rfl) (aG EV Cr rfl T.Es T.Et T.Eu .nil aO (ae (pv 4) (ae (pv 12) (ae (pv 10) ag)))))
  (ah (bZ (PW.pt (mw (bA sx (aL (aW K) (by rfl) T.cF bP (ae (pv 9) ag)) (pv 5) (bw _)) (kn (bA oY (pv 17) (aL (aW K) (by rfl) T.cF bP (ae (pv 9) ag)) (bw _)))))
   (ax (aS cZ))
   br)
  (ah (aC (i:=18) cD.nd rfl (Or.inl rfl) (aG yA vW rfl T.x6 T.x8 T.x9 .nil aO (ae (pv 2) (ae (pv 4) ag))))
  (ah (bZ (PW.pt (mw (bA kR (pv 5) ak (bw _)) (kn (bA (ur K hr.units) (pv 18) (aE (aM K) (aF y1 (pv 9) (bx (ae oW ag))) ak (fun _ _=>rfl)) (bw _)))))
   (ax (aS cZ))
   br)
  (ah (bZ (PW.pt (mw (bA kQ (pv 5) ak (bw _)) (kn (bA oY (g5 Fh (pv 18) oW (bw _)) (g5 kQ (pv 17) ak (bw _)) (bw _)))))
   (ax (aS cZ))
   br)
  (ah (bI (cE PySem.F.plainAttrs_list PySem.F.slot_list_append PySem.F.type_list_append bz (pv 9) (ae (bX ag) ag)))
  (ah (bZ (bA (ur K hr.units) (aG fW fm rfl T.fO T.fP T.fQ .nil aO (ae (pv 2) (ae (pv 4) (ae (aF kW (pv 5) ak) ag)))) (df (eB K) (df (eB K) (pv 9) dJ (dM (fI eN ak))) dJ (dM (aF kW (pv 5) ak))) (bw _))
   (ax (aS cZ))
   br)
  (ah (bZ (bA (ur K hr.units) (df (eB K) (aG fW fm rfl T.fO T.fP T.fQ .nil aO (ae (pv 2) (ae (pv 4) (ae (aF cq (pv 5) ak) ag)))) dJ (dM (pv 5))) (df (eB K) (pv 9) dJ (dM (fI eN ak))) (bw _))
   (ax (aS cZ))
   br)
  (ax (aS (E6 (g5 (zk K hr.units) (aG fW fm rfl T.fO T.fP T.fQ .nil aO (ae (pv 2) (ae (pv 4) (ae (pv 5) ag)))) (df (eB K) (pv 9) dJ (dM (fI eN ak))) (bw _)) (E5 (g5 (zk K hr.units) (pv 4) (bX (ae (pv 6) (ae (pv 7) (ae (pv 8) ag)))) (bw _))))))))))))))))))))))))))),?_⟩
  have big:(1000000:Nat)≤sizeLine:=by decide
  refine aI fun Y hY=>?_
  refine⟨_,rfl,sa,ns,rfl,hS,hns,fun d H1 hd s1 d1=>?_⟩
  dsimp only[aH]
  subst hY
  refine aI fun Y hY=>?_
  refine⟨_,rfl,d,3,rfl,d1,by decide,fun r H2 r0 r1 k2 d2=>⟨_,_,rfl,rfl,?_⟩⟩
  obtain⟨r',rfl⟩:=toN r0
  have eb:(2:Int)+(r':Int)=((2+r':Nat):Int):=by omega
  dsimp only[aH]
  rw[eb]
  generalize hbb:2+r'=b
  have hb2:2≤b:=by omega
  have hb4:b≤4:=by omega
  subst hY
  refine aI fun Y hY=>?_
  refine⟨_,rfl,d,3,rfl,d2,by decide,fun t H3 t0 t1 k3 d3=>⟨by show 2≤sizeLine;decide,fun Z hZ=>?_⟩⟩
  obtain⟨t',rfl⟩:=toN t0
  have sZ:=Same.new (o:=.lst [.int (t':Nat),.int 3]) hZ
  have nZ:=d3.ne hZ
  refine⟨_,rfl,d,8,rfl,d3.same sZ,by decide,fun u H4 u0 u1 k4 d4=>⟨rfl,.inr ⟨_,rfl,?_⟩⟩⟩
  have z4:=k4 _ _ (show(upd H3 Z (.lst [.int (t':Nat),.int 3])) Z=_ from af) nZ
  obtain⟨m,C0,em⟩:∃m:Nat,m≤3∧∀c:Bool,c=decide (V.int u=V.int 1)→iX ([.int (t':Nat),.int 3]:List V) (if c=true then 1 else 0)=some (.int (m:Nat)):=by
   cases h:decide (V.int u=V.int 1) with
   | true=>exact⟨3,by omega,fun c hc=>by rw[hc];rfl⟩
   | false=>exact⟨t',by omega,fun c hc=>by rw[hc];rfl⟩
  refine⟨Z,_,_,_,rfl,rfl,.of z4,em _ rfl,?_⟩
  dsimp only[aH]
  subst hY
  refine aI fun Y hY=>?_
  have four:∀(x0 x1 x2 x3:Nat),∃x:Nat,(x=x0∨x=x1∨x=x2∨x=x3)∧iX ([.int (x0:Nat),.int (x1:Nat),.int (x2:Nat),.int (x3:Nat)]:List V) ((m:Nat):Int)=some (.int (x:Nat)):=fun x0 x1 x2 x3=>by
   have:m=0∨m=1∨m=2∨m=3:=by omega
   rcases this with rfl | rfl | rfl | rfl
   ·exact⟨x0,.inl rfl,rfl⟩
   ·exact⟨x1,.inr (.inl rfl),rfl⟩
   ·exact⟨x2,.inr (.inr (.inl rfl)),rfl⟩
   ·exact⟨x3,.inr (.inr (.inr rfl)),rfl⟩
  obtain⟨most,JJ,DA⟩:=four 8 8 6 4
  obtain⟨K6,MG,HW⟩:=four 3 40 20 6
  refine⟨_,rfl,_,rfl,by show 4≤sizeLine;omega,fun Z1 C5=>?_⟩
  have Aj:=Same.new (o:=.lst [.int 8,.int 8,.int 6,.int 4]) C5
  refine⟨_,rfl,Z1,_,_,.int (most:Nat),rfl,rfl,.of af,DA,_,rfl,d,b,most,m,rfl,d4.same Aj,hb2,hb4,by omega,by omega,C0,fun ma nm ss bs mv H5 hma k5 d5 i4 lW K7 dZ h0 h8 hno=>?_⟩
  dsimp only[aH]
  subst hY
  refine aI fun Y hY=>?_
  refine⟨_,rfl,by show 4≤sizeLine;omega,fun Z2 C6=>?_⟩
  have uO:=Same.new (o:=.lst [.int 3,.int 40,.int 20,.int 6]) C6
  refine⟨_,rfl,Z2,_,_,.int (K6:Nat),rfl,rfl,.of af,HW,d,(K6:Int),rfl,d5.same uO,by omega,fun q H6 q0 q1 k6 d6=>?_⟩
  obtain⟨many,rfl⟩:=toN q0
  have nE:many≤39:=by omega
  dsimp only[aH]
  subst hY
  refine aI fun Y hY=>?_
  have rest:∀(m1:Nat) (ma nm:Addr) (ss:List Str) (bs:List Bool) (mv:List (List Nat)) (H1:Hp),m1≤3→H1 nm=some (.tup (ss.map V.str))→ss.length=m1→cy H1 ma nm bs mv→Moves bs.length (b ^ m1) mv→0<bs.length→bs.length≤50→(∀r,r<bs.length→bs.getD ((mv.getD r []).getD 0 0) false=bs.getD r false)→
    Y [some (.ref sa),some (.ref d),some (.int (b:Nat)),some (.int (m:Nat)),some (.ref ma),some (.int (many:Nat)),none,none,none,none,none,none,none,none,none,none,none,none,none] H1:=by
   clear DA HW JJ MG four em K7 hno dZ h0 h8 i4 lW k5 k6 d5 d6 Aj uO z4 k4 d4
   clear k3 d3 k2 d2 d1 s1
   intro m1 ma nm ss bs mv H1 hm1 i4 lW hma mo h0 hn hg'
   subst hY
   have hg:∀r,r<bs.length→yB bs (stp mv r 0)=yB bs r:=hg'
   have hst:∀r a,r<bs.length→a<b ^ m1→stp mv r a<bs.length:=fun r a h1 h2=>mo.stp h1 h2
   have oQ:=hma
   obtain⟨ya,va,ps,e1,e2,e3,tp⟩:=oQ
   have lps:ps.length=bs.length:=by rw[Paired.length tp,List.length_map,mo.len]
   have pI:0<b ^ m1:=Nat.pow_pos (by omega)
   have hB2:b ^ m1≤64:=Nat.le_trans (Nat.pow_le_pow_left hb4 _) (Nat.le_trans (Nat.pow_le_pow_right (show 0<4 by decide) hm1) (by decide))
   refine aI fun Y hY=>?_
   refine⟨_,rfl,ma,_,rfl,.of e1,rfl,_,_,rfl,_,_,rfl,_,_,rfl,rfl,?_⟩
   dsimp only[aH]
   subst hY
   refine aI fun Y hY=>?_
   refine⟨_,rfl,_,rfl,_,rfl,b,m1,many,ma,nm,ss.map V.str,bs,mv,rfl,by omega,hb4,by omega,hma,i4,by rw[List.length_map];exact lW,mo,h0,by omega,by omega,fun F qs K1 H2 hF s2 eF tF hS hK=>?_⟩
   generalize hws:(Nw (stp mv) (b ^ m1) (yB bs) K1).take many=ws at tF
   have oh:qs.length=ws.length:=by rw[Paired.length tF,List.length_map]
   have Ub:ws.length≤many:=by rw[←hws,List.length_take];omega
   have QT:∀w∈ws,w∈Nw (stp mv) (b ^ m1) (yB bs) K1:=fun w hw=>List.mem_of_mem_take (by rw[hws];exact hw)
   have HX:∀w∈ws,Lets (b ^ m1) w∧TopW w∧w.length≤10000∧yB bs (rn (stp mv) 0 w)=true:=fun w hw=>by
    obtain⟨a1,a2,a3,a4⟩:=uJ (QT w hw)
    exact⟨a2,a4,by omega,a3⟩
   dsimp only[aH]
   subst hY
   refine aI fun Y hY=>?_
   refine⟨_,rfl,V.ref F,_,"list",true,rfl,fk.lst eF,FL,true,rfl,cS ?_⟩
   refine⟨_,rfl,_,qs.length,rfl,.inl ⟨_,.of eF,by rw[List.length_map]⟩,_,rfl,_,_,rfl,rfl,_,rfl,?_⟩
   rw[show decide (((qs.length:Nat):Int)>((many:Nat):Int))=false from decide_eq_false (by omega)]
   refine cS (eA ?_)
   dsimp only
   subst hY
   refine aI fun Y hY=>?_
   refine⟨_,rfl,_,bs.length,rfl,.inr ⟨_,.of (s2 _ _ e3),by rw[List.length_map,lps]⟩,_,_,rfl,rfl,.inl ⟨by decide,by decide⟩,_,_,rfl,rfl,?_⟩
   have QU:(2:Int)*((bs.length:Nat):Int)+1=((2*bs.length+1:Nat):Int):=by omega
   dsimp only[aH]
   rw[QU]
   generalize hsp:2*bs.length+1=sp
   subst hY
   refine aI fun Y hY=>?_
   have pR:∀(l:Nat) (H3:Hp),l≤10000→(∀w∈ws,w.length≤l)→Same H2 H3→Y [some (.ref sa),some (.ref d),some (.int (b:Nat)),some (.int (m:Nat)),some (.ref ma),some (.int (many:Nat)),some (.ref nm),some (.ref ya),some (.ref va),some (.ref F),some (.int (sp:Nat)),some (.int (l:Nat)),none,none,none,none,none,none,none] H3:=by
    intro l H3 hl hwl s3
    subst hY
    refine aI fun Y hY=>?_
    have cW:=s2.trans s3
    have ep:(if(2:Int)*((sp:Nat):Int)>((l:Nat):Int) then(2:Int)*((sp:Nat):Int) else((l:Nat):Int))=((max l (2*sp):Nat):Int):=by
     by_cases z:(2:Int)*((sp:Nat):Int)>((l:Nat):Int)
     ·rw[if_pos z];omega
     ·rw[if_neg z];omega
    refine⟨_,rfl,_,rfl,_,rfl,_,_,rfl,rfl,.inl ⟨by decide,by decide⟩,_,_,rfl,max l (2*sp),b ^ m1,ma,nm,bs,mv,?vs,hma.keep cW.kt,mo,h0,by omega,by omega,fun ca rs H4 s4 rL lrs rows=>?_⟩
    case vs=>
     show[V.ref ma,V.int (if(2:Int)*((sp:Nat):Int)>((l:Nat):Int) then(2:Int)*((sp:Nat):Int) else((l:Nat):Int))]=_
     rw[ep]
    have kH:=cW.trans s4
    have oo:=s3.trans s4
    dsimp only[aH]
    subst hY
    refine aI fun Y hY=>?_
    refine⟨_,rfl,F,rfl,⟨_,.of (oo _ _ eF)⟩,oz (xs:=qs.map V.ref) (fun j σ H'=>∃lX iK mj pX:Option V,σ=[some (.ref sa),some (.ref d),some (.int (b:Nat)),some (.int (m:Nat)),some (.ref ma),some (.int (many:Nat)),some (.ref nm),some (.ref ya),some (.ref va),some (.ref F),some (.int (sp:Nat)),some (.int (l:Nat)),some (.ref ca),lX,iK,mj,pX,none,none]∧Same H4 H')
     ⟨none,none,none,none,rfl,.refl _⟩ (fun j σ H' _ ⟨_,_,_,_,_,s'⟩=>.of (s' _ _ (oo _ _ eF))) ?_ ?_⟩
    ·rintro j x pp σ H5 hx ⟨lX,iK,mj,pX,rfl,s5⟩ hpp
     obtain⟨q,rfl,eq⟩:=cV hx
     obtain⟨w,ew,eq'⟩:=vw tF eq
     obtain⟨w1,w2,w3,w4⟩:=HX w (List.mem_of_getElem? ew)
     have gZ:=Same.new (o:=.tup [.int (j:Nat),.ref q]) hpp
     have DB:=s5.trans gZ
     have xm:=oo.trans DB
     have kI:=kH.trans DB
     have K8:(upd H5 pp (.tup [.int (j:Nat),.ref q])) pp=some (.tup [.int (j:Nat),.ref q]):=af
     generalize upd H5 pp (.tup [.int (j:Nat),.ref q])=H6 at DB xm kI K8 ⊢
     have A4:=xm _ _ eq'
     have QV:(aZ b m1 w).length=m1:=fH w
     refine⟨pp,_,rfl,.of K8,rfl,_,_,rfl,_,_,rfl,rfl,?_⟩
     dsimp only[aH]
     refine aI fun Y2 dI=>?_
     refine⟨_,rfl,V.ref q,_,"tuple",true,rfl,fk.tup A4,FN,true,rfl,cS ?_⟩
     refine⟨_,rfl,_,m1,rfl,.inr ⟨_,.of A4,by rw[List.length_map,aA,QV]⟩,_,rfl,_,m1,rfl,.inr ⟨_,.of (kI _ _ i4),by rw[List.length_map,lW]⟩,rfl,_,rfl,?_⟩
     rw[show(!decide (V.int ((m1:Nat):Int)=V.int ((m1:Nat):Int)))=false by simp]
     refine cS (eA ?_)
     dsimp only
     subst dI
     refine aI fun Y2 dI=>?_
     refine⟨_,rfl,q,rfl,⟨_,.of A4⟩,ko (xs:=(aj (aZ b m1 w)).map V.int) (fun i σ H'=>∃mj:Option V,σ=[some (.ref sa),some (.ref d),some (.int (b:Nat)),some (.int (m:Nat)),some (.ref ma),some (.int (many:Nat)),some (.ref nm),some (.ref ya),some (.ref va),some (.ref F),some (.int (sp:Nat)),some (.int (l:Nat)),some (.ref ca),some (.int (j:Nat)),some (.ref q),mj,pX,none,none]∧H'=H6)
      ⟨mj,rfl,rfl⟩ (fun i σ H' _ ⟨_,_,e⟩=>by rw[e];exact .of A4) ?_ ?_⟩
     ·rintro i x σ H7 hx ⟨mj,rfl,rfl⟩
      obtain⟨c,rfl,ec⟩:=cx hx
      dsimp only[aH]
      refine⟨_,rfl,V.int (c:Nat),_,"int",true,rfl,fk.int _,FJ,true,rfl,cS ?_⟩
      refine⟨_,rfl,V.int (c:Nat),_,"bool",false,rfl,fk.int _,FK,false,rfl,cS ?_⟩
      refine⟨_,rfl,_,_,rfl,rfl,_,rfl,?_⟩
      rw[show decide (((c:Nat):Int)<0)=false from decide_eq_false (by omega)]
      exact cS ⟨some (.int (c:Nat)),rfl,rfl⟩
     rintro σ H7 ⟨Tq,rfl,rfl⟩
     show Y2 _ _
     subst dI
     refine aI fun Y2 dI=>?_
     refine⟨_,rfl,_,rfl,b,m1,q,w,rfl,by omega,hb4,by omega,A4,w1,w2,by omega,fun D H8 hD s8 eD=>?_⟩
     have mh:=kI.trans s8
     have HY:=DB.trans s8
     dsimp only[aH]
     subst dI
     have hrn:rn (stp mv) 0 w<bs.length:=j0 hst w h0 w1
     have QW:bs[rn (stp mv) 0 w]? =some true:=by
      rw[item_at false hrn];exact congrArg some w4
     refine⟨_,rfl,_,rfl,_,rfl,va,D,ps,mv,bs.length,b ^ m1,w,rfl,mh _ _ e3,tp.keep mh.kt,mo,h0,eD,w1,ya,_,_,.bl true,rfl,rfl,.of (mh _ _ e2),aD (by rw[List.getElem?_map,QW];rfl),true,rfl,cS ?_⟩
     refine⟨_,rfl,_,rfl,_,rfl,ma,nm,ca,D,bs,mv,b ^ m1,rs,w,rfl,hma.keep mh.kt,mo,h0,by omega,by omega,HY _ _ rL,rows.keep HY,eD,w1,?wl,by omega,fun H9 s9=>⟨_,rfl,rfl,_,rfl,?_⟩⟩
     case wl=>
      have:=hwl w (List.mem_of_getElem? ew)
      omega
     have QX:rk (stp mv) (b ^ m1) (yB bs) w=j:=ER (K:=K1) hst h0 pI hg (by
      have:((Nw (stp mv) (b ^ m1) (yB bs) K1).take many)[j]? =some w:=by rw[hws];exact ew
      rw[List.getElem?_take] at this
      split at this
      ·exact this
      ·cases this)
     rw[QX,show(!decide (V.int ((j:Nat):Int)=V.int ((j:Nat):Int)))=false by simp]
     exact cS ⟨_,_,_,_,rfl,HY.trans s9⟩
    rintro σ H5 ⟨lX,iK,mj,pX,rfl,s5⟩
    have md:=kH.trans s5
    have QY:=oo.trans s5
    show Y _ _
    subst hY
    refine aI fun Y hY=>?_
    have A5:∀p,(Fw (stp mv) (b ^ m1) p (yB bs)).length=(Nw (stp mv) (b ^ m1) (yB bs) p).length:=fun p=>(pE hst h0 pI hg p).symm
    have pS:∀(tv:V) (H6:Hp),Same H5 H6→((tv=.non∧(Nw (stp mv) (b ^ m1) (yB bs) sp).length<(Nw (stp mv) (b ^ m1) (yB bs) (2*sp)).length)∨(tv=.int ((Nw (stp mv) (b ^ m1) (yB bs) sp).length:Nat)∧¬(Nw (stp mv) (b ^ m1) (yB bs) sp).length<(Nw (stp mv) (b ^ m1) (yB bs) (2*sp)).length))→Y [some (.ref sa),some (.ref d),some (.int (b:Nat)),some (.int (m:Nat)),some (.ref ma),some (.int (many:Nat)),some (.ref nm),some (.ref ya),some (.ref va),some (.ref F),some (.int (sp:Nat)),some (.int (l:Nat)),some (.ref ca),lX,iK,mj,pX,some tv,none] H6:=by
     intro tv H6 s6 htv
     subst hY
     refine aI fun Y hY=>?_
     have kI:=md.trans s6
     have xm:=QY.trans s6
     have HZ:=xm _ _ eF
     have QZ:=tF.keep xm.kt
     refine⟨_,rfl,_,qs.length,rfl,.inl ⟨_,.of HZ,by rw[List.length_map]⟩,_,rfl,_,_,rfl,rfl,_,rfl,?_⟩
     have DC:Y [some (.ref sa),some (.ref d),some (.int (b:Nat)),some (.int (m:Nat)),some (.ref ma),some (.int (many:Nat)),some (.ref nm),some (.ref ya),some (.ref va),some (.ref F),some (.int (sp:Nat)),some (.int (l:Nat)),some (.ref ca),lX,iK,mj,pX,some tv,none] H6:=by
      subst hY
      refine aI fun Y hY=>?_
      have DD:∀(fv:V) (H7:Hp),Same H6 H7→((fv=.non∧∀k,Nw (stp mv) (b ^ m1) (yB bs) k=[])∨∃(p:Addr) (w:List Nat) (k:Nat),fv=.ref p∧H7 p=some (.tup ((aj (aZ b m1 w)).map V.int))∧(Nw (stp mv) (b ^ m1) (yB bs) k).head? =some w)→Y [some (.ref sa),some (.ref d),some (.int (b:Nat)),some (.int (m:Nat)),some (.ref ma),some (.int (many:Nat)),some (.ref nm),some (.ref ya),some (.ref va),some (.ref F),some (.int (sp:Nat)),some (.int (l:Nat)),some (.ref ca),lX,iK,mj,pX,some tv,some fv] H7:=by
       intro fv H7 s7 K9
       subst hY
       refine aI fun Y hY=>?_
       have Q_:=kI.trans s7
       have Uc:=xm.trans s7
       have La:=s7 _ _ HZ
       have Lb:=QZ.keep s7.kt
       have yD:∀(H8:Hp),Same H7 H8→Y [some (.ref sa),some (.ref d),some (.int (b:Nat)),some (.int (m:Nat)),some (.ref ma),some (.int (many:Nat)),some (.ref nm),some (.ref ya),some (.ref va),some (.ref F),some (.int (sp:Nat)),some (.int (l:Nat)),some (.ref ca),lX,iK,mj,pX,some tv,some fv] H8:=by
        intro H8 s8
        subst hY
        refine aI fun Y hY=>?_
        have mh:=Q_.trans s8
        have H_:=s8 _ _ La
        have Q0:=Lb.keep s8.kt
        have DE:Y [some (.ref sa),some (.ref d),some (.int (b:Nat)),some (.int (m:Nat)),some (.ref ma),some (.int (many:Nat)),some (.ref nm),some (.ref ya),some (.ref va),some (.ref F),some (.int (sp:Nat)),some (.int (l:Nat)),some (.ref ca),lX,iK,mj,pX,some tv,some fv] H8:=by
         subst hY
         refine aI fun Y hY=>?_
         refine⟨_,rfl,.inl ⟨rfl,_,.of H_⟩,by decide,fun e he=>?_⟩
         have se:=Same.new (o:=.tup []) he
         refine⟨F,_,_,rfl,rfl,se _ _ H_,by rw[List.length_map];omega,?_⟩
         have Q1:KB F H8 (upd (upd H8 e (.tup [])) F (.lst (qs.map V.ref++[.ref e]))):=se.kb.trans KB.write
         have kt9:cH H8 (upd (upd H8 e (.tup [])) F (.lst (qs.map V.ref++[.ref e]))):=se.kt.trans (cH.lst (se _ _ H_))
         have DF:(upd (upd H8 e (.tup [])) F (.lst (qs.map V.ref++[.ref e]))) F=some (.lst (qs.map V.ref++[.ref e])):=af
         have vz:=(hma.keep mh.kt).keep kt9
         have qF:=kt9 _ _ (mh _ _ i4)
         have DG:=Q0.keep kt9
         have Ia:∀(a:Addr) (xs:List V),H1 a=some (.tup xs)→(upd (upd H8 e (.tup [])) F (.lst (qs.map V.ref++[.ref e]))) a=some (.tup xs):=fun a xs ea=>kt9 _ _ (mh _ _ ea)
         have Lc:=(tp.keep mh.kt).keep kt9
         generalize upd (upd H8 e (.tup [])) F (.lst (qs.map V.ref++[.ref e]))=H9 at Q1 kt9 DF vz qF DG Ia Lc ⊢
         show Y _ _
         subst hY
         refine aI fun Y hY=>?_
         have eh:((many:Nat):Int) / 2=((many / 2:Nat):Int):=by omega
         refine⟨_,rfl,_,rfl,_,rfl,_,_,rfl,rfl,⟨by decide,by decide⟩,b,m1,many / 2,ma,nm,ss.map V.str,bs,mv,?vs,by omega,hb4,by omega,vz,qF,by rw[List.length_map];exact lW,mo,h0,by omega,by omega,fun F2 Ud K2 Ha Ue Ld Q2 Le hS2 Ug=>?_⟩
         case vs=>
          show[V.int b,.ref ma,.int (((many:Nat):Int) / 2)]=_
          rw[eh]
         have Q3:=Ld _ _ DF
         refine⟨_,rfl,_,rfl,_,rfl,F,_,rfl,.of Q3,fun p1 hp1=>?_⟩
         rw[oV]
         have Ib:=Same.new (o:=.lst (qs.map V.ref)) hp1
         refine⟨_,rfl,_,_,rfl,rfl,⟨by decide,by decide⟩,_,rfl,p1,_,rfl,.of af,fun p2 hp2=>?_⟩
         rw[eh,jC,←List.map_take]
         have Ic:=Same.new (o:=.lst ((qs.take (many / 2)).map V.ref)) hp2
         have A6:=(Ld.trans Ib).trans Ic
         have Q4:(Nw (stp mv) (b ^ m1) (yB bs) K2).take (many / 2)=ws.take (many / 2):=by
          rw[←hws]
          exact fh.agree hS2 hS (by omega)
         rw[Q4] at Le
         have tq:=j5 (many / 2) DG
         rw[←List.map_take] at tq
         refine vx ((Ib.trans Ic) _ _ Q2) (Le.keep (Ib.trans Ic).kt) af (tq.keep A6.kt) ⟨_,rfl,cS (eA ?_)⟩
         generalize upd (upd Ha p1 (.lst (qs.map V.ref))) p2 (.lst ((qs.take (many / 2)).map V.ref))=Hb at A6 ⊢
         show Y _ _
         subst hY
         refine aI fun Y hY=>?_
         have et:((many:Nat):Int)+3=((many+3:Nat):Int):=by omega
         refine⟨_,rfl,_,rfl,_,rfl,_,_,rfl,rfl,b,m1,many+3,ma,nm,ss.map V.str,bs,mv,?vs2,by omega,hb4,by omega,vz.keep A6.kt,A6 _ _ qF,by rw[List.length_map];exact lW,mo,h0,by omega,by omega,fun F3 Lf K3 Hc Uh Q5 Q6 Q7 Q8 Ui=>?_⟩
         case vs2=>
          show[V.int b,.ref ma,.int (((many:Nat):Int)+3)]=_
          rw[et]
         have Lg:=A6.trans Q5
         refine⟨_,rfl,_,rfl,F3,_,rfl,.of Q6,fun p3 hp3=>?_⟩
         rw[jC,←List.map_take]
         have Ie:=Same.new (o:=.lst ((Lf.take many).map V.ref)) hp3
         refine⟨_,rfl,_,rfl,_,rfl,F,_,rfl,.of ((Lg.trans Ie) _ _ DF),fun p4 Q9=>?_⟩
         rw[oV]
         have Ig:=Same.new (o:=.lst (qs.map V.ref)) Q9
         have A7:=(Lg.trans Ie).trans Ig
         have Ra:((Nw (stp mv) (b ^ m1) (yB bs) K3).take (many+3)).take many=ws:=by
          rw[←hws]
          exact(fh.agree hS Q8 (by omega)).symm
         have Lh:=j5 many Q7
         rw[←List.map_take,Ra] at Lh
         refine vx (Ig _ _ af) ((Lh.keep Ie.kt).keep Ig.kt) af (DG.keep A7.kt) ⟨_,rfl,cS (eA ?_)⟩
         generalize upd (upd Hc p3 (.lst ((Lf.take many).map V.ref))) p4 (.lst (qs.map V.ref))=He at A7 ⊢
         show Y _ _
         subst hY
         refine⟨_,rfl,_,rfl,_,rfl,b,m1,many,ma,nm,ss.map V.str,bs,mv,rfl,by omega,hb4,by omega,vz.keep A7.kt,A7 _ _ qF,by rw[List.length_map];exact lW,mo,h0,by omega,by omega,fun F4 Uj K4 Hf Uk Rb Rc Lj Rf Ul=>?_⟩
         have Lk:=A7.trans Rb
         refine⟨_,rfl,_,rfl,_,rfl,F,_,rfl,.of (Lk _ _ DF),fun p5 Rg=>?_⟩
         rw[oV]
         have Ih:=Same.new (o:=.lst (qs.map V.ref)) Rg
         have Ii:=Lk.trans Ih
         have Rh:(Nw (stp mv) (b ^ m1) (yB bs) K4).take many=ws:=by
          rw[←hws]
          have:=fh.agree Rf hS (Nat.le_refl _)
          rw[this,List.take_take,Nat.min_self]
         rw[Rh] at Lj
         refine⟨_,_,ny (.of (Ih _ _ Rc)) (iN (Lj.keep Ih.kt)),ny (.of af) (iN (DG.keep Ii.kt)),rfl,rfl,xl b m1 ws,?_⟩
         rw[if_neg (by decide),Dt.beq_refl]
         refine⟨true,rfl,oy ?_⟩
         generalize upd Hf p5 (.lst (qs.map V.ref))=Hg at Ii ⊢
         refine⟨_,rfl,_,rfl,_,rfl,_,rfl,by show 3≤sizeLine;omega,fun W hW=>?_⟩
         have sW:=Same.new (o:=.tup [.ref nm,.ref ya,.ref va]) hW
         have xn:=Ii.trans sW
         refine⟨mZ ss bs mv,mZ ss bs mv,(vz.keep xn.kt).dat (xn _ _ qF),cy.dat ⟨ya,va,ps,af,xn _ _ (Ia _ _ e2),xn _ _ (Ia _ _ e3),Lc.keep xn.kt⟩ (xn _ _ qF),rfl,rfl,Cm ss bs mv,?_⟩
         rw[if_neg (by decide),Dt.beq_refl]
         exact k _
        refine⟨_,rfl,rfl,_,rfl,?_⟩
        refine cG (fun z=>?_) (fun z=>cS (eA DE))
        refine⟨_,rfl,rfl,_,rfl,(by rcases htv with⟨rfl,_⟩ | ⟨rfl,_⟩<;>rfl),rfl,_,rfl,?_⟩
        have hmn:many=0:=by
         have:=of_decide_eq_true z
         have:=V.int.inj this
         omega
        have same:decide (fv=V.non)=decide (tv=V.int 0):=by
         rcases K9 with⟨rfl,hall⟩ | ⟨p,w,k,rfl,hp,hw⟩
         ·rcases htv with⟨rfl,hlt⟩ | ⟨rfl,_⟩
          ·rw[hall,hall] at hlt;exact absurd hlt (Nat.lt_irrefl _)
          ·rw[hall];rfl
         ·have hne:Nw (stp mv) (b ^ m1) (yB bs) sp≠[]:=A0 hst h0 (by omega) (k:=k) fun z=>by rw[z] at hw;cases hw
          have hpos:=List.length_pos_iff.mpr hne
          rw[decide_eq_false (fun z=>nomatch z:¬V.ref p=V.non)]
          refine(decide_eq_false fun z=>?_).symm
          rcases htv with⟨rfl,_⟩ | ⟨rfl,_⟩
          ·cases z
          ·have:=V.int.inj z
           omega
        rw[same,show(!decide (V.bl (decide (tv=V.int 0))=V.bl (decide (tv=V.int 0))))=false by simp]
        exact cS (eA DE)
       refine⟨_,rfl,_,_,rfl,rfl,_,rfl,?_⟩
       refine cG (fun z=>?_) (fun z=>cS (eA (yD H7 (.refl _))))
       have hmp:0<many:=by have:=of_decide_eq_true z;omega
       refine⟨_,rfl,_,rfl,by show 1≤sizeLine;omega,fun N hN=>?_⟩
       have sN:=Same.new (o:=.lst [.non]) hN
       refine⟨F,N,_,_,rfl,rfl,sN _ _ La,af,by rw[List.length_map];show qs.length+1≤_;omega,fun G hG=>?_⟩
       have sG:=Same.new (o:=.lst (qs.map V.ref++[.non])) hG
       have A8:=sN.trans sG
       have eG:(upd (upd H7 N (.lst [.non])) G (.lst (qs.map V.ref++[.non]))) G=some (.lst (qs.map V.ref++[.non])):=af
       generalize upd (upd H7 N (.lst [.non])) G (.lst (qs.map V.ref++[.non]))=H9 at A8 eG ⊢
       rcases K9 with⟨rfl,hall⟩ | ⟨p,w,k,rfl,hp,hw⟩
       ·have hq0:qs=[]:=by
         have:ws=[]:=by rw[←hws,hall,List.take_nil]
         rw[this] at oh
         exact List.length_eq_zero_iff.mp oh
        refine⟨G,_,_,.non,rfl,rfl,.of eG,?_,.inl ⟨rfl,_,rfl,?_⟩⟩
        ·rw[hq0];rfl
        ·rw[show(!decide (V.non=V.non))=false by simp]
         exact cS (eA (yD H9 A8))
       ·obtain⟨ws',Ij⟩:=ES hS hmp hw
        rw[hws] at Ij
        cases Ik:qs with
        | nil=>rw[Ik,Ij] at oh;cases oh
        | cons q0 pM=>
         obtain⟨w',Ll,Ri⟩:=vw (j:=0) (q:=q0) Lb (by rw[Ik];rfl)
         rw[Ij] at Ll
         cases Ll
         refine⟨G,_,_,.ref q0,rfl,rfl,.of eG,?_,?_⟩
         ·rw[Ik];exact aD (j:=0) rfl
         ·refine ET (A8 _ _ hp) (A8 _ _ Ri) ⟨_,rfl,?_⟩
          exact cS (eA (yD H9 A8))
      refine⟨_,rfl,_,rfl,b,m1,ma,nm,ss.map V.str,bs,mv,rfl,by omega,hb4,by omega,hma.keep kI.kt,kI _ _ i4,by rw[List.length_map];exact lW,mo,h0,by omega,hg,fun H7 s7 hall=>?_,fun p w k H7 s7 hp hw=>?_⟩
      ·dsimp only[aH]
       exact DD .non H7 s7 (.inl ⟨rfl,hall⟩)
      ·dsimp only[aH]
       exact DD (.ref p) H7 s7 (.inr ⟨p,w,k,rfl,hp,hw⟩)
     refine cG (fun z=>?_) (fun z=>cS (eA DC))
     have hlt:qs.length<many:=by have:=of_decide_eq_true z;omega
     have hnw:(Nw (stp mv) (b ^ m1) (yB bs) K1).length=qs.length:=by
      rw[oh,←hws,List.length_take] at hlt ⊢
      omega
     have hnl:∀r,¬Ly (stp mv) (b ^ m1) (yB bs) K1 r:=by
      rcases hS with h | h
      ·omega
      ·exact h
     obtain⟨st1,st2⟩:=Ck hst h0 (sp:=sp) (by omega) hnl
     have Rj:tv=.int ((qs.length:Nat):Int):=by
      rcases htv with⟨_,h⟩ | ⟨h,_⟩
      ·omega
      ·rw[h,st1,hnw]
     subst Rj
     refine⟨_,rfl,_,rfl,_,qs.length,rfl,.inl ⟨_,.of HZ,by rw[List.length_map]⟩,rfl,_,rfl,?_⟩
     rw[show(!decide (V.int ((qs.length:Nat):Int)=V.int ((qs.length:Nat):Int)))=false by simp]
     exact cS (eA DC)
    refine⟨_,rfl,_,rfl,_,rfl,ma,nm,ca,bs,mv,b ^ m1,rs,sp,rfl,hma.keep md.kt,mo,h0,by omega,s5 _ _ rL,rows.keep s5,by omega,by omega,fun H6 s6 hlt=>?_,fun H6 s6 hlt=>?_⟩
    ·dsimp only[aH]
     rw[A5,A5] at hlt
     exact pS .non H6 s6 (.inl ⟨rfl,hlt⟩)
    ·dsimp only[aH]
     rw[A5,A5] at hlt
     rw[A5]
     exact pS _ H6 s6 (.inr ⟨rfl,hlt⟩)
   refine⟨_,rfl,F,rfl,⟨_,.of eF⟩,fun L hL=>?_⟩
   refine ft (xs:=qs.map V.ref) (fun j σ H'=>∃v:Option V,σ=[v,some (.int (b:Nat))]∧Same H2 H'∧H' L=some (.lst ((aj ((ws.take j).map List.length)).map V.int)))
    ⟨none,?sg,Same.new hL,af⟩ (fun j σ H' _ ⟨_,_,s',_⟩=>.of (s' _ _ eF)) ?_ ?_
   case sg=>rfl
   ·rintro j x σ H3 hx ⟨v,rfl,s3,l3⟩
    obtain⟨q,rfl,eq⟩:=cV hx
    obtain⟨w,ew,eq'⟩:=vw tF eq
    have hj:=(List.getElem?_eq_some_iff.mp ew).1
    obtain⟨w1,w2,w3,w4⟩:=HX w (List.mem_of_getElem? ew)
    refine⟨_,rfl,_,rfl,b,m1,q,w,rfl,by omega,hb4,by omega,s3 _ _ eq',w1,w2,by omega,fun D H4 hD s4 eD=>?_⟩
    refine⟨_,w.length,rfl,.inl ⟨_,.of eD,by rw[List.length_map,aA]⟩,_,s4 _ _ l3,?_,_,rfl,(s3.trans s4).kbn hL KB.write,?_⟩
    ·rw[List.length_map,aA,List.length_map,List.length_take];omega
    ·rw[af,take_snoc ew,List.map_append,bt,List.map_append];rfl
   rintro σ H3 ⟨v,rfl,s3,l3⟩
   rw[List.length_map,oh,List.take_length] at l3
   refine⟨L,aj (ws.map List.length),.int 0,rfl,rfl,.of l3,fun z=>?_,fun mx h1 h2=>?_⟩
   ·have hw0:ws=[]:=by
     cases ws with
     | nil=>rfl
     | cons w ws=>cases z
    dsimp only[aH]
    exact pR 0 H3 (by omega) (fun w hw=>by rw[hw0] at hw;cases hw) s3
   ·obtain⟨l,hl,rfl⟩:=List.mem_map.mp h1
    obtain⟨w,hw,rfl⟩:=List.mem_map.mp hl
    dsimp only[aH]
    refine pR w.length H3 (HX w hw).2.2.1 (fun u hu=>?_) s3
    have:=h2 ((u.length:Nat):Int) (List.mem_map.mpr ⟨u.length,List.mem_map.mpr ⟨u,hu,rfl⟩,rfl⟩)
    omega
  have wX:=(d5.same uO).ktu k6
  have MH:=uO.kt.trans wX
  refine⟨_,rfl,d,8,rfl,d6,by decide,fun c H7 c0 c1 k7 d7=>⟨rfl,_,rfl,?_⟩⟩
  have Lm:=MH.trans (d6.ktu k7)
  refine cG (fun z=>?_) (fun z=>?_)
  ·refine⟨_,rfl,_,rfl,d,b,rfl,d7,hb2,hb4,fun ma nm ss bs mv H8 k8 d8 e8 l8 Rk Rm Rn Ro Rp=>?_⟩
   dsimp only[aH]
   exact rest 1 ma nm ss bs mv H8 (by omega) e8 l8 Rk Rm Rn Ro Rp
  ·refine eA ?_
   dsimp only
   exact rest m ma nm ss bs mv H7 C0 (Lm _ _ i4) lW (K7.keep Lm) dZ h0 (by omega) hno
@[elab_as_elim] theorem A9 {P:List Value→Prop} (us:List Value) (e:us.length=1) (h:∀a,P [a]):P us:=by
 cases us with
 | nil=>cases e
 | cons a us=>cases us with
  | nil=>exact h a
  | cons _ _=>cases e
@[elab_as_elim] theorem ln2 {P:List Value→Prop} (us:List Value) (e:us.length=2) (h:∀a0 a1,P [a0,a1]):P us:=by
 cases us with
 | nil=>cases e
 | cons a us=>exact A9 (P:=fun z=>P (a::z)) us (Nat.succ.inj e) (h a)
@[elab_as_elim] theorem pY {P:List Value→Prop} (us:List Value) (e:us.length=3) (h:∀a0 a1 a2,P [a0,a1,a2]):P us:=by
 cases us with
 | nil=>cases e
 | cons a us=>exact ln2 (P:=fun z=>P (a::z)) us (Nat.succ.inj e) (h a)
@[elab_as_elim] theorem Ln {P:List Value→Prop} (us:List Value) (e:us.length=4) (h:∀a0 a1 a2 a3,P [a0,a1,a2,a3]):P us:=by
 cases us with
 | nil=>cases e
 | cons a us=>exact pY (P:=fun z=>P (a::z)) us (Nat.succ.inj e) (h a)
@[elab_as_elim] theorem Lo {P:List Value→Prop} (us:List Value) (e:us.length=5) (h:∀a0 a1 a2 a3 a4,P [a0,a1,a2,a3,a4]):P us:=by
 cases us with
 | nil=>cases e
 | cons a us=>exact Ln (P:=fun z=>P (a::z)) us (Nat.succ.inj e) (h a)
@[elab_as_elim] theorem Rq {P:List Value→Prop} (us:List Value) (e:us.length=6) (h:∀a0 a1 a2 a3 a4 a5,P [a0,a1,a2,a3,a4,a5]):P us:=by
 cases us with
 | nil=>cases e
 | cons a us=>exact Lo (P:=fun z=>P (a::z)) us (Nat.succ.inj e) (h a)
theorem all_mk {l:PySem.W.OpenLaw} {w:World} {K:PySem.W.Frag} {h:Heap} {mg:Str→Option Value} {fa:Addr} (X:K.In h) (G:h.Ns mainGlobals mg) (hfa:mg "law"=some (.ref fa))
  {f0:Addr} {Rr Rt:Option Addr} {Ru:Array (Option Value)} {Rv Rw Rx Ry Lp Rz:Value}
  {f1:Addr} {RA RB:Option Addr} {RC:Array (Option Value)} {RD RE RF RG Lq RH:Value}
  {f2:Addr} {RI RJ:Option Addr} {sl2:Array (Option Value)} {RK RL RM RN Lr RO:Value}
  {f3:Addr} {RP RQ:Option Addr} {RS:Array (Option Value)} {RT RU RV RW Ls RX:Value}
  {f4:Addr} {RY RZ:Option Addr} {R_:Array (Option Value)} {R0 R1 R3 R4 Lu R5:Value}
  {f5:Addr} {R6 R7:Option Addr} {Dj:Array (Option Value)} {R8 R9 Sb Sd Lv Se:Value}
  {f6:Addr} {Sf Sg:Option Addr} {Sh:Array (Option Value)} {Si Sj Sk Sl Lw Sm:Value}
  {f7:Addr} {Sn So:Option Addr} {Sq:Array (Option Value)} {Sr Ss Sv Sw Lx Sx:Value}
  {f8:Addr} {Sy Sz:Option Addr} {SA:Array (Option Value)} {SD SE SF SG Lz SH:Value}
  {f9:Addr} {SI SJ:Option Addr} {SK:Array (Option Value)} {SM SN SO SQ LA SR:Value}
  {kJ:Addr} {MI MJ:Option Addr} {MK:Array (Option Value)} {ML MM MN MO Il MP:Value}
  {f11:Addr} {MQ MR:Option Addr} {MS:Array (Option Value)} {MT MU MV MW Im MX:Value}
  {DH:Addr} {MY MZ:Option Addr} {M_:Array (Option Value)} {M0 M1 M3 M4 Io M5:Value}
  {DI:Addr} {M6 M7:Option Addr} {M8:Array (Option Value)} {M9 M' Na Nb Ip Nc:Value}
  {DJ:Addr} {Nd Nf:Option Addr} {Ng:Array (Option Value)} {Nh Ni Nj Nk Iq Nl:Value}
  {DK:Addr} {Nm Nn:Option Addr} {Np:Array (Option Value)} {Nq Nr Nt Nu Ir Nv:Value}
  {DL:Addr} {Nx Ny:Option Addr} {Nz:Array (Option Value)} {NA NB NC ND Iu NF:Value}
  {DM:Addr} {NG NH:Option Addr} {NI:Array (Option Value)} {NJ NK NL NM Iv NP:Value}
  {DN:Addr} {NQ NR:Option Addr} {NS:Array (Option Value)} {NT NU NV NW Iw NX:Value}
  {DP:Addr} {NY NZ:Option Addr} {N_:Array (Option Value)} {N0 N1 N3 N4 Iy N5:Value}
  {DQ:Addr} {N6 N7:Option Addr} {N8:Array (Option Value)} {N9 N' Oa Ob Iz Oc:Value}
  {DR:Addr} {Od Oe:Option Addr} {Og:Array (Option Value)} {Oh Oi Oj Ol IA Om:Value}
  {DS:Addr} {Oo Oq:Option Addr} {Ot:Array (Option Value)} {Ou Ov Ow Ox IB Oy:Value}
  {DT:Addr} {Oz OA:Option Addr} {OB:Array (Option Value)} {OC OD OE OG IC OH:Value}
  {DU:Addr} {OI OJ:Option Addr} {OL:Array (Option Value)} {OM OO OP OQ IE OS:Value}
  {DV:Addr} {OT OU:Option Addr} {OV:Array (Option Value)} {OW OX OY OZ IG O_:Value}
  {IH:Addr} {O0 II:Option Addr} {O1:Array (Option Value)} {O6 IJ IK IL Cs IM:Value}
  (a0:PySem.W.nsIn K mainGlobals "all_letters"=some (some (.ref f0))) (l0:K.lookup f0=some ⟨Rv,Rr,.func (PySem.W.fnOf "all_letters" "all_letters" (aV dm) (aT dm) (aq dm) .none Rw Rx Ry Rt Lp Rz),Ru⟩) (c0:PySem.W.codeIn K Lp "all_letters"=true) (k0:PySem.W.keepIn K (.ref f0)=true)
  (a1:PySem.W.nsIn K mainGlobals "rooms_before"=some (some (.ref f1))) (l1:K.lookup f1=some ⟨RD,RA,.func (PySem.W.fnOf "rooms_before" "rooms_before" (aV cU) (aT cU) (aq cU) .none RE RF RG RB Lq RH),RC⟩) (c1:PySem.W.codeIn K Lq "rooms_before"=true) (k1:PySem.W.keepIn K (.ref f1)=true)
  (a2:PySem.W.nsIn K mainGlobals "going_on"=some (some (.ref f2))) (l2:K.lookup f2=some ⟨RK,RI,.func (PySem.W.fnOf "going_on" "going_on" (aV eY) (aT eY) (aq eY) .none RL RM RN RJ Lr RO),sl2⟩) (c2:PySem.W.codeIn K Lr "going_on"=true) (k2:PySem.W.keepIn K (.ref f2)=true)
  (a3:PySem.W.nsIn K mainGlobals "rooms_into"=some (some (.ref f3))) (l3:K.lookup f3=some ⟨RT,RP,.func (PySem.W.fnOf "rooms_into" "rooms_into" (aV dD) (aT dD) (aq dD) .none RU RV RW RQ Ls RX),RS⟩) (c3:PySem.W.codeIn K Ls "rooms_into"=true) (k3:PySem.W.keepIn K (.ref f3)=true)
  (a4:PySem.W.nsIn K mainGlobals "noughts_of"=some (some (.ref f4))) (l4:K.lookup f4=some ⟨R0,RY,.func (PySem.W.fnOf "noughts_of" "noughts_of" (aV eP) (aT eP) (aq eP) .none R1 R3 R4 RZ Lu R5),R_⟩) (c4:PySem.W.codeIn K Lu "noughts_of"=true) (k4:PySem.W.keepIn K (.ref f4)=true)
  (a5:PySem.W.nsIn K mainGlobals "yes_rooms"=some (some (.ref f5))) (l5:K.lookup f5=some ⟨R8,R6,.func (PySem.W.fnOf "yes_rooms" "yes_rooms" (aV eI) (aT eI) (aq eI) .none R9 Sb Sd R7 Lv Se),Dj⟩) (c5:PySem.W.codeIn K Lv "yes_rooms"=true) (k5:PySem.W.keepIn K (.ref f5)=true)
  (a6:PySem.W.nsIn K mainGlobals "ends_of"=some (some (.ref f6))) (l6:K.lookup f6=some ⟨Si,Sf,.func (PySem.W.fnOf "ends_of" "ends_of" (aV fA) (aT fA) (aq fA) .none Sj Sk Sl Sg Lw Sm),Sh⟩) (c6:PySem.W.codeIn K Lw "ends_of"=true) (k6:PySem.W.keepIn K (.ref f6)=true)
  (a7:PySem.W.nsIn K mainGlobals "led_further"=some (some (.ref f7))) (l7:K.lookup f7=some ⟨Sr,Sn,.func (PySem.W.fnOf "led_further" "led_further" (aV dN) (aT dN) (aq dN) .none Ss Sv Sw So Lx Sx),Sq⟩) (c7:PySem.W.codeIn K Lx "led_further"=true) (k7:PySem.W.keepIn K (.ref f7)=true)
  (a8:PySem.W.nsIn K mainGlobals "with_letter"=some (some (.ref f8))) (l8:K.lookup f8=some ⟨SD,Sy,.func (PySem.W.fnOf "with_letter" "with_letter" (aV dn) (aT dn) (aq dn) .none SE SF SG Sz Lz SH),SA⟩) (c8:PySem.W.codeIn K Lz "with_letter"=true) (k8:PySem.W.keepIn K (.ref f8)=true)
  (a9:PySem.W.nsIn K mainGlobals "steps_into"=some (some (.ref f9))) (l9:K.lookup f9=some ⟨SM,SI,.func (PySem.W.fnOf "steps_into" "steps_into" (aV dE) (aT dE) (aq dE) .none SN SO SQ SJ LA SR),SK⟩) (c9:PySem.W.codeIn K LA "steps_into"=true) (k9:PySem.W.keepIn K (.ref f9)=true)
  (a10:PySem.W.nsIn K mainGlobals "longer_heads"=some (some (.ref kJ))) (l10:K.lookup kJ=some ⟨ML,MI,.func (PySem.W.fnOf "longer_heads" "longer_heads" (aV dB) (aT dB) (aq dB) .none MM MN MO MJ Il MP),MK⟩) (c10:PySem.W.codeIn K Il "longer_heads"=true) (k10:PySem.W.keepIn K (.ref kJ)=true)
  (a11:PySem.W.nsIn K mainGlobals "tuples_as_long"=some (some (.ref f11))) (l11:K.lookup f11=some ⟨MT,MQ,.func (PySem.W.fnOf "tuples_as_long" "tuples_as_long" (aV cm) (aT cm) (aq cm) .none MU MV MW MR Im MX),MS⟩) (c11:PySem.W.codeIn K Im "tuples_as_long"=true) (k11:PySem.W.keepIn K (.ref f11)=true)
  (a12:PySem.W.nsIn K mainGlobals "first_tuples"=some (some (.ref DH))) (l12:K.lookup DH=some ⟨M0,MY,.func (PySem.W.fnOf "first_tuples" "first_tuples" (aV cv) (aT cv) (aq cv) .none M1 M3 M4 MZ Io M5),M_⟩) (c12:PySem.W.codeIn K Io "first_tuples"=true) (k12:PySem.W.keepIn K (.ref DH)=true)
  (a13:PySem.W.nsIn K mainGlobals "first_step"=some (some (.ref DI))) (l13:K.lookup DI=some ⟨M9,M6,.func (PySem.W.fnOf "first_step" "first_step" (aV eQ) (aT eQ) (aq eQ) .none M' Na Nb M7 Ip Nc),M8⟩) (c13:PySem.W.codeIn K Ip "first_step"=true) (k13:PySem.W.keepIn K (.ref DI)=true)
  (a14:PySem.W.nsIn K mainGlobals "first_of"=some (some (.ref DJ))) (l14:K.lookup DJ=some ⟨Nh,Nd,.func (PySem.W.fnOf "first_of" "first_of" (aV dX) (aT dX) (aq dX) .none Ni Nj Nk Nf Iq Nl),Ng⟩) (c14:PySem.W.codeIn K Iq "first_of"=true) (k14:PySem.W.keepIn K (.ref DJ)=true)
  (a15:PySem.W.nsIn K mainGlobals "_law_mixed"=some (some (.ref DK))) (l15:K.lookup DK=some ⟨Nq,Nm,.func (PySem.W.fnOf "_law_mixed" "_law_mixed" (aV gF) (aT gF) (aq gF) .none Nr Nt Nu Nn Ir Nv),Np⟩) (c15:PySem.W.codeIn K Ir "_law_mixed"=true) (k15:PySem.W.keepIn K (.ref DK)=true)
  (a16:PySem.W.nsIn K mainGlobals "_law_deck"=some (some (.ref DL))) (l16:K.lookup DL=some ⟨NA,Nx,.func (PySem.W.fnOf "_law_deck" "_law_deck" (aV gB) (aT gB) (aq gB) .none NB NC ND Ny Iu NF),Nz⟩) (c16:PySem.W.codeIn K Iu "_law_deck"=true) (k16:PySem.W.keepIn K (.ref DL)=true)
  (a17:PySem.W.nsIn K mainGlobals "_law_next"=some (some (.ref DM))) (l17:K.lookup DM=some ⟨NJ,NG,.func (PySem.W.fnOf "_law_next" "_law_next" (aV hJ) (aT hJ) (aq hJ) .none NK NL NM NH Iv NP),NI⟩) (c17:PySem.W.codeIn K Iv "_law_next"=true) (k17:PySem.W.keepIn K (.ref DM)=true)
  (a18:PySem.W.nsIn K mainGlobals "_law_machine"=some (some (.ref DN))) (l18:K.lookup DN=some ⟨NT,NQ,.func (PySem.W.fnOf "_law_machine" "_law_machine" (aV dA) (aT dA) (aq dA) .none NU NV NW NR Iw NX),NS⟩) (c18:PySem.W.codeIn K Iw "_law_machine"=true) (k18:PySem.W.keepIn K (.ref DN)=true)
  (a19:PySem.W.nsIn K mainGlobals "_law_machine_names"=some (some (.ref DP))) (l19:K.lookup DP=some ⟨N0,NY,.func (PySem.W.fnOf "_law_machine_names" "_law_machine_names" (aV bY) (aT bY) (aq bY) .none N1 N3 N4 NZ Iy N5),N_⟩) (c19:PySem.W.codeIn K Iy "_law_machine_names"=true) (k19:PySem.W.keepIn K (.ref DP)=true)
  (a20:PySem.W.nsIn K mainGlobals "_law_letters"=some (some (.ref DQ))) (l20:K.lookup DQ=some ⟨N9,N6,.func (PySem.W.fnOf "_law_letters" "_law_letters" (aV eJ) (aT eJ) (aq eJ) .none N' Oa Ob N7 Iz Oc),N8⟩) (c20:PySem.W.codeIn K Iz "_law_letters"=true) (k20:PySem.W.keepIn K (.ref DQ)=true)
  (a21:PySem.W.nsIn K mainGlobals "_law_run"=some (some (.ref DR))) (l21:K.lookup DR=some ⟨Oh,Od,.func (PySem.W.fnOf "_law_run" "_law_run" (aV jc) (aT jc) (aq jc) .none Oi Oj Ol Oe IA Om),Og⟩) (c21:PySem.W.codeIn K IA "_law_run"=true) (k21:PySem.W.keepIn K (.ref DR)=true)
  (a22:PySem.W.nsIn K mainGlobals "_law_counts"=some (some (.ref DS))) (l22:K.lookup DS=some ⟨Ou,Oo,.func (PySem.W.fnOf "_law_counts" "_law_counts" (aV fK) (aT fK) (aq fK) .none Ov Ow Ox Oq IB Oy),Ot⟩) (c22:PySem.W.codeIn K IB "_law_counts"=true) (k22:PySem.W.keepIn K (.ref DS)=true)
  (a23:PySem.W.nsIn K mainGlobals "_law_ring"=some (some (.ref DT))) (l23:K.lookup DT=some ⟨OC,Oz,.func (PySem.W.fnOf "_law_ring" "_law_ring" (aV gC) (aT gC) (aq gC) .none OD OE OG OA IC OH),OB⟩) (c23:PySem.W.codeIn K IC "_law_ring"=true) (k23:PySem.W.keepIn K (.ref DT)=true)
  (a24:PySem.W.nsIn K mainGlobals "_law_rank"=some (some (.ref DU))) (l24:K.lookup DU=some ⟨OM,OI,.func (PySem.W.fnOf "_law_rank" "_law_rank" (aV eZ) (aT eZ) (aq eZ) .none OO OP OQ OJ IE OS),OL⟩) (c24:PySem.W.codeIn K IE "_law_rank"=true) (k24:PySem.W.keepIn K (.ref DU)=true)
  (a25:PySem.W.nsIn K mainGlobals "_law_all"=some (some (.ref DV))) (l25:K.lookup DV=some ⟨OW,OT,.func (PySem.W.fnOf "_law_all" "_law_all" (aV hU) (aT hU) (aq hU) .none OX OY OZ OU IG O_),OV⟩) (c25:PySem.W.codeIn K IG "_law_all"=true) (k25:PySem.W.keepIn K (.ref DV)=true)
  (a26:PySem.W.nsIn K mainGlobals "law"=some (some (.ref IH))) (l26:K.lookup IH=some ⟨O6,O0,.func (PySem.W.fnOf "law" "law" (aV ix) (aT ix) (aq ix) .none IJ IK IL II Cs IM),O1⟩) (c26:PySem.W.codeIn K Cs "law"=true) (k26:PySem.W.keepIn K (.ref IH)=true)
  (z0:PySem.W.nsIn K mainGlobals "range"=some none)
  (z1:PySem.W.nsIn K mainGlobals "enumerate"=some none)
  (z2:PySem.W.nsIn K mainGlobals "list"=some none)
  (z3:PySem.W.nsIn K mainGlobals "tuple"=some none)
  (z4:PySem.W.nsIn K mainGlobals "reversed"=some none)
  (z5:PySem.W.nsIn K mainGlobals "min"=some none)
  (z6:PySem.W.nsIn K mainGlobals "dict"=some none)
  (z7:PySem.W.nsIn K mainGlobals "sorted"=some none)
  (z8:PySem.W.nsIn K mainGlobals "max"=some none)
  (z9:PySem.W.nsIn K mainGlobals "len"=some none)
  (z10:PySem.W.nsIn K mainGlobals "any"=some none)
  (z11:PySem.W.nsIn K mainGlobals "sum"=some none)
  (z12:PySem.W.nsIn K mainGlobals "int"=some none)
  (z13:PySem.W.nsIn K mainGlobals "abs"=some none)
  (z14:PySem.W.nsIn K mainGlobals "isinstance"=some none)
  (z15:PySem.W.nsIn K mainGlobals "zip"=some none)
  (z16:PySem.W.nsIn K mainGlobals "bool"=some none)
  :∃fd:FuncData,(∀(s:Shared) (v:Value),BindsTo s fd ⟨[v],[]⟩ [("_law_script",v)])∧∀base:Heap,K.In base→base.Ns mainGlobals mg→bR l.prog w K mg base dr 5 fa fd ["_law_script"] (sT K):=by
 have e:=hfa.symm.trans (PySem.W.mg_of X G a26)
 cases e
 have F0:=bC (st:=dm) l0 c0 k0
 have b0:=F0.binds (ps:=["base","many"]) fun _ _ _ _ _ _ us hl=>ln2 us hl fun _ _=>rfl
 have F1:=bC (st:=cU) l1 c1 k1
 have b1:=F1.binds (ps:=["machine","letters"]) fun _ _ _ _ _ _ us hl=>ln2 us hl fun _ _=>rfl
 have F2:=bC (st:=eY) l2 c2 k2
 have b2:=F2.binds (ps:=["machine","letters"]) fun _ _ _ _ _ _ us hl=>ln2 us hl fun _ _=>rfl
 have F3:=bC (st:=dD) l3 c3 k3
 have b3:=F3.binds (ps:=["moves","letter"]) fun _ _ _ _ _ _ us hl=>ln2 us hl fun _ _=>rfl
 have F4:=bC (st:=eP) l4 c4 k4
 have b4:=F4.binds (ps:=["machine"]) fun _ _ _ _ _ _ us hl=>A9 us hl fun _=>rfl
 have F5:=bC (st:=eI) l5 c5 k5
 have b5:=F5.binds (ps:=["machine"]) fun _ _ _ _ _ _ us hl=>A9 us hl fun _=>rfl
 have F6:=bC (st:=fA) l6 c6 k6
 have b6:=F6.binds (ps:=["machine"]) fun _ _ _ _ _ _ us hl=>A9 us hl fun _=>rfl
 have F7:=bC (st:=dN) l7 c7 k7
 have b7:=F7.binds (ps:=["machine","rooms","let"]) fun _ _ _ _ _ _ us hl=>pY us hl fun _ _ _=>rfl
 have F8:=bC (st:=dn) l8 c8 k8
 have b8:=F8.binds (ps:=["base","numbers","letter"]) fun _ _ _ _ _ _ us hl=>pY us hl fun _ _ _=>rfl
 have F9:=bC (st:=dE) l9 c9 k9
 have b9:=F9.binds (ps:=["into","rooms","there"]) fun _ _ _ _ _ _ us hl=>pY us hl fun _ _ _=>rfl
 have F10:=bC (st:=dB) l10 c10 k10
 have b10:=F10.binds (ps:=["base","letters","into","there","heads","many"]) fun _ _ _ _ _ _ us hl=>Rq us hl fun _ _ _ _ _ _=>rfl
 have F11:=bC (st:=cm) l11 c11 k11
 have SS:=F11.binds (ps:=["base","machine","into","reached","many"]) fun _ _ _ _ _ _ us hl=>Lo us hl fun _ _ _ _ _=>rfl
 have F12:=bC (st:=cv) l12 c12 k12
 have SU:=F12.binds (ps:=["base","machine","many"]) fun _ _ _ _ _ _ us hl=>pY us hl fun _ _ _=>rfl
 have F13:=bC (st:=eQ) l13 c13 k13
 have SV:=F13.binds (ps:=["machine","rooms","there"]) fun _ _ _ _ _ _ us hl=>pY us hl fun _ _ _=>rfl
 have F14:=bC (st:=dX) l14 c14 k14
 have SW:=F14.binds (ps:=["base","machine"]) fun _ _ _ _ _ _ us hl=>ln2 us hl fun _ _=>rfl
 have F15:=bC (st:=gF) l15 c15 k15
 have SX:=F15.binds (ps:=["_law_cell","_law_k"]) fun _ _ _ _ _ _ us hl=>ln2 us hl fun _ _=>rfl
 have F16:=bC (st:=gB) l16 c16 k16
 have SY:=F16.binds (ps:=["_law_script"]) fun _ _ _ _ _ _ us hl=>A9 us hl fun _=>rfl
 have F17:=bC (st:=hJ) l17 c17 k17
 have S_:=F17.binds (ps:=["_law_deck_here","_law_many"]) fun _ _ _ _ _ _ us hl=>ln2 us hl fun _ _=>rfl
 have F18:=bC (st:=dA) l18 c18 k18
 have S0:=F18.binds (ps:=["_law_deck_here","_law_base","_law_most","_law_many"]) fun _ _ _ _ _ _ us hl=>Ln us hl fun _ _ _ _=>rfl
 have F19:=bC (st:=bY) l19 c19 k19
 have S1:=F19.binds (ps:=["_law_deck_here","_law_many"]) fun _ _ _ _ _ _ us hl=>ln2 us hl fun _ _=>rfl
 have F20:=bC (st:=eJ) l20 c20 k20
 have S2:=F20.binds (ps:=["_law_base","_law_numbers"]) fun _ _ _ _ _ _ us hl=>ln2 us hl fun _ _=>rfl
 have F21:=bC (st:=jc) l21 c21 k21
 have S3:=F21.binds (ps:=["_law_moves","_law_room","_law_some"]) fun _ _ _ _ _ _ us hl=>pY us hl fun _ _ _=>rfl
 have F22:=bC (st:=fK) l22 c22 k22
 have S4:=F22.binds (ps:=["_law_machine_here","_law_places"]) fun _ _ _ _ _ _ us hl=>ln2 us hl fun _ _=>rfl
 have F23:=bC (st:=gC) l23 c23 k23
 have S5:=F23.binds (ps:=["_law_deck_here","_law_base"]) fun _ _ _ _ _ _ us hl=>ln2 us hl fun _ _=>rfl
 have F24:=bC (st:=eZ) l24 c24 k24
 have S6:=F24.binds (ps:=["_law_machine_here","_law_counts_here","_law_some"]) fun _ _ _ _ _ _ us hl=>pY us hl fun _ _ _=>rfl
 have F25:=bC (st:=hU) l25 c25 k25
 have S7:=F25.binds (ps:=["_law_machine_here","_law_counts_here","_law_span"]) fun _ _ _ _ _ _ us hl=>pY us hl fun _ _ _=>rfl
 have F26:=bC (st:=ix) l26 c26 k26
 have T:Txt K mg ⟨f0,_,f1,_,f2,_,f3,_,f4,_,f5,_,f6,_,f7,_,f8,_,f9,_,kJ,_,f11,_,DH,_,DI,_,DJ,_,DK,_,DL,_,DM,_,DN,_,DP,_,DQ,_,DR,_,DS,_,DT,_,DU,_,DV,_,fa,_⟩:=⟨F0,PySem.W.mg_of X G a0,k0,b0,F1,PySem.W.mg_of X G a1,k1,b1,F2,PySem.W.mg_of X G a2,k2,b2,F3,PySem.W.mg_of X G a3,k3,b3,F4,PySem.W.mg_of X G a4,k4,b4,F5,PySem.W.mg_of X G a5,k5,b5,F6,PySem.W.mg_of X G a6,k6,b6,F7,PySem.W.mg_of X G a7,k7,b7,F8,PySem.W.mg_of X G a8,k8,b8,F9,PySem.W.mg_of X G a9,k9,b9,F10,PySem.W.mg_of X G a10,k10,b10,F11,PySem.W.mg_of X G a11,k11,SS,F12,PySem.W.mg_of X G a12,k12,SU,F13,PySem.W.mg_of X G a13,k13,SV,F14,PySem.W.mg_of X G a14,k14,SW,F15,PySem.W.mg_of X G a15,k15,SX,F16,PySem.W.mg_of X G a16,k16,SY,F17,PySem.W.mg_of X G a17,k17,S_,F18,PySem.W.mg_of X G a18,k18,S0,F19,PySem.W.mg_of X G a19,k19,S1,F20,PySem.W.mg_of X G a20,k20,S2,F21,PySem.W.mg_of X G a21,k21,S3,F22,PySem.W.mg_of X G a22,k22,S4,F23,PySem.W.mg_of X G a23,k23,S5,F24,PySem.W.mg_of X G a24,k24,S6,F25,PySem.W.mg_of X G a25,k25,S7,F26,PySem.W.mg_of X G a26,PySem.W.mg_none_of X G z0,PySem.W.mg_none_of X G z1,PySem.W.mg_none_of X G z2,PySem.W.mg_none_of X G z3,PySem.W.mg_none_of X G z4,PySem.W.mg_none_of X G z5,PySem.W.mg_none_of X G z6,PySem.W.mg_none_of X G z7,PySem.W.mg_none_of X G z8,PySem.W.mg_none_of X G z9,PySem.W.mg_none_of X G z10,PySem.W.mg_none_of X G z11,PySem.W.mg_none_of X G z12,PySem.W.mg_none_of X G z13,PySem.W.mg_none_of X G z14,PySem.W.mg_none_of X G z15,PySem.W.mg_none_of X G z16⟩
 exact⟨PySem.W.fnOf "law" "law" (aV ix) (aT ix) (aq ix) .none IJ IK IL II Cs IM,fun s v=>.of_eq rfl,fun base _ _=>HV T⟩
theorem walk {l:PySem.W.OpenLaw} {q:Program} {loose:List Str} {XP:(Str→Option Value)→Heap→Prop} {YP:World→Heap→Prop} {d:DefRec} {K:Params→PySem.W.Frag} (hn:l.most=some 63) (hdf:d.params.defaults=[])
  (hY:∀(w:World) (h:Heap),YP w h→(K w.params).In h)
  (F:∀(w:World) (mg:Str→Option Value) (fa:Addr) (h:Heap),(K w.params).In h→h.Ns mainGlobals mg→mg d.name=some (.ref fa)→
   ∃fd:FuncData,(∀(s:Shared) (u:Value),BindsTo s fd ⟨[u],[]⟩ [("_law_script",u)])∧∀base:Heap,(K w.params).In base→base.Ns mainGlobals mg→bR l.prog w (K w.params) mg base dr 5 fa fd ["_law_script"] (sT (K w.params))):
  PySem.W.WalkO q loose XP YP l.row.toRowW d [] (fun f vs=>PySem.call f vs):=
 L2.D5 (n:=63) (k:=5) (x:="_law_script") (CX:=fun _=>dr) (sp:=fun w=>sT (K w.params)) hn (by decide) hdf ⟨rfl,by decide,by decide,rfl⟩ hY F (fun _ _ a ns hl _ hS=>⟨a,ns,rfl,hS,hl,fun _=>rfl⟩) fun _ _ _ _ _ z=>z
end
end My
namespace PySem.W.Fast
theorem tw3787693354149055546 : True := trivial
theorem tw15114728090057694211 : True := trivial
theorem tw15117677116635239619 : True := trivial
theorem tw3954236758763864939 : True := trivial
theorem tw3262091816001349391 : True := trivial
theorem tw1884672540073510292 : True := trivial
theorem tw3566729113378386706 : True := trivial
theorem tw11781770968257694501 : True := trivial
theorem tw5428459352651128024 : True := trivial
theorem tw9310733192673795204 : True := trivial
theorem tw7872070253821874616 : True := trivial
theorem tw14387132339424084941 : True := trivial
theorem tw16303488936345647405 : True := trivial
theorem tw16132570469211046813 : True := trivial
theorem tw3136489683919547656 : True := trivial
theorem tw6063429495331921197 : True := trivial
theorem tw5610105125215163127 : True := trivial
theorem tw9843182755774350308 : True := trivial
theorem tw7492399296635764457 : True := trivial
theorem tw11794707158359968720 : True := trivial
theorem tw3242393408700704871 : True := trivial
theorem tw3221271144692098124 : True := trivial
theorem tw2169448746658436364 : True := trivial
theorem tw16017373918295069019 : True := trivial
theorem tw4502887015628456126 : True := trivial
theorem tw854880528115478653 : True := trivial
theorem tw12413753046974975386 : True := trivial
theorem tw8945355028741725942 : True := trivial
theorem tw5115806843929844135 : True := trivial
theorem tw8422436796748316167 : True := trivial
theorem tw11928561420875036734 : True := trivial
theorem tw11599653605111384883 : True := trivial
theorem tw12967701984355995898 : True := trivial
theorem tw7238376956200027728 : True := trivial
theorem tw7221797959986181582 : True := trivial
theorem tw217199440286007726 : True := trivial
theorem tw5650313495953488 : True := trivial
theorem tw9419902722343159221 : True := trivial
theorem tw5533514133715436735 : True := trivial
theorem tw5691026056558529186 : True := trivial
theorem tw6791524055813106535 : True := trivial
theorem tw12789437443850749903 : True := trivial
theorem tw15918291210323597649 : True := trivial
theorem tw10878552181221393270 : True := trivial
theorem tw17360704836742695241 : True := trivial
theorem tw15552977608623951036 : True := trivial
theorem tw3084892008932573733 : True := trivial
theorem tw14175488987974968915 : True := trivial
theorem tw8247036043606610915 : True := trivial
theorem tw10541794421554086342 : True := trivial
theorem tw2148545702492080555 : True := trivial
theorem tw6579892420379013047 : True := trivial
theorem tw2840224204912448729 : True := trivial
theorem tw3696991994399941746 : True := trivial
theorem tw1456498236285337402 : True := trivial
theorem tw1149161669036238904 : True := trivial
theorem tw15425789121858223954 : True := trivial
theorem tw4900650217538753663 : True := trivial
theorem tw14284123423434224021 : True := trivial
theorem tw17899588441547289645 : True := trivial
theorem tw11013027331576604660 : True := trivial
theorem tw12973402255047534872 : True := trivial
theorem tw8985493684366038174 : True := trivial
theorem tw16565346285967541117 : True := trivial
theorem tw9102232585317442163 : True := trivial
theorem tw8896014185518263679 : True := trivial
theorem tw3985105291286508119 : True := trivial
theorem tw14920056415265243644 : True := trivial
theorem tw3492760735879007064 : True := trivial
theorem tw17683051606862012166 : True := trivial
theorem tw1062325089905049816 : True := trivial
theorem tw7112089614518618817 : True := trivial
theorem tw1321046684480976554 : True := trivial
theorem tw15509945036019310874 : True := trivial
theorem tw15200343702139413318 : True := trivial
theorem tw10987242430099525194 : True := trivial
theorem tw11290394111862083472 : True := trivial
theorem tw11895772632507196019 : True := trivial
theorem tw12389710023590050062 : True := trivial
theorem tw557917045502555241 : True := trivial
end PySem.W.Fast
open PySem PySem.W PyProof.Rows
set_option maxRecDepth 100000 in
set_option maxHeartbeats 0 in
theorem PySem.Challenge.cw_figurejudge_k71_first_tuples_holds : PySem.Challenge.rw_figurejudge_k71_first_tuples.Holds := by
 w_on;o_law;k_head;(case hw=>w_witness2)
 k_fill
 refine My.walk (l:=PySem.Challenge.rw_figurejudge_k71_first_tuples) rfl rfl (fun w h Y=>PySem.W.kIn_of Y) ?F
 case F=>
  intro w mg fa h KX G hmg
  refine' My.all_mk KX G hmg ?a0 ?l0 ?c0 ?k0 ?a1 ?l1 ?c1 ?k1 ?a2 ?l2 ?c2 ?k2 ?a3 ?l3 ?c3 ?k3 ?a4 ?l4 ?c4 ?k4 ?a5 ?l5 ?c5 ?k5 ?a6 ?l6 ?c6 ?k6 ?a7 ?l7 ?c7 ?k7 ?a8 ?l8 ?c8 ?k8 ?a9 ?l9 ?c9 ?k9 ?a10 ?l10 ?c10 ?k10 ?a11 ?l11 ?c11 ?k11 ?a12 ?l12 ?c12 ?k12 ?a13 ?l13 ?c13 ?k13 ?a14 ?l14 ?c14 ?k14 ?a15 ?l15 ?c15 ?k15 ?a16 ?l16 ?c16 ?k16 ?a17 ?l17 ?c17 ?k17 ?a18 ?l18 ?c18 ?k18 ?a19 ?l19 ?c19 ?k19 ?a20 ?l20 ?c20 ?k20 ?a21 ?l21 ?c21 ?k21 ?a22 ?l22 ?c22 ?k22 ?a23 ?l23 ?c23 ?k23 ?a24 ?l24 ?c24 ?k24 ?a25 ?l25 ?c25 ?k25 ?a26 ?l26 ?c26 ?k26 ?z0 ?z1 ?z2 ?z3 ?z4 ?z5 ?z6 ?z7 ?z8 ?z9 ?z10 ?z11 ?z12 ?z13 ?z14 ?z15 ?z16
  (case a0=>k_is)
  (case l0=>k_is)
  (case c0=>k_is)
  (case k0=>k_is)
  (case a1=>k_is)
  (case l1=>k_is)
  (case c1=>k_is)
  (case k1=>k_is)
  (case a2=>k_is)
  (case l2=>k_is)
  (case c2=>k_is)
  (case k2=>k_is)
  (case a3=>k_is)
  (case l3=>k_is)
  (case c3=>k_is)
  (case k3=>k_is)
  (case a4=>k_is)
  (case l4=>k_is)
  (case c4=>k_is)
  (case k4=>k_is)
  (case a5=>k_is)
  (case l5=>k_is)
  (case c5=>k_is)
  (case k5=>k_is)
  (case a6=>k_is)
  (case l6=>k_is)
  (case c6=>k_is)
  (case k6=>k_is)
  (case a7=>k_is)
  (case l7=>k_is)
  (case c7=>k_is)
  (case k7=>k_is)
  (case a8=>k_is)
  (case l8=>k_is)
  (case c8=>k_is)
  (case k8=>k_is)
  (case a9=>k_is)
  (case l9=>k_is)
  (case c9=>k_is)
  (case k9=>k_is)
  (case a10=>k_is)
  (case l10=>k_is)
  (case c10=>k_is)
  (case k10=>k_is)
  (case a11=>k_is)
  (case l11=>k_is)
  (case c11=>k_is)
  (case k11=>k_is)
  (case a12=>k_is)
  (case l12=>k_is)
  (case c12=>k_is)
  (case k12=>k_is)
  (case a13=>k_is)
  (case l13=>k_is)
  (case c13=>k_is)
  (case k13=>k_is)
  (case a14=>k_is)
  (case l14=>k_is)
  (case c14=>k_is)
  (case k14=>k_is)
  (case a15=>k_is)
  (case l15=>k_is)
  (case c15=>k_is)
  (case k15=>k_is)
  (case a16=>k_is)
  (case l16=>k_is)
  (case c16=>k_is)
  (case k16=>k_is)
  (case a17=>k_is)
  (case l17=>k_is)
  (case c17=>k_is)
  (case k17=>k_is)
  (case a18=>k_is)
  (case l18=>k_is)
  (case c18=>k_is)
  (case k18=>k_is)
  (case a19=>k_is)
  (case l19=>k_is)
  (case c19=>k_is)
  (case k19=>k_is)
  (case a20=>k_is)
  (case l20=>k_is)
  (case c20=>k_is)
  (case k20=>k_is)
  (case a21=>k_is)
  (case l21=>k_is)
  (case c21=>k_is)
  (case k21=>k_is)
  (case a22=>k_is)
  (case l22=>k_is)
  (case c22=>k_is)
  (case k22=>k_is)
  (case a23=>k_is)
  (case l23=>k_is)
  (case c23=>k_is)
  (case k23=>k_is)
  (case a24=>k_is)
  (case l24=>k_is)
  (case c24=>k_is)
  (case k24=>k_is)
  (case a25=>k_is)
  (case l25=>k_is)
  (case c25=>k_is)
  (case k25=>k_is)
  (case a26=>k_is)
  (case l26=>k_is)
  (case c26=>k_is)
  (case k26=>k_is)
  (case z0=>k_is)
  (case z1=>k_is)
  (case z2=>k_is)
  (case z3=>k_is)
  (case z4=>k_is)
  (case z5=>k_is)
  (case z6=>k_is)
  (case z7=>k_is)
  (case z8=>k_is)
  (case z9=>k_is)
  (case z10=>k_is)
  (case z11=>k_is)
  (case z12=>k_is)
  (case z13=>k_is)
  (case z14=>k_is)
  (case z15=>k_is)
  (case z16=>k_is)
#print axioms PySem.Challenge.cw_figurejudge_k71_first_tuples_holds
