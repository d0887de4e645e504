import PyProof.Rows.All
import Wide.All
import OpenK.AllK
import Wide.FinOn
import Lean
import PyProof.EqAt
import PyProof.EqKinds
import PyProof.TupleCall
import PyProof.NeKinds
import PyProof.ListRange
import PyProof.Draws
import PyProof.Rows.SortStr
import KE.KDictSum
import KE.KEqDict
import KE.KDictOf
import KE.KRevSl
import PyProof.StrWalks
import PyProof.StrBlock2
import PyProof.SetKind
import PyProof.SetRoads
import PyProof.Rows.SetFrom
import PyProof.ReprRoads
import PyProof.ReprLen
import PyProof.NsDelKeeps
import PyProof.ListMulRoad
import PyProof.FactsAll.tuple_2
import KE.KLam
import KE.KNestM
import PyProof.AttrMissHeap
import PyProof.Rows.SortShell
import PySem.Challenge.RW_figurejudge_k77_turned_about
set_option Elab.async false
set_option linter.all false
set_option maxRecDepth 100000
set_option maxHeartbeats 4000000
namespace L2
open PySem PySem.Spec PyProof.Rows
abbrev Key:=Sum Int Str
def kN:Key→Value→Bool
 | .inl k,v=>Value.isInt k v
 | .inr x,v=>Value.isStrOf x v
def MI (w:World):Key→Int
 | .inl k=>hashInt k
 | .inr x=>hashStr w x
theorem cB:∀{k:Key} {v:Value},kN k v=true→(∃i t,k=Sum.inl i∧v=Value.int i t)∨(∃x t,k=Sum.inr x∧v=Value.str x t)
 | .inl i,v,h=>by
  obtain⟨t,e⟩:=Value.isInt_shape (k:=i) (v:=v) h
  exact .inl ⟨i,t,rfl,e⟩
 | .inr x,v,h=>by
  obtain⟨t,e⟩:=Value.isStrOf_shape (x:=x) (v:=v) h
  exact .inr ⟨x,t,rfl,e⟩
theorem Aq (i:Int) (t:Tok):kN (.inl i) (.int i t)=true:=by simp[kN,Value.isInt]
theorem As (x:Str) (t:Tok):kN (.inr x) (.str x t)=true:=by simp[kN,Value.isStrOf]
theorem Gf (a b:Int):decide ((Sum.inl a:Key)=Sum.inl b)=(a == b):=by
 by_cases e:a=b
 ·subst e;simp
 ·have h:¬(Sum.inl a:Key)=Sum.inl b:=fun q=>e (Sum.inl.inj q)
  rw[decide_eq_false h]
  exact(beq_eq_false_iff_ne.mpr e).symm
theorem Gg (a b:Str):decide ((Sum.inr a:Key)=Sum.inr b)=decide (a=b):=by
 by_cases e:a=b
 ·subst e;simp
 ·have h:¬(Sum.inr a:Key)=Sum.inr b:=fun q=>e (Sum.inr.inj q)
  rw[decide_eq_false h,decide_eq_false e]
theorem Gh (a:Int) (b:Str):decide ((Sum.inl a:Key)=Sum.inr b)=false:=decide_eq_false (fun q=>nomatch q)
theorem Gi (a:Str) (b:Int):decide ((Sum.inr a:Key)=Sum.inl b)=false:=decide_eq_false (fun q=>nomatch q)
def aV (prog:Program) (w:World):PySem.KeyKind prog w Key where
 is:=kN
 hash:=MI w
 inj:=fun v a b ha hb=>by
  rcases cB ha with⟨i,t,rfl,rfl⟩ | ⟨x,t,rfl,rfl⟩
  ·rcases cB hb with⟨j,u,rfl,e⟩ | ⟨y,u,rfl,e⟩
   ·injection e with e1 _;rw[e1]
   ·exact nomatch e
  ·rcases cB hb with⟨j,u,rfl,e⟩ | ⟨y,u,rfl,e⟩
   ·exact nomatch e
   ·injection e with e1 _;rw[e1]
 byValue:=fun k v h=>by
  rcases cB h with⟨i,t,rfl,rfl⟩ | ⟨x,t,rfl,rfl⟩<;>rfl
 pyHash:=fun hv h=>by
  rcases cB hv with⟨i,t,rfl,rfl⟩ | ⟨x,t,rfl,rfl⟩
  ·exact wpAny_pyHash_int h
  ·exact wpAny_pyHash_str h
 eqBool:=fun hu hv h=>by
  rcases cB hu with⟨i,t,rfl,rfl⟩ | ⟨x,t,rfl,rfl⟩
  ·rcases cB hv with⟨j,u,rfl,rfl⟩ | ⟨y,u,rfl,rfl⟩
   ·rw[Gf] at h;exact wpAny_eqBool_int h
   ·rw[Gh] at h;exact SeqAt.EqAt.int_str i t y u _ _ _ _ h
  ·rcases cB hv with⟨j,u,rfl,rfl⟩ | ⟨y,u,rfl,rfl⟩
   ·rw[Gi] at h;exact SeqAt.EqAt.str_int x t j u _ _ _ _ h
   ·rw[Gg] at h;exact wpAny_eqBool_str h
 «strs» :=fun k x t v h=>by
  rcases cB h with⟨i,u,rfl,e⟩ | ⟨y,u,rfl,e⟩
  ·exact nomatch e
  ·injection e with e1 _
   subst e1
   cases v<;>rfl
theorem xb (prog:Program) (w:World) (i:Int) (t:Tok):(aV prog w).is (.inl i) (.int i t)=true:=Aq i t
theorem xc (prog:Program) (w:World) (x:Str) (t:Tok):(aV prog w).is (.inr x) (.str x t)=true:=As x t
inductive V where
 | non | bl (b:Bool) | int (i:Int) | str (x:Str) | jb (b:Array UInt8) | flt (b:UInt64) | ref (a:Addr) | ty (n:String)
 deriving DecidableEq
def RelV:V→Value→Prop
 | .non,u=>u=Value.none
 | .bl b,u=>u=Value.bool b
 | .int i,u=>∃t,u=Value.int i t
 | .str x,u=>∃t,u=Value.str x t
 | .jb b,u=>∃t,u=Value.bytes b t
 | .flt b,u=>∃t,u=Value.float b t
 | .ref a,u=>u=Value.ref a
 | .ty n,u=>u=Value.type n
abbrev Vals:List V→List Value→Prop:=Paired RelV
theorem Vals.length {xs:List V} {us:List Value} (r:Vals xs us):xs.length=us.length:=Paired.length r
theorem Vals.get:∀{xs:List V} {us:List Value} {i:Nat} {x:V},Vals xs us→xs[i]? =some x→∃u,us[i]? =some u∧RelV x u
 | _,_,_,_,.nil,e=>by simp at e
 | _,_,0,_,.cons r _,e=>by simp at e;subst e;exact⟨_,rfl,r⟩
 | _,_,i+1,x,.cons _ t,e=>by
  obtain⟨u,h1,h2⟩:=Vals.get (i:=i) (x:=x) t (by simpa using e)
  exact⟨u,by simpa using h1,h2⟩
theorem Vals.set {x:V} {u:Value} (r:RelV x u):∀{xs:List V} {us:List Value} (i:Nat),Vals xs us→Vals (xs.set i x) (us.set i u)
 | _,_,_,.nil=>.nil
 | _,_,0,.cons _ t=>.cons r t
 | _,_,i+1,.cons q t=>.cons q (Vals.set r i t)
theorem Vals.append:∀{xs ys:List V} {us ws:List Value},Vals xs us→Vals ys ws→Vals (xs++ys) (us++ws)
 | _,_,_,_,.nil,s=>s
 | _,_,_,_,.cons r t,s=>.cons r (Vals.append t s)
theorem Vals.take:∀{xs:List V} {us:List Value} (n:Nat),Vals xs us→Vals (xs.take n) (us.take n)
 | _,_,0,_=>.nil
 | _,_,_+1,.nil=>.nil
 | _,_,n+1,.cons r t=>.cons r (Vals.take n t)
theorem Vals.drop:∀{xs:List V} {us:List Value} (n:Nat),Vals xs us→Vals (xs.drop n) (us.drop n)
 | _,_,0,r=>r
 | _,_,_+1,.nil=>.nil
 | _,_,n+1,.cons _ t=>Vals.drop n t
def jc:Option V→Option Value→Prop
 | some v,some u=>RelV v u
 | none,none=>True
 | _,_=>False
def KV {κ:Type}:List (κ×V)→List (κ×Value)→Prop:=Paired fun(p:κ×V) (q:κ×Value)=>p.1=q.1∧RelV p.2 q.2
def kV:Key→V
 | .inl i=>.int i
 | .inr x=>.str x
inductive HO where
 | lst (xs:List V)
 | tup (xs:List V)
 | dK (kvs:List (Key×V)) | dT (kvs:List (List Key×V))
 | set (S:Int→Bool) (n:Nat)
 | ins (C dx:Addr) (fs:List (Str×V))
 | own (x:Addr)
 | xd (fs:List (Str×V))
 | met (f x:Addr)
 | rng (lo hi:Int)
 | cY (o:Obj) (u:HO)
 | cD (ps:Array Value)
 | ext (φ:Heap→Prop)
abbrev Hp:=Addr→Option HO
def upd (H:Hp) (a:Addr) (o:HO):Hp:=fun b=>if b=a then some o else H b
theorem af {H:Hp} {a:Addr} {o:HO}:upd H a o a=some o:=by unfold upd;rw[if_pos rfl]
theorem aq {H:Hp} {a b:Addr} {o:HO} (h:b≠a):upd H a o b=H b:=by unfold upd;rw[if_neg h]
theorem jF {H:Hp} {a b:Addr} {o u:HO} (h:H a=some o) (h':H b=some u) (d:o≠u):a≠b:=by
 intro e;subst e;rw[h] at h';exact d (Option.some.inj h')
theorem aj {H:Hp} {a b:Addr} {o:HO} (h:H a=some o) (h':H b=none):a≠b:=by
 intro e;subst e;rw[h] at h';cases h'
section
variable (P:Program) (w:World)
def bp (H:Hp) (h:Heap) (a:Addr):HO→Prop
 | .lst xs=>xs.length≤sizeLine∧∃(its:List Value) (n:Nat),Vals xs its∧h.get? a=some {cls:=.type "list",data:=.seq its.toArray n}
 | .tup xs=>(xs.length≤sizeLine∧∃o,h.get? a=some o∧o.dict=none)∧∃its:List Value,Vals xs its∧IsTup h a its.toArray
 | .dK kvs=>kvs.length≤sizeLine∧(a == sysModules)=false∧∃vs,KV kvs vs∧h.DictOf (aV P w) a vs
 | .dT kvs=>kvs.length≤sizeLine∧(a == sysModules)=false∧∃xs:List (List Key×Addr×Value),
   Paired (fun(p:List Key×V) (q:List Key×Addr×Value)=>p.1=q.1∧H q.2.1=some (.tup (p.1.map kV))∧RelV p.2 q.2.2) kvs xs∧
   ∃o es ep,h.get? a=some o∧o.ExactDict∧o.data=.dict es ep∧es.toList=xs.map (entryOfKey (tupleKind (aV P w)))∧(xs.map (·.1)).Nodup
 | .set S n=>h.SetOf (intKind P w) a S n
 | .ins C dx fs=>H dx=some (.own a)∧fs.length≤1000∧dx≠a∧h.get? a=some (PySem.W.instObj C dx)∧
   ∃mA,h.Ns1 dx mA∧(∀f,jc (fs.lookup f) (mA f))∧PySem.Within mA (fs.map (·.1))
 | .own _=>∃o,h.get? a=some o
 | .xd fs=>∃mA,h.Ns1 a mA∧∀f,jc (fs.lookup f) (mA f)
 | .rng lo hi=>∃t u v,h.get? a=some {cls:=.type "range",data:=.fields #[.int lo t,.int hi u,.int 1 v]}
 | .cY o u=>h.get? a=some o∧bp H h a u
 | .cD ps=>h.get? a=some {cls:=.none,data:=.fields ps}
 | .met f x=>h.get? a=some (PySem.W.methodObj (.ref f) (.ref x))
 | .ext φ=>φ h∧(∃o,h.get? a=some o)∧∀h1 h2:Heap,φ h1→(∀o,h1.get? a=some o→h2.get? a=some o)→φ h2
def cZ (H:Hp) (h:Heap):Prop:=∀a o,H a=some o→bp P w H h a o
end
section
variable {P:Program} {w:World} {H H':Hp} {h h':Heap} {a:Addr} {o:HO}
theorem bp.lt (x:bp P w H h a o):a<h.objs.size:=by
 cases o with
 | lst xs=>obtain⟨_,_,_,_,e⟩:=x;exact Heap.lt_size e
 | tup xs=>obtain⟨_,_,_,p⟩:=x;exact p.lt
 | dK kvs=>obtain⟨_,_,_,_,o,_,_,e,_⟩:=x;exact Heap.lt_size e
 | dT kvs=>obtain⟨_,_,_,_,o,_,_,e,_⟩:=x;exact Heap.lt_size e
 | set S n=>obtain⟨o,_,_,_,e,_⟩:=x;exact Heap.lt_size e
 | ins C dx fs=>obtain⟨_,_,_,e,_⟩:=x;exact Heap.lt_size e
 | own y=>obtain⟨_,e⟩:=x;exact Heap.lt_size e
 | xd fs=>obtain⟨_,⟨_,_,_,e,_⟩,_⟩:=x;exact Heap.lt_size e
 | rng lo hi=>obtain⟨_,_,_,e⟩:=x;exact Heap.lt_size e
 | cY ob u=>obtain⟨e,_⟩:=x;exact Heap.lt_size e
 | cD ps=>exact Heap.lt_size (show h.get? a=some _ from x)
 | met f y=>exact Heap.lt_size (show h.get? a=some _ from x)
 | ext φ=>obtain⟨_,⟨_,e⟩,_⟩:=x;exact Heap.lt_size e
theorem Paired.ml {α β:Type} {F G:α→β→Prop}:∀{l₁:List α} {l₂:List β},Paired F l₁ l₂→(∀a b,F a b→G a b)→Paired G l₁ l₂
 | _,_,.nil,_=>.nil
 | _,_,.cons r t,f=>.cons (f _ _ r) (Paired.ml t f)
theorem bp.stay (x:bp P w H h a o) (k:∀b u,(b=a∨H b=some (.own a))→h.get? b=some u→h'.get? b=some u)
  (ho:∀b,H b=some (.own a)→H' b=some (.own a)) (ht:∀b xs,H b=some (.tup xs)→H' b=some (.tup xs)):bp P w H' h' a o:=by
 induction o with
 | lst xs=>obtain⟨z,its,n,r,e⟩:=x;exact⟨z,its,n,r,k _ _ (.inl rfl) e⟩
 | tup xs=>obtain⟨⟨z,o2,e2,d2⟩,its,r,ob,e,c⟩:=x;exact⟨⟨z,o2,k _ _ (.inl rfl) e2,d2⟩,its,r,ob,k _ _ (.inl rfl) e,c⟩
 | dK kvs=>obtain⟨z,y,vs,r,ob,es,ep,e,c⟩:=x;exact⟨z,y,vs,r,ob,es,ep,k _ _ (.inl rfl) e,c⟩
 | dT kvs=>
  obtain⟨z,y,xs,r,ob,es,ep,e,c⟩:=x
  exact⟨z,y,xs,Paired.ml r fun p q z=>⟨z.1,ht _ _ z.2.1,z.2.2⟩,ob,es,ep,k _ _ (.inl rfl) e,c⟩
 | set S n=>obtain⟨ob,es,ep,t,e,c⟩:=x;exact⟨ob,es,ep,t,k _ _ (.inl rfl) e,c⟩
 | ins C dx fs=>
  obtain⟨d,z,ne,e,mA,⟨od,es,ep,e2,c⟩,r⟩:=x
  exact⟨ho _ d,z,ne,k _ _ (.inl rfl) e,mA,⟨od,es,ep,k _ _ (.inr d) e2,c⟩,r⟩
 | own y=>obtain⟨ob,e⟩:=x;exact⟨ob,k _ _ (.inl rfl) e⟩
 | xd fs=>obtain⟨mA,⟨od,es,ep,e,c⟩,r⟩:=x;exact⟨mA,⟨od,es,ep,k _ _ (.inl rfl) e,c⟩,r⟩
 | rng lo hi=>obtain⟨t,u,v,e⟩:=x;exact⟨t,u,v,k _ _ (.inl rfl) e⟩
 | cY ob u ih=>obtain⟨e,q⟩:=x;exact⟨k _ _ (.inl rfl) e,ih q⟩
 | cD ps=>
  have e:h.get? a=some {cls:=.none,data:=.fields ps}:=x
  show h'.get? a=some {cls:=.none,data:=.fields ps}
  exact k a _ (.inl rfl) e
 | met f y=>
  have e:h.get? a=some (PySem.W.methodObj (.ref f) (.ref y)):=x
  show h'.get? a=some (PySem.W.methodObj (.ref f) (.ref y))
  exact k a _ (.inl rfl) e
 | ext φ=>obtain⟨p,⟨o,e⟩,st⟩:=x;exact⟨st _ _ p fun o q=>k _ _ (.inl rfl) q,⟨o,k _ _ (.inl rfl) e⟩,st⟩
theorem cZ.lt (x:cZ P w H h) (e:H a=some o):a<h.objs.size:=(x a o e).lt
theorem cZ.fresh (x:cZ P w H h) (e:h.objs.size≤a):H a=none:=by
 cases q:H a with
 | none=>rfl
 | some u=>exact absurd (Nat.lt_of_lt_of_le (x.lt q) e) (Nat.lt_irrefl _)
theorem cZ.kept (x:cZ P w H h) (k:∀b u,h.get? b=some u→h'.get? b=some u):cZ P w H h':=fun a o e=>
 (x a o e).stay (fun b u _ q=>k b u q) (fun _ q=>q) fun _ _ q=>q
theorem cZ.laid (x:cZ P w H h) (k:∀b u,h.get? b=some u→h'.get? b=some u) (hp:h.objs.size≤a) (new:bp P w (upd H a o) h' a o):cZ P w (upd H a o) h':=fun b u e=>by
 have hn:=x.fresh hp
 by_cases hb:b=a
 ·subst hb;rw[af] at e;cases e;exact new
 ·rw[aq hb] at e
  exact(x b u e).stay (fun c v _ q=>k c v q) (fun c q=>by rw[aq (aj q hn)];exact q) fun c xs q=>by rw[aq (aj q hn)];exact q
end
def Rd (H:Hp) (a:Addr) (u:HO):Prop:=H a=some u∨∃o,H a=some (.cY o u)
theorem Rd.ok {P:Program} {w:World} {H:Hp} {h:Heap} {a:Addr} {u:HO} (r:Rd H a u) (x:cZ P w H h):bp P w H h a u:=by
 rcases r with r | ⟨o,r⟩
 ·exact x a u r
 ·obtain⟨_,q⟩:=x a _ r
  exact q
def Au:Option HO→Prop
 | some (.lst _)=>True
 | some (.dK _)=>True
 | some (.dT _)=>True
 | some (.set _ _)=>True
 | some (.ins _ _ _)=>True
 | some (.ext _)=>True
 | _=>False
section
variable {P:Program} {w:World} {H:Hp} {h h':Heap} {x e:Addr} {o':HO}
theorem cZ.write (ok:cZ P w H h) (mu:Au (H x)) (he:e=x∨H e=some (.own x)) (k:∀b u,b≠e→h.get? b=some u→h'.get? b=some u) (heo:∃u,h'.get? e=some u)
  (new:bp P w (upd H x o') h' x o'):cZ P w (upd H x o') h':=fun b u q=>by
 have Gj:∀c y,H c=some (.own y)→c≠x:=fun c y r z=>by subst z;rw[r] at mu;exact mu
 have MJ:∀c xs,H c=some (.tup xs)→c≠x:=fun c xs r z=>by subst z;rw[r] at mu;exact mu
 by_cases hb:b=x
 ·subst hb;rw[af] at q;cases q;exact new
 ·rw[aq hb] at q
  by_cases hbe:b=e
  ·have q':H b=some (.own x):=by
    rcases he with z | z
    ·exact absurd (hbe.trans z) hb
    ·rw[hbe];exact z
   rw[q] at q';cases q'
   obtain⟨v,hv⟩:=heo
   exact⟨v,by rw[hbe];exact hv⟩
  ·refine(ok b u q).stay (fun c v hc r=>k c v ?_ r) (fun c r=>by rw[aq (Gj c b r)];exact r) fun c xs r=>by rw[aq (MJ c xs r)];exact r
   rcases hc with rfl | hc
   ·exact hbe
   ·rintro rfl
    rcases he with z | z
    ·exact Gj c b hc z
    ·rw[hc] at z;cases z;exact hb rfl
end
structure Un (fs ex:List Addr) (H H':Hp) (h h':Heap):Prop where
 keep:∀b o,h.get? b=some o→H b=none→b ∉ fs→b ∉ ex→h'.get? b=some o
 slot:∀b o,h.get? b=some o→H b=none→b∈fs→b ∉ ex→∃sl,h'.get? b=some {o with slots:=sl}
 free:∀b o,h.get? b=some o→H b=none→b ∉ ex→H' b=none
 there:∀b o,h.get? b=some o→b ∉ ex→∃o',h'.get? b=some o'
 tups:∀b xs,H b=some (.tup xs)→H' b=some (.tup xs)
 jX:∀b o u,H b=some (.cY o u)→H' b=some (.cY o u)
 jY:∀b ps,H b=some (.cD ps)→∃more,H' b=some (.cD (ps++more))
section
variable {fs fs' ex ex':List Addr} {H H1 H2:Hp} {h h1 h2 h':Heap} {a x e:Addr} {o:HO}
theorem Un.any (u:Un fs ex H H1 h h1) {b:Addr} {ob:Obj} (q:h.get? b=some ob) (n:H b=none) (hx:b ∉ ex):∃sl,h1.get? b=some {ob with slots:=sl}:=by
 by_cases hb:b∈fs
 ·exact u.slot b ob q n hb hx
 ·exact⟨ob.slots,u.keep b ob q n hb hx⟩
theorem Un.kept (k:∀b u,h.get? b=some u→h'.get? b=some u):Un fs ex H H h h':=
 ⟨fun b ob q _ _ _=>k b ob q,fun b ob q _ _ _=>⟨ob.slots,k b ob q⟩,fun _ _ _ n _=>n,fun b ob q _=>⟨ob,k b ob q⟩,fun _ _ q=>q,fun _ _ _ q=>q,fun _ ps q=>⟨#[],by rw[q];simp⟩⟩
theorem Un.refl:Un fs ex H H h h:=Un.kept fun _ _ q=>q
theorem Un.laid (k:∀b u,h.get? b=some u→h'.get? b=some u) (hp:h.objs.size≤a) (hn:H a=none):Un fs ex H (upd H a o) h h' where
 keep:=fun b u q _ _ _=>k b u q
 slot:=fun b u q _ _ _=>⟨u.slots,k b u q⟩
 free:=fun b u q n _=>by rw[aq (Nat.ne_of_lt (Nat.lt_of_lt_of_le (Heap.lt_size q) hp))];exact n
 there:=fun b u q _=>⟨u,k b u q⟩
 tups:=fun b xs q=>by rw[aq (aj q hn)];exact q
 jX:=fun b u xs q=>by rw[aq (aj q hn)];exact q
 jY:=fun b ps q=>⟨#[],by rw[aq (aj q hn),q];simp⟩
theorem Un.write (mu:Au (H x)) (he:e=x∨H e=some (.own x)) (k:∀b u,b≠e→h.get? b=some u→h'.get? b=some u) (heo:∃u,h'.get? e=some u):Un fs ex H (upd H x o) h h':=by
 have hx:∀b,H b=none→b≠x:=fun b n z=>by subst z;rw[n] at mu;exact mu
 have hb:∀b,H b=none→b≠e:=fun b n z=>by
  subst z
  rcases he with r | r
  ·exact hx b n r
  ·rw[n] at r;cases r
 have hm:∀b u,H b=some u→¬Au (some u)→b≠x:=fun b u q nm z=>by subst z;rw[q] at mu;exact nm mu
 refine⟨fun b u q n _ _=>k b u (hb b n) q,fun b u q n _ _=>⟨u.slots,k b u (hb b n) q⟩,fun b u q n _=>by rw[aq (hx b n)];exact n,fun b u q _=>?_,
  fun b xs q=>by rw[aq (hm b _ q fun z=>z)];exact q,fun b u xs q=>by rw[aq (hm b _ q fun z=>z)];exact q,fun b ps q=>⟨#[],by rw[aq (hm b _ q fun z=>z),q];simp⟩⟩
 by_cases hbe:b=e
 ·subst hbe;exact heo
 ·exact⟨u,k b u hbe q⟩
end
def DJ (h:Heap) (H:Hp):List Addr:=(List.range h.objs.size).filter fun a=>(H a).isSome
def jd (h:Heap) (H:Hp):Heap:=PySem.W.hideAll h (DJ h H)
theorem rm (h:Heap) (H:Hp):(jd h H).objs.size=h.objs.size:=PySem.W.hideAll_size _ _
theorem um {h:Heap} {H:Hp} {b:Addr} {o:Obj} (e:h.get? b=some o) (n:H b=none):(jd h H).get? b=some o:=
 PySem.W.hideAll_get _ e fun hm=>by
  have q:(H b).isSome=true:=(List.mem_filter.mp hm).2
  rw[n] at q;simp at q
theorem x6 {h:Heap} {H:Hp} {b:Addr} {o:Obj} (e:(jd h H).get? b=some o):h.get? b=some o∧H b=none:=by
 have e':h.get? b=some o:=PySem.W.of_hideAll (DJ h H) e
 refine⟨e',?_⟩
 cases q:H b with
 | none=>rfl
 | some x=>
  have hm:b∈DJ h H:=List.mem_filter.mpr ⟨List.mem_range.mpr (Heap.lt_size e'),by simp[q]⟩
  have z:(jd h H).get? b=none:=PySem.W.hideAll_none (DJ h H) hm
  rw[z] at e;cases e
structure Mod (K:PySem.W.Frag) (mg:Str→Option Value) (base:Heap):Prop where
 x8:K.In base
 glob:base.Ns mainGlobals mg
 blt:∃mb,base.Ns builtinsNs mb∧∀x:Str,x≠"__name__"→mb x=bootBuiltins x
 nolimit:base.NoLimit
structure Cx where
 prog:Program
 w:World
 K:PySem.W.Frag
 mg:Str→Option Value
 base:Heap
 A:Around
 N:List Str
 s₀:Shared
 H₀:Hp
 env:Env
 outer:List Env
 stack:List Env
 ex:List Addr
 fn:Str→Bool
 calm:Bool
 pn:List (Addr×Obj)
 xe:Value→Shared→Prop
def frs (l:List Env):List Addr:=l.filterMap (·.frame)
abbrev Cx.fs (X:Cx):List Addr:=frs X.outer
def x' (sc:Scope) (x:Str):Prop:=sc.names.lookup x=some .local∨sc.names.lookup x=some .cell∨sc.names.lookup x=some .free
def Loc (sc:Scope) (x:Str):Prop:=sc.names.lookup x=some .local∨sc.names.lookup x=some .cell
def Look (env:Env) (h:Heap) (m:Str→Option Value) (x:Str) (u:Value):Prop:=
 (env.kindOf x=some .local∧m x=some u)∨((env.kindOf x=some .cell∨env.kindOf x=some .free)∧∃c,env.cells.lookup x=some c∧h.IsCell c (some u))
structure Cx.Ok (X:Cx):Prop where
 mod:Mod X.K X.mg X.base
 kind:X.env.scope.kind=.function
 glob:X.env.globals=mainGlobals
 blt:X.env.builtins=builtinsNs
 above:X.s₀.heap.objs.size≤X.env.locals
 inj:∀x y c,X.env.cells.lookup x=some c→X.env.cells.lookup y=some c→x=y
 has:∀x,(X.env.kindOf x=some .cell∨X.env.kindOf x=some .free)→∃c,X.env.cells.lookup x=some c
 cab:∀x c,X.fn x=true→X.env.cells.lookup x=some c→X.s₀.heap.objs.size≤c
 hd:X.calm=true→X.A.handled=none
 frames:X.A.frames=some X.stack
 stk:X.stack=X.outer∨(X.stack=X.env::X.outer∧X.env.frame=some X.env.locals)
 Gk:∀b∈X.ex,b≠X.env.locals∧∀x c,X.env.cells.lookup x=some c→c≠b
 bs:∀b o,X.base.get? b=some o→X.s₀.heap.get? b=some o∧X.H₀ b=none
 lZ:X.base.objs.size≤X.s₀.heap.objs.size
 uo:∀b o,X.base.get? b=some o→b ∉ X.ex
 uq:∀b∈X.ex,b ∉ X.fs
 gY:X.s₀.heap.FunFrames X.base X.outer
 ur:∀b∈X.fs,X.H₀ b=none
structure Inv (X:Cx) (pins:List (Addr×Obj)) (σ:List (Option V)) (H:Hp) (s:Shared):Prop where
 ok:X.Ok
 os:s.os=X.s₀.os
 bare:AllBare s.gens
 base:Un X.fs X.ex X.H₀ H X.s₀.heap s.heap
 loc:∃m,s.heap.Ns X.env.locals m∧∀(i:Nat) (x:Str) (v:V),X.N[i]? =some x→σ[i]? =some (some v)→x' X.env.scope x→∃u,RelV v u∧Look X.env s.heap m x u
 cell:∀x c,X.env.cells.lookup x=some c→∃v,s.heap.IsCell c v
 free:H X.env.locals=none
 gg:∀x c,X.env.cells.lookup x=some c→H c=none
 pin:∀p∈X.pn++pins,s.heap.get? p.1=some p.2∧H p.1=none∧p.1≠X.env.locals∧p.1 ∉ X.fs∧∀v,p.2.data≠.cell v
 hok:cZ X.prog X.w H s.heap
 len:σ.length=X.N.length
section
variable {X:Cx} {pins:List (Addr×Obj)} {σ:List (Option V)} {H H':Hp} {s:Shared} {h':Heap}
theorem Cx.Ok.Gm (ok:X.Ok) {b:Addr} {o:Obj} (e:X.base.get? b=some o):b ∉ X.fs:=fun hb=>by
 have:=(ok.gY.mem hb).1
 rw[e] at this;cases this
theorem Inv.bs (I:Inv X pins σ H s):∀b o,X.base.get? b=some o→s.heap.get? b=some o∧H b=none:=fun b o e=>
 ⟨I.base.keep b o (I.ok.bs b o e).1 (I.ok.bs b o e).2 (I.ok.Gm e) (I.ok.uo b o e),I.base.free b o (I.ok.bs b o e).1 (I.ok.bs b o e).2 (I.ok.uo b o e)⟩
theorem Inv.bk (I:Inv X pins σ H s):∀b o,X.base.get? b=some o→s.heap.get? b=some o:=fun b o e=>(I.bs b o e).1
theorem Inv.mod (I:Inv X pins σ H s):Mod X.K X.mg X.base:=I.ok.mod
theorem Inv.gH (I:Inv X pins σ H s):X.K.In s.heap:=I.ok.mod.x8.keeps I.bk
theorem Inv.lt (I:Inv X pins σ H s):X.env.locals<s.heap.objs.size:=let ⟨_,hn,_⟩:=I.loc;hn.lt
theorem Inv.sz (I:Inv X pins σ H s):X.s₀.heap.objs.size≤s.heap.objs.size:=Nat.le_trans I.ok.above (Nat.le_of_lt I.lt)
theorem Inv.MK (I:Inv X pins σ H s) {a:Addr} (h:s.heap.objs.size≤a):a ∉ X.fs:=fun hb=>by
 obtain⟨_,o,ho,_⟩:=I.ok.gY.mem hb
 exact absurd (Nat.lt_of_lt_of_le (Heap.lt_size ho) (Nat.le_trans I.sz h)) (Nat.lt_irrefl _)
theorem Inv.rn (I:Inv X pins σ H s):∀x c,X.env.cells.lookup x=some c→c≠X.env.locals:=fun x c e z=>by
 obtain⟨v,o,ho,hd⟩:=I.cell x c e
 obtain⟨m,⟨o',es,ep,ho',hd',_⟩,_⟩:=I.loc
 rw[z,ho'] at ho;cases ho;rw[hd'] at hd;cases hd
theorem Inv.gY (I:Inv X pins σ H s):s.heap.FunFrames X.base X.outer:=by
 have all:∀(l:List Env),(∀b∈frs l,b∈X.fs)→X.s₀.heap.FunFrames X.base l→s.heap.FunFrames X.base l:=by
  intro l
  induction l with
  | nil=>intro _ _;trivial
  | cons env r ih=>
   intro hs hl
   obtain⟨hk,⟨L,o,hf,hn,ho,hd⟩,hr⟩:=hl
   have hL:L∈X.fs:=hs L (by unfold frs;rw[List.filterMap_cons,hf];exact List.mem_cons_self)
   obtain⟨sl,e⟩:=I.base.slot L o ho (I.ok.ur L hL) hL fun z=>I.ok.uq L z hL
   exact⟨hk,⟨L,_,hf,hn,e,hd⟩,ih (fun b hb=>hs b (by unfold frs;rw[List.filterMap_cons,hf];exact List.mem_cons_of_mem _ hb)) hr⟩
 exact all X.outer (fun _ hb=>hb) I.ok.gY
theorem Inv.stack (I:Inv X pins σ H s):s.heap.FunFrames X.base X.stack:=by
 rcases I.ok.stk with e | ⟨e,hf⟩
 ·rw[e];exact I.gY
 ·rw[e]
  obtain⟨m,hn,_⟩:=I.loc
  refine .cons (by rw[I.ok.kind];decide) hf hn ?_ I.gY
  exact Heap.get?_none_of_le (Nat.le_trans I.ok.lZ I.ok.above)
theorem Inv.mn (I:Inv X pins σ H s):∀b∈frs X.stack,b∈X.env.locals::X.fs:=fun b hb=>by
 rcases I.ok.stk with e | ⟨e,hf⟩
 ·rw[e] at hb;exact List.mem_cons_of_mem _ hb
 ·rw[e] at hb
  unfold frs at hb
  rw[List.filterMap_cons,hf] at hb
  exact hb
theorem Inv.j7 (I:Inv X pins σ H s):∀b∈frs X.stack,H b=none:=fun b hb=>by
 rcases List.mem_cons.mp (I.mn b hb) with e | hb
 ·rw[e];exact I.free
 ·obtain⟨_,o,ho,_⟩:=I.ok.gY.mem hb
  exact I.base.free b o ho (I.ok.ur b hb) fun z=>I.ok.uq b z hb
theorem Inv.step {g':Array GenState} {t':Nat} {d':Drawn} {ch:List Addr} (I:Inv X pins σ H s)
  (hch:∀b∈ch,(b∈X.ex∨X.s₀.heap.objs.size≤b)∧b≠X.env.locals∧(∀x c,X.env.cells.lookup x=some c→c≠b)∧∀p∈X.pn++pins,p.1≠b)
  (keep:∀b o,b≠X.env.locals→b ∉ X.fs→b ∉ ch→s.heap.get? b=some o→H b=none→h'.get? b=some o)
  (slot:∀b o,b≠X.env.locals→b∈X.fs→b ∉ ch→s.heap.get? b=some o→H b=none→∃sl,h'.get? b=some {o with slots:=sl}) (free:∀b o,b ∉ ch→s.heap.get? b=some o→H b=none→H' b=none)
  (there:∀b o,b ∉ ch→s.heap.get? b=some o→∃o',h'.get? b=some o')
  (tups:∀b xs,H b=some (.tup xs)→H' b=some (.tup xs)) (jX:∀b o u,H b=some (.cY o u)→H' b=some (.cY o u)) (jY:∀b ps,H b=some (.cD ps)→∃more,H' b=some (.cD (ps++more)))
  (ns:∀m,s.heap.Ns X.env.locals m→h'.Ns X.env.locals m) (hok:cZ X.prog X.w H' h') (hg:AllBare g'):
  Inv X pins σ H' {s with heap:=h',gens:=g',drawn:=d',toks:=t'}:=by
 have KW:∀b o,X.s₀.heap.get? b=some o→b≠X.env.locals:=fun b o e=>Nat.ne_of_lt (Nat.lt_of_lt_of_le (Heap.lt_size e) I.ok.above)
 have DK:∀b o,X.s₀.heap.get? b=some o→b ∉ X.ex→b ∉ ch:=fun b o e hx hb=>by
  rcases(hch b hb).1 with z | z
  ·exact hx z
  ·exact absurd (Nat.lt_of_lt_of_le (Heap.lt_size e) z) (Nat.lt_irrefl _)
 have cellK:∀x c,X.env.cells.lookup x=some c→∀v,s.heap.IsCell c v→h'.IsCell c v:=fun x c e v ⟨o,ho,hd⟩=>by
  have rq:c ∉ ch:=fun z=>(hch c z).2.2.1 x c e rfl
  by_cases hc:c∈X.fs
  ·obtain⟨sl,q⟩:=slot c o (I.rn x c e) hc rq ho (I.gg x c e)
   exact⟨_,q,hd⟩
  ·exact⟨o,keep c o (I.rn x c e) hc rq ho (I.gg x c e),hd⟩
 refine⟨I.ok,I.os,hg,⟨fun b o e n hb hx=>?_,fun b o e n hb hx=>?_,fun b o e n hx=>?_,fun b o e hx=>?_,fun b xs e=>tups b xs (I.base.tups b xs e),fun b o xs e=>jX b o xs (I.base.jX b o xs e),fun b ps e=>?_⟩,?_,fun x c e=>?_,?_,fun x c e=>?_,fun p hp=>?_,hok,I.len⟩
 ·exact keep b o (KW b o e) hb (DK b o e hx) (I.base.keep b o e n hb hx) (I.base.free b o e n hx)
 ·obtain⟨sl,e1⟩:=I.base.slot b o e n hb hx
  obtain⟨sl',e2⟩:=slot b _ (KW b o e) hb (DK b o e hx) e1 (I.base.free b o e n hx)
  exact⟨sl',e2⟩
 ·obtain⟨o',e1⟩:=I.base.there b o e hx
  exact free b o' (DK b o e hx) e1 (I.base.free b o e n hx)
 ·obtain⟨o',e1⟩:=I.base.there b o e hx
  exact there b o' (DK b o e hx) e1
 ·obtain⟨m1,e1⟩:=I.base.jY b ps e
  obtain⟨m2,e2⟩:=jY b _ e1
  exact⟨m1++m2,by rw[e2,Array.append_assoc]⟩
 ·obtain⟨m,hn,hl⟩:=I.loc
  refine⟨m,ns m hn,fun i x v e1 e2 e3=>?_⟩
  obtain⟨u,r,l⟩:=hl i x v e1 e2 e3
  refine⟨u,r,?_⟩
  rcases l with l | ⟨k,c,e,z⟩
  ·exact .inl l
  ·exact .inr ⟨k,c,e,cellK x c e _ z⟩
 ·obtain⟨v,z⟩:=I.cell x c e
  exact⟨v,cellK x c e v z⟩
 ·obtain⟨m,⟨o,_,_,ho,_⟩,_⟩:=I.loc
  exact free _ o (fun z=>(hch _ z).2.1 rfl) ho I.free
 ·obtain⟨v,o,ho,hd⟩:=I.cell x c e
  exact free c o (fun z=>(hch c z).2.2.1 x c e rfl) ho (I.gg x c e)
 ·obtain⟨e,n,ne,nf,d⟩:=I.pin p hp
  have rq:p.1 ∉ ch:=fun z=>(hch p.1 z).2.2.2 p hp rfl
  exact⟨keep p.1 p.2 ne nf rq e n,free p.1 p.2 rq e n,ne,nf,d⟩
theorem Inv.un {t':Nat} (I:Inv X pins σ H s) (u:Un X.fs [] H H' s.heap h') (hok:cZ X.prog X.w H' h'):Inv X pins σ H' {s with heap:=h',toks:=t'}:=by
 obtain⟨m,⟨o,es,ep,ho,r⟩,_⟩:=id I.loc
 obtain⟨sl,hL⟩:=u.any ho I.free (by simp)
 exact I.step (g':=s.gens) (d':=s.drawn) (ch:=[]) (fun _ z=>nomatch z) (fun b o _ hb _ e n=>u.keep b o e n hb (by simp)) (fun b o _ hb _ e n=>u.slot b o e n hb (by simp)) (fun b o _ e n=>u.free b o e n (by simp)) (fun b o _ e=>u.there b o e (by simp)) u.tups u.jX u.jY (fun m' hm=>by
  obtain⟨o',es',ep',ho',r'⟩:=hm
  rw[ho] at ho';cases ho'
  exact⟨_,es',ep',hL,r'⟩) hok I.bare
theorem Inv.call {g':Array GenState} {t':Nat} {d':Drawn} {ch:List Addr} (I:Inv X pins σ H s) (u:Un (frs X.stack) ch H H' s.heap h') (hok:cZ X.prog X.w H' h') (hg:AllBare g')
  (hch:∀b∈ch,(b∈X.ex∨X.s₀.heap.objs.size≤b)∧b≠X.env.locals∧(∀x c,X.env.cells.lookup x=some c→c≠b)∧∀p∈X.pn++pins,p.1≠b):
  Inv X pins σ H' {s with heap:=h',gens:=g',drawn:=d',toks:=t'}:=by
 obtain⟨m,⟨o,es,ep,ho,r⟩,_⟩:=id I.loc
 obtain⟨sl,hL⟩:=u.any ho I.free fun z=>(hch _ z).2.1 rfl
 exact I.step (ch:=ch) hch (fun b o hL hb hc e n=>u.keep b o e n (fun z=>(List.mem_cons.mp (I.mn b z)).elim hL hb) hc) (fun b o _ _ hc e n=>u.any e n hc) (fun b o hc e n=>u.free b o e n hc) (fun b o hc e=>u.there b o e hc) u.tups u.jX u.jY (fun m' hm=>by
  obtain⟨o',es',ep',ho',r'⟩:=hm
  rw[ho] at ho';cases ho'
  exact⟨_,es',ep',hL,r'⟩) hok hg
theorem Inv.turned {t':Nat} {it:Addr} (I:Inv X pins σ H s) (k:∀b o,b≠it→s.heap.get? b=some o→h'.get? b=some o) (hn:H it=none) (hL:it≠X.env.locals)
  (h1:it∈X.ex∨X.s₀.heap.objs.size≤it) (h2:∀x c,X.env.cells.lookup x=some c→c≠it) (h3:∀p∈X.pn++pins,p.1≠it):Inv X pins σ H {s with heap:=h',toks:=t'}:=by
 have KY:∀b u,H b=some u→b≠it:=fun b u e z=>by rw[z,hn] at e;cases e
 refine I.step (g':=s.gens) (d':=s.drawn) (ch:=[it]) (fun b hb=>?_) (fun b o _ _ hc e _=>k b o (fun z=>hc (by simp[z])) e) (fun b o _ _ hc e _=>⟨o.slots,k b o (fun z=>hc (by simp[z])) e⟩) (fun _ _ _ _ n=>n)
  (fun b o hc e=>⟨o,k b o (fun z=>hc (by simp[z])) e⟩) (fun _ _ e=>e) (fun _ _ _ e=>e) (fun b ps e=>⟨#[],by rw[e];simp⟩) (fun m hm=>?_) (fun b u e=>?_) I.bare
 ·have e:b=it:=by simpa using hb
  subst e
  exact⟨h1,hL,h2,h3⟩
 ·obtain⟨o,es,ep,ho,r⟩:=hm
  exact⟨o,es,ep,k _ o (Ne.symm hL) ho,r⟩
 ·refine(I.hok b u e).stay (fun c v hc q=>k c v ?_ q) (fun _ q=>q) fun _ _ q=>q
  rcases hc with z | z
  ·rw[z];exact KY b u e
  ·exact KY c _ z
theorem Inv.tok (I:Inv X pins σ H s) (t:Nat):Inv X pins σ H {s with toks:=t}:=I.un (h':=s.heap) (t':=t) Un.refl I.hok
theorem Inv.kept {t':Nat} (I:Inv X pins σ H s) (k:∀b u,s.heap.get? b=some u→h'.get? b=some u):Inv X pins σ H {s with heap:=h',toks:=t'}:=I.un (Un.kept k) (I.hok.kept k)
theorem Inv.laid {a:Addr} {o:HO} {t':Nat} (I:Inv X pins σ H s) (k:∀b u,s.heap.get? b=some u→h'.get? b=some u) (hp:s.heap.objs.size≤a) (new:bp X.prog X.w (upd H a o) h' a o):
  Inv X pins σ (upd H a o) {s with heap:=h',toks:=t'}:=I.un (Un.laid k hp (I.hok.fresh hp)) (I.hok.laid k hp new)
theorem Inv.write {x e:Addr} {o:HO} {t':Nat} (I:Inv X pins σ H s) (mu:Au (H x)) (he:e=x∨H e=some (.own x)) (k:∀b u,b≠e→s.heap.get? b=some u→h'.get? b=some u) (heo:∃u,h'.get? e=some u)
  (new:bp X.prog X.w (upd H x o) h' x o):Inv X pins σ (upd H x o) {s with heap:=h',toks:=t'}:=I.un (Un.write mu he k heo) (I.hok.write mu he k heo new)
theorem Inv.yc {DL:List (Addr×Obj)} (I:Inv X pins σ H s) (h:∀p∈DL,s.heap.get? p.1=some p.2∧H p.1=none∧p.1≠X.env.locals∧p.1 ∉ X.fs∧∀v,p.2.data≠.cell v):Inv X DL σ H s:=
 ⟨I.ok,I.os,I.bare,I.base,I.loc,I.cell,I.free,I.gg,fun p hp=>(List.mem_append.mp hp).elim (fun z=>I.pin p (List.mem_append_left _ z)) (h p),I.hok,I.len⟩
theorem uv {N:List Str} (hN:N.Nodup) {i j:Nat} {x:Str} (a:N[i]? =some x) (b:N[j]? =some x):i=j:=by
 obtain⟨h1,e1⟩:=List.getElem?_eq_some_iff.mp a
 obtain⟨h2,e2⟩:=List.getElem?_eq_some_iff.mp b
 exact(List.getElem_inj hN).mp (e1.trans e2.symm)
theorem rA {M:Model} {A:Around} {E:Value→Shared→Prop} {i:Nat} {x:Str} {v:V} {u:Value} {Q:Unit→Shared→Prop} (I:Inv X pins σ H s) (hN:X.N.Nodup) (hi:X.N[i]? =some x) (hx:Loc X.env.scope x) (r:RelV v u)
  (h:∀s',Inv X pins (σ.set i (some v)) H s'→(∃a,Heap.SameBut a s.heap s'.heap∧(a=X.env.locals∨X.env.cells.lookup x=some a))→Q () s') (hf:X.fn x=true∨X.env.scope.names.lookup x=some .local:=by first | exact .inl rfl | exact .inr rfl | assumption):wpAny M A (storeName X.env x u) Q E s:=by
 obtain⟨m,hn,hl⟩:=id I.loc
 have hcls:(X.env.scope.kind == .class||(X.env.scope.kind == .module&&X.env.locals != X.env.globals))=false:=by rw[I.ok.kind];rfl
 have KZ:i<σ.length:=by rw[I.len];exact(List.getElem?_eq_some_iff.mp hi).1
 have rn:=I.rn
 have tracked:∀{a:Addr} {h':Heap},(∃o,s.heap.get? a=some o∧H a=none)→Heap.SameBut a s.heap h'→cZ X.prog X.w H h':=fun {a h'} ha hs b ob e=>by
  obtain⟨_,_,hfree⟩:=ha
  refine(I.hok b ob e).stay (fun c w' hc q=>(hs.2 c ?_).trans q) (fun _ q=>q) fun _ _ q=>q
  rintro rfl
  rcases hc with rfl | hc
  ·rw[hfree] at e;cases e
  ·rw[hfree] at hc;cases hc
 rcases hx with hk | hk
 ·refine wpAny_storeName_local hk hn (fun h' hn' hs=>?_) hcls
  obtain⟨oL,_,_,hoL,_⟩:=id hn
  refine h _ ⟨I.ok,I.os,I.bare,⟨fun b o e n hb hx=>?_,fun b o e n hb hx=>?_,I.base.free,fun b o e hx=>?_,I.base.tups,I.base.jX,I.base.jY⟩,⟨_,hn',fun j y v' e1 e2 e3=>?_⟩,fun y c e=>?_,I.free,I.gg,fun p hp=>?_,tracked ⟨oL,hoL,I.free⟩ hs,by simpa using I.len⟩ ⟨_,hs,.inl rfl⟩
  ·exact(hs.2 b (Nat.ne_of_lt (Nat.lt_of_lt_of_le (Heap.lt_size e) I.ok.above))).trans (I.base.keep b o e n hb hx)
  ·obtain⟨sl,e1⟩:=I.base.slot b o e n hb hx
   exact⟨sl,(hs.2 b (Nat.ne_of_lt (Nat.lt_of_lt_of_le (Heap.lt_size e) I.ok.above))).trans e1⟩
  ·obtain⟨o',e1⟩:=I.base.there b o e hx
   exact⟨o',(hs.2 b (Nat.ne_of_lt (Nat.lt_of_lt_of_le (Heap.lt_size e) I.ok.above))).trans e1⟩
  ·by_cases hj:j=i
   ·subst hj
    rw[hi] at e1;cases e1
    rw[List.getElem?_set_self KZ] at e2
    cases e2
    exact⟨u,r,.inl ⟨hk,by simp⟩⟩
   ·rw[List.getElem?_set_ne (Ne.symm hj)] at e2
    obtain⟨u',r',q⟩:=hl j y v' e1 e2 e3
    refine⟨u',r',?_⟩
    rcases q with⟨k,e⟩ | ⟨k,c,e,z⟩
    ·refine .inl ⟨k,?_⟩
     have:y≠x:=fun e=>hj (uv hN e1 (e▸hi))
     simp[this,e]
    ·exact .inr ⟨k,c,e,z.sameBut hs (rn y c e)⟩
  ·obtain⟨w',z⟩:=I.cell y c e
   exact⟨w',z.sameBut hs (rn y c e)⟩
  ·obtain⟨e,n,ne,nf,d⟩:=I.pin p hp
   exact⟨(hs.2 p.1 ne).trans e,n,ne,nf,d⟩
 ·have hfn:X.fn x=true:=by
   rcases hf with z | z
   ·exact z
   ·rw[z] at hk;cases hk
  obtain⟨c,hc⟩:=I.ok.has x (.inl hk)
  obtain⟨w',z⟩:=I.cell x c hc
  refine wpAny_storeName_cell I.ok.kind hk hc z (fun h' hc' hs=>?_)
  obtain⟨oc,hoc,ML⟩:=id z
  refine h {s with heap:=h'} ⟨I.ok,I.os,I.bare,⟨fun b o e n hb hx=>?_,fun b o e n hb hx=>?_,I.base.free,fun b o e hx=>?_,I.base.tups,I.base.jX,I.base.jY⟩,⟨m,hn.sameBut hs (Ne.symm (rn x c hc)),fun j y v' e1 e2 e3=>?_⟩,fun y c' e=>?_,I.free,I.gg,fun p hp=>?_,tracked ⟨oc,hoc,I.gg x c hc⟩ hs,by simpa using I.len⟩ ⟨c,hs,.inr hc⟩
  ·exact(hs.2 b (Nat.ne_of_lt (Nat.lt_of_lt_of_le (Heap.lt_size e) (I.ok.cab x c hfn hc)))).trans (I.base.keep b o e n hb hx)
  ·obtain⟨sl,e1⟩:=I.base.slot b o e n hb hx
   exact⟨sl,(hs.2 b (Nat.ne_of_lt (Nat.lt_of_lt_of_le (Heap.lt_size e) (I.ok.cab x c hfn hc)))).trans e1⟩
  ·obtain⟨o',e1⟩:=I.base.there b o e hx
   exact⟨o',(hs.2 b (Nat.ne_of_lt (Nat.lt_of_lt_of_le (Heap.lt_size e) (I.ok.cab x c hfn hc)))).trans e1⟩
  ·by_cases hj:j=i
   ·subst hj
    rw[hi] at e1;cases e1
    rw[List.getElem?_set_self KZ] at e2
    cases e2
    exact⟨u,r,.inr ⟨.inl hk,c,hc,hc'⟩⟩
   ·rw[List.getElem?_set_ne (Ne.symm hj)] at e2
    obtain⟨u',r',q⟩:=hl j y v' e1 e2 e3
    refine⟨u',r',?_⟩
    rcases q with q | ⟨k,c',e,z'⟩
    ·exact .inl q
    ·refine .inr ⟨k,c',e,z'.sameBut hs ?_⟩
     rintro rfl
     exact hj (uv hN e1 (I.ok.inj _ _ _ e hc▸hi))
  ·by_cases hcc:c'=c
   ·subst hcc;exact⟨_,hc'⟩
   ·obtain⟨w2,z2⟩:=I.cell y c' e
    exact⟨w2,z2.sameBut hs hcc⟩
  ·obtain⟨e,n,ne,nf,d⟩:=I.pin p hp
   refine⟨(hs.2 p.1 ?_).trans e,n,ne,nf,d⟩
   intro q
   rw[q,hoc] at e
   have q':oc=p.2:=Option.some.inj e
   exact d w' (by rw[←q'];exact ML)
theorem uw {M:Model} {A:Around} {E:Value→Shared→Prop} {i:Nat} {x:Str} {v:V} {u:Value} {Q:Unit→Shared→Prop} (I:Inv X pins σ H s) (hN:X.N.Nodup) (hi:X.N[i]? =some x) (hx:Loc X.env.scope x) (r:RelV v u)
  (h:∀s',Inv X pins (σ.set i (some v)) H s'→Q () s') (hf:X.fn x=true∨X.env.scope.names.lookup x=some .local:=by first | exact .inl rfl | exact .inr rfl | assumption):wpAny M A (storeName X.env x u) Q E s:=
 rA I hN hi hx r (fun s' I' _=>h s' I') hf
theorem Inv.call' {s':Shared} {ch:List Addr} (I:Inv X pins σ H s) (ho:s'.os=s.os) (u:Un (frs X.stack) ch H H' s.heap s'.heap) (hok:cZ X.prog X.w H' s'.heap) (hg:AllBare s'.gens)
  (hch:∀b∈ch,(b∈X.ex∨X.s₀.heap.objs.size≤b)∧b≠X.env.locals∧(∀x c,X.env.cells.lookup x=some c→c≠b)∧∀p∈X.pn++pins,p.1≠b):Inv X pins σ H' s':=by
 obtain⟨h',g',d',t',o'⟩:=s'
 have e:o'=s.os:=ho
 subst e
 exact I.call (g':=g') (t':=t') (d':=d') u hok hg hch
end
abbrev XK:=Value→Option Addr→Hp→Prop
abbrev St:=List (Option V)
abbrev VK:=V→Hp→Prop
abbrev TE:=St→Hp→VK→Prop
abbrev TT:=St→Hp→(Bool→Hp→Prop)→Prop
abbrev TA:=St→Hp→(List V→Hp→Prop)→Prop
structure Ends where
 nx:St→Hp→Prop
 rt:VK
 bk:St→Hp→Prop:=fun _ _=>False
 ct:St→Hp→Prop:=fun _ _=>False
abbrev TS:=Ends→St→Hp→Prop
def EP (X:Cx) (pins:List (Addr×Obj)) (σ:St) (Q:VK) (u:Value) (s':Shared):Prop:=∃v H',Inv X pins σ H' s'∧RelV v u∧Q v H'
def TP (X:Cx) (pins:List (Addr×Obj)) (σ:St) (Q:Bool→Hp→Prop) (b:Bool) (s':Shared):Prop:=∃H',Inv X pins σ H' s'∧Q b H'
def AP (X:Cx) (pins:List (Addr×Obj)) (σ:St) (Q:List V→Hp→Prop) (us:List Value) (s':Shared):Prop:=∃vs H',Inv X pins σ H' s'∧Vals vs us∧Q vs H'
def SP (X:Cx) (pins:List (Addr×Obj)) (D:Ends) (f:Flow) (s':Shared):Prop:=
 match f with
 | .next=>∃σ' H',Inv X pins σ' H' s'∧D.nx σ' H'
 | .brk=>∃σ' H',Inv X pins σ' H' s'∧D.bk σ' H'
 | .cont=>∃σ' H',Inv X pins σ' H' s'∧D.ct σ' H'
 | .ret u=>∃v σ' H',Inv X pins σ' H' s'∧RelV v u∧D.rt v H'
def PE (X:Cx) (e:Expr) (t:TE):Prop:=
 ∀(pins:List (Addr×Obj)) (s:Shared) (σ:St) (H:Hp) (Q:VK),Inv X pins σ H s→t σ H Q→wpAny (model X.prog X.w) X.A (eval e X.env) (EP X pins σ Q) X.xe s
def PT (X:Cx) (e:Expr) (t:TT):Prop:=
 ∀(pins:List (Addr×Obj)) (s:Shared) (σ:St) (H:Hp) (Q:Bool→Hp→Prop),Inv X pins σ H s→t σ H Q→wpAny (model X.prog X.w) X.A (isTrue e X.env (eval e X.env)) (TP X pins σ Q) X.xe s
def PW (X:Cx) (e:Expr) (t:TT):Prop:=
 ∀(whole:Sem Value) (pins:List (Addr×Obj)) (s:Shared) (σ:St) (H:Hp) (Q:Bool→Hp→Prop),Inv X pins σ H s→t σ H Q→wpAny (model X.prog X.w) X.A (isTrue e X.env whole) (TP X pins σ Q) X.xe s
theorem PW.pt {X:Cx} {e:Expr} {t:TT} (h:PW X e t):PT X e t:=h _
def PA (X:Cx) (es:List Expr) (t:TA):Prop:=
 ∀(pos:Pos) (pins:List (Addr×Obj)) (s:Shared) (σ:St) (H:Hp) (Q:List V→Hp→Prop),Inv X pins σ H s→t σ H Q→wpAny (model X.prog X.w) X.A (spliced (backTo pos (starEach es X.env))) (AP X pins σ Q) X.xe s
def PS (X:Cx) (st:Stmt) (t:TS):Prop:=
 ∀(pins:List (Addr×Obj)) (s:Shared) (σ:St) (H:Hp) (D:Ends),Inv X pins σ H s→t D σ H→wpAny (model X.prog X.w) X.A (exec st X.env) (SP X pins D) X.xe s
def jG (X:Cx) (st:List Stmt) (t:TS):Prop:=
 ∀(pins:List (Addr×Obj)) (s:Shared) (σ:St) (H:Hp) (D:Ends),Inv X pins σ H s→t D σ H→wpAny (model X.prog X.w) X.A (execs st X.env) (SP X pins D) X.xe s
theorem aG {α:Type} {t:Sem α} {Q Q':α→Shared→Prop} {M:Model} {A:Around} {E:Value→Shared→Prop} {s:Shared} (h:wpAny M A t Q E s) (hQ:∀a s,Q a s→Q' a s):wpAny M A t Q' E s:=wpAny_mono h hQ fun _ _ x=>x
section
variable {X:Cx}
def zg (i:Nat):TE:=fun σ H Q=>∃v,σ[i]? =some (some v)∧Q v H
def tC (v:V):TE:=fun _ H Q=>Q v H
theorem Gn {i:Nat} {x:Str} {pos:Pos} (hN:X.N[i]? =some x) (hv:x' X.env.scope x) (hd:(x == ("__debug__":Str))=false:=by decide) (hcd:(x == ("__classdict__":Str))=false:=by decide):PE X (.Name x pos) (zg i):=by
 intro pins s σ H Q I h
 obtain⟨v,e,h⟩:=h
 obtain⟨m,hn,hl⟩:=I.loc
 obtain⟨u,r,l⟩:=hl i x v hN e hv
 have fin:EP X pins σ Q u s:=⟨v,H,I,r,h⟩
 rcases l with⟨hk,hm⟩ | ⟨hk,c,hc,hcell⟩
 ·exact wpAny_Name (wpAny_loadName_local I.ok.kind hk hn hm fin) hd
 ·rcases hk with hk | hk
  ·exact wpAny_Name (wpAny_loadName_cell I.ok.kind hk hc hcell fin) hd
  ·exact wpAny_Name (wpAny_loadName_free I.ok.kind hk hc hcell fin hcd) hd
theorem ao {i j pos}:PE X (.Constant (.int i) j pos) (tC (.int i)):=fun _ _ _ H _ I h=>wpAny_Constant_int ⟨.int i,H,I.tok _,⟨_,rfl⟩,h⟩
theorem jH {b j pos}:PE X (.Constant (.bool b) j pos) (tC (.bl b)):=fun _ _ _ H _ I h=>Constant_bool ⟨.bl b,H,I,rfl,h⟩
theorem Gp {j pos}:PE X (.Constant .none j pos) (tC .non):=fun _ _ _ H _ I h=>Constant_none ⟨.non,H,I,rfl,h⟩
theorem je {x j pos}:PE X (.Constant (.str x) j pos) (tC (.str x)):=fun _ _ _ H _ I h=>Calls.Constant_str ⟨.str x,H,I.tok _,⟨_,rfl⟩,h⟩
def Gl (X:Cx) (x:Str):Prop:=X.env.kindOf x=some .globalImplicit
theorem qu {E:Value→Shared→Prop} {pins:List (Addr×Obj)} {s:Shared} {σ:St} {H:Hp} {x:Str} {u:Value} {pos:Pos} {Q:Value→Shared→Prop} (I:Inv X pins σ H s) (hg:Gl X x) (hm:X.mg x=some u) (h:Q u s)
  (hd:(x == ("__debug__":Str))=false:=by decide):wpAny (model X.prog X.w) X.A (eval (.Name x pos) X.env) Q E s:=
 Calls.Name_function_global I.ok.kind hg (Calls.loadGlobal_global (by rw[I.ok.glob];exact I.mod.glob.keeps I.bk) hm h) hd
theorem fh {E:Value→Shared→Prop} {pins:List (Addr×Obj)} {s:Shared} {σ:St} {H:Hp} {x:Str} {u:Value} {pos:Pos} {Q:Value→Shared→Prop} (I:Inv X pins σ H s) (hg:Gl X x) (hm:X.mg x=none) (hv:bootBuiltins x=some u) (h:Q u s)
  (hn:x≠"__name__":=by decide) (hd:(x == ("__debug__":Str))=false:=by decide):wpAny (model X.prog X.w) X.A (eval (.Name x pos) X.env) Q E s:=by
 obtain⟨mb,h1,h2⟩:=I.mod.blt
 exact Calls.Name_function_global I.ok.kind hg (Calls.loadGlobal_builtin (by rw[I.ok.glob];exact I.mod.glob.keeps I.bk) hm (by rw[I.ok.blt];exact h1.keeps I.bk) ((h2 x hn).trans hv) h) hd
theorem E9 {x:Str} {v:V} {u:Value} {pos:Pos} (hg:Gl X x) (hm:X.mg x=some u) (r:RelV v u) (hd:(x == ("__debug__":Str))=false:=by decide):PE X (.Name x pos) (tC v):=
 fun _ _ _ H _ I h=>qu I hg hm ⟨v,H,I,r,h⟩ hd
theorem qv {x:Str} {v:V} {u:Value} {pos:Pos} (hg:Gl X x) (hm:X.mg x=none) (hv:bootBuiltins x=some u) (r:RelV v u) (hn:x≠"__name__":=by decide) (hd:(x == ("__debug__":Str))=false:=by decide):PE X (.Name x pos) (tC v):=
 fun _ _ _ H _ I h=>fh I hg hm hv ⟨v,H,I,r,h⟩ hn hd
variable {a b:Expr} {ta tb:TE} {pos:Pos}
def PC (X:Cx) (op:CmpOp) (a b:Expr) (t:TE):Prop:=
 ∀(pins:List (Addr×Obj)) (s:Shared) (σ:St) (H:Hp) (Q:VK),Inv X pins σ H s→t σ H Q→
  wpAny (model X.prog X.w) X.A (eval a X.env) (fun v s₁=>wpAny (model X.prog X.w) X.A (eval b X.env) (fun u s₂=>wpAny (model X.prog X.w) X.A (compareOp op v u) (EP X pins σ Q) X.xe s₂) X.xe s₁) X.xe s
def tB (t:TE):TT:=fun σ H Q=>t σ H fun x H1=>∃c,x=.bl c∧Q c H1
theorem Av {op:CmpOp} {t:TE} (h:PC X op a b t) (h1:behindInMarks op b=false:=by first | exact MM _ (by decide) (by decide) | rfl):PT X (.Compare a [op] [b] pos) (tB t):=by
 intro pins s σ H Q I hw
 refine wpAny_isTrue_Compare1 (aG (h pins s σ H _ I hw) fun v s1 h1=>aG h1 fun u s2 h2=>aG h2 fun c s3 ⟨x,H1,I1,r1,q1⟩=>?_) h1
 obtain⟨d,rfl,q⟩:=q1
 cases r1
 exact wpAny_truthy_bool ⟨H1,I1,q⟩
variable {tA K_:TT} {rest:List Expr}
def P7 (t u:TT):TT:=fun σ H Q=>t σ H fun c H1=>if c=true then Q true H1 else u σ H1 Q
def MN (t:TT):TT:=fun σ H Q=>t σ H fun c H1=>Q (!c) H1
theorem ux (ha:PT X a tA):PW X (.BoolOp .Or [a] pos) tA:=by
 intro wh pins s σ H Q I h
 refine isTrue_or (aG (ha pins s σ H Q I h) fun c s1 e=>?_)
 cases c with
 | false=>exact isTrue_or_nil e
 | true=>exact e
theorem kO (ha:PT X a tA) (hb:PW X (.BoolOp .Or (b::rest) pos) K_):PW X (.BoolOp .Or (a::b::rest) pos) (P7 tA K_):=by
 intro wh pins s σ H Q I h
 refine isTrue_or (aG (ha pins s σ H _ I h) fun c s1 ⟨H1,I1,q1⟩=>?_)
 cases c with
 | true=>exact⟨H1,I1,q1⟩
 | false=>exact hb wh pins s1 σ H1 Q I1 q1
theorem mq (ha:PT X a tA):PT X (.UnaryOp .Not a pos) (MN tA):=by
 intro pins s σ H Q I h
 exact isTrue_not (ha pins s σ H (fun c H1=>Q (!c) H1) I h)
def P8 (t:TT) (ta tb:TE):TE:=fun σ H Q=>t σ H fun c H1=>if c=true then ta σ H1 Q else tb σ H1 Q
theorem uy {c:Expr} (hc:PT X c tA) (ha:PE X a ta) (hb:PE X b tb):PE X (.IfExp c a b pos) (P8 tA ta tb):=by
 intro pins s σ H Q I h
 refine wpAny_IfExp (aG (hc pins s σ H _ I h) fun d s1 ⟨H1,I1,q1⟩=>?_)
 cases d with
 | true=>exact ha pins s1 σ H1 Q I1 q1
 | false=>exact hb pins s1 σ H1 Q I1 q1
end
def bJ (K:PySem.W.Frag) (H:Hp) (a:Addr) (xs:List V):Prop:=
 Rd H a (.lst xs)∨
  ∃(o:Obj) (its:Array Value) (n:Nat),K.lookup a=some o∧o.cls=.type "list"∧o.dict=none∧o.data=.seq its n∧its.size≤sizeLine∧Vals xs its.toList
def cH (K:PySem.W.Frag) (H:Hp) (a:Addr) (xs:List V):Prop:=
 Rd H a (.tup xs)∨
  ∃(o:Obj) (its:Array Value) (n:Nat),K.lookup a=some o∧o.cls=.type "tuple"∧o.data=.seq its n∧its.size≤sizeLine∧Vals xs its.toList
def MO:Value→Option V
 | .none=>some .non
 | .bool b=>some (.bl b)
 | .int i _=>some (.int i)
 | .str x _=>some (.str x)
 | .bytes b _=>some (.jb b)
 | .float b _=>some (.flt b)
 | .ref a=>some (.ref a)
 | .type n=>some (.ty n)
 | _=>none
theorem RelV.abs {x:V} {u:Value} (r:RelV x u):MO u=some x:=by
 cases x with
 | non=>cases r;rfl
 | bl _=>cases r;rfl
 | int _=>obtain⟨t,rfl⟩:=r;rfl
 | str _=>obtain⟨t,rfl⟩:=r;rfl
 | jb _=>obtain⟨t,rfl⟩:=r;rfl
 | flt _=>obtain⟨t,rfl⟩:=r;rfl
 | ref _=>cases r;rfl
 | ty _=>cases r;rfl
theorem RelV.inj {x y:V} {u:Value} (r:RelV x u) (q:RelV y u):x=y:=Option.some.inj (r.abs.symm.trans q.abs)
theorem Vals.inj:∀{xs ys:List V} {us:List Value},Vals xs us→Vals ys us→xs=ys
 | _,_,_,.nil,.nil=>rfl
 | _,_,_,.cons r t,.cons r' t'=>by rw[r.inj r',Vals.inj t t']
section
variable {X:Cx} {pins:List (Addr×Obj)} {σ:St} {H:Hp} {s:Shared} {a:Addr} {xs ys:List V}
theorem bJ.of {K:PySem.W.Frag} (h:H a=some (.lst xs)):bJ K H a xs:=.inl (.inl h)
theorem cH.of {K:PySem.W.Frag} (h:H a=some (.tup xs)):cH K H a xs:=.inl (.inl h)
theorem Inv.list (I:Inv X pins σ H s) (h:bJ X.K H a xs):∃its:List Value,Vals xs its∧PlainL s.heap a its.toArray∧xs.length≤sizeLine:=by
 rcases h with h | ⟨o,its,n,hk,hc,hd,hs,hz,r⟩
 ·obtain⟨z,its,n,r,e⟩:=h.ok I.hok
  exact⟨its,r,⟨_,n,e,rfl,rfl,rfl⟩,z⟩
 ·refine⟨its.toList,r,⟨o,n,I.gH a o hk,hc,hd,by simpa using hs⟩,?_⟩
  have e:=r.length
  simp only[Array.length_toList] at e
  omega
theorem Inv.tuple (I:Inv X pins σ H s) (h:cH X.K H a xs):∃its:List Value,Vals xs its∧IsTup s.heap a its.toArray∧xs.length≤sizeLine:=by
 rcases h with h | ⟨o,its,n,hk,hc,hs,hz,r⟩
 ·obtain⟨z,its,r,p⟩:=h.ok I.hok
  exact⟨its,r,p,z.1⟩
 ·refine⟨its.toList,r,⟨o,I.gH a o hk,hc,n,by simpa using hs⟩,?_⟩
  have e:=r.length
  simp only[Array.length_toList] at e
  omega
theorem Inv.oR (I:Inv X pins σ H s) (h:bJ X.K H a xs) (h':bJ X.K H a ys):xs=ys:=by
 obtain⟨its,r,⟨o,n,e,_,_,d⟩,_⟩:=I.list h
 obtain⟨its',r',⟨o',n',e',_,_,d'⟩,_⟩:=I.list h'
 rw[e] at e';cases e'
 rw[d] at d'
 injection d' with d1 _
 have:its=its':=by simpa using congrArg Array.toList d1
 subst this
 exact r.inj r'
theorem Inv.mw (I:Inv X pins σ H s) (h:cH X.K H a xs) (h':cH X.K H a ys):xs=ys:=by
 obtain⟨its,r,⟨o,e,_,n,d⟩,_⟩:=I.tuple h
 obtain⟨its',r',⟨o',e',_,n',d'⟩,_⟩:=I.tuple h'
 rw[e] at e';cases e'
 rw[d] at d'
 injection d' with d1 _
 have:its=its':=by simpa using congrArg Array.toList d1
 subst this
 exact r.inj r'
end
abbrev Cx.wish (X:Cx) (E:Value→Shared→Prop):Cx:={X with xe:=E}
abbrev Cx.yd (X:Cx):Cx:=X.wish fun _ _=>False
theorem Cx.Ok.wish {X:Cx} (ok:X.Ok) (E:Value→Shared→Prop):(X.wish E).Ok:=
 ⟨ok.mod,ok.kind,ok.glob,ok.blt,ok.above,ok.inj,ok.has,ok.cab,ok.hd,ok.frames,ok.stk,ok.Gk,ok.bs,ok.lZ,ok.uo,ok.uq,ok.gY,ok.ur⟩
theorem Cx.Ok.iC {X:Cx} {E:Value→Shared→Prop} (ok:(X.wish E).Ok):X.Ok:=
 ⟨ok.mod,ok.kind,ok.glob,ok.blt,ok.above,ok.inj,ok.has,ok.cab,ok.hd,ok.frames,ok.stk,ok.Gk,ok.bs,ok.lZ,ok.uo,ok.uq,ok.gY,ok.ur⟩
section
variable {X:Cx} {pins:List (Addr×Obj)} {σ:St} {H:Hp} {s:Shared} {E:Value→Shared→Prop}
theorem Inv.wish (I:Inv X pins σ H s) (E:Value→Shared→Prop):Inv (X.wish E) pins σ H s:=⟨I.ok.wish E,I.os,I.bare,I.base,I.loc,I.cell,I.free,I.gg,I.pin,I.hok,I.len⟩
theorem Inv.iC (I:Inv (X.wish E) pins σ H s):Inv X pins σ H s:=⟨I.ok.iC,I.os,I.bare,I.base,I.loc,I.cell,I.free,I.gg,I.pin,I.hok,I.len⟩
theorem SP.iC {D:Ends} {f:Flow} {s':Shared} (h:SP (X.wish E) pins D f s'):SP X pins D f s':=by
 cases f with
 | next=>obtain⟨σ',H',I,q⟩:=h;exact⟨σ',H',I.iC,q⟩
 | brk=>obtain⟨σ',H',I,q⟩:=h;exact⟨σ',H',I.iC,q⟩
 | cont=>obtain⟨σ',H',I,q⟩:=h;exact⟨σ',H',I.iC,q⟩
 | ret u=>obtain⟨v,σ',H',I,r,q⟩:=h;exact⟨v,σ',H',I.iC,r,q⟩
theorem jG.yd {st:List Stmt} {t:TS} (h:jG X.yd st t):jG X st t:=fun pins s σ H D I hw=>
 wpAny_mono (h pins s σ H D (I.wish _) hw) (fun _ _ q=>q.iC) fun _ _ z=>False.elim z
end
section
variable {X:Cx} {st:Stmt} {rest:List Stmt} {t u:TS} {e:Expr} {te:TE} {pos:Pos}
def Kd:TS:=fun D σ H=>D.nx σ H
def mx (t u:TS):TS:=fun D σ H=>t {D with nx:=u D} σ H
theorem cz:jG X [] Kd:=fun _ _ σ H _ I h=>wpAny_execs_nil ⟨σ,H,I,h⟩
theorem ah (h1:PS X st t) (h2:jG X rest u):jG X (st::rest) (mx t u):=by
 intro pins s σ H D I h
 refine wpAny_execs_cons (aG (h1 pins s σ H {D with nx:=u D} I h) fun f s1 q=>?_)
 cases f with
 | next=>
  obtain⟨σ',H',I',q⟩:=q
  exact h2 pins s1 σ' H' D I' q
 | ret v=>exact q
 | brk=>exact q
 | cont=>exact q
theorem au (h1:PS X st t):jG X [st] t:=by
 intro pins s σ H D I h
 refine wpAny_execs_cons (aG (h1 pins s σ H D I h) fun f s1 q=>?_)
 cases f with
 | next=>exact wpAny_execs_nil q
 | ret v=>exact q
 | brk=>exact q
 | cont=>exact q
theorem Inv.quiet {pins:List (Addr×Obj)} {σ:St} {H:Hp} {s:Shared} (I:Inv X pins σ H s):interactive X.env=false:=by simp[interactive,I.ok.kind]
def DM (te:TE):TS:=fun D σ H=>te σ H fun _ H1=>D.nx σ H1
theorem bR (he:PE X e te) (hs:swapsWith e none pos.line X.env=pure false:=by rfl):PS X (.Expr e pos) (DM te):=by
 intro pins s σ H D I h
 exact wpAny_Expr_any (aG (he pins s σ H _ I h) fun v s1 ⟨x,H1,I1,r1,q1⟩=>⟨σ,H1,I1,q1⟩) I.quiet hs
def Gq (te:TE):TS:=fun D σ H=>te σ H D.rt
theorem aY (he:PE X e te):PS X (.Return (some e) pos) (Gq te):=by
 intro pins s σ H D I h
 exact wpAny_Return_some (aG (he pins s σ H _ I h) fun v s1 ⟨x,H1,I1,r1,q1⟩=>⟨x,σ,H1,I1,r1,q1⟩)
def uz (c:TT) (t u:TS):TS:=fun D σ H=>c σ H fun b H1=>if b=true then t D σ H1 else u D σ H1
theorem dy {c:Expr} {a b:List Stmt} {tc:TT} (hc:PT X c tc) (ha:jG X a t) (hb:jG X b u):PS X (.If c a b pos) (uz tc t u):=by
 intro pins s σ H D I h
 refine wpAny_If (aG (hc pins s σ H _ I h) fun d s1 ⟨H1,I1,q1⟩=>?_)
 cases d with
 | true=>exact ha pins s1 σ H1 D I1 q1
 | false=>exact hb pins s1 σ H1 D I1 q1
end
abbrev TG:=V→St→Hp→(St→Hp→Prop)→Prop
abbrev rC:=List V→St→Hp→(St→Hp→Prop)→Prop
def PG (X:Cx) (target:Expr) (t:TG):Prop:=
 ∀(pins:List (Addr×Obj)) (s:Shared) (σ:St) (H:Hp) (v:V) (u:Value) (Q:St→Hp→Prop),Inv X pins σ H s→RelV v u→t v σ H Q→
  wpAny (model X.prog X.w) X.A (assign target X.env u) (fun _ s'=>∃σ' H',Inv X pins σ' H' s'∧Q σ' H') X.xe s
def Aw (X:Cx) (ts:List Expr) (t:rC):Prop:=
 ∀(pins:List (Addr×Obj)) (s:Shared) (σ:St) (H:Hp) (vs:List V) (us:List Value) (Q:St→Hp→Prop),Inv X pins σ H s→Vals vs us→t vs σ H Q→
  wpAny (model X.prog X.w) X.A (assignInOrder ((assignEach ts X.env).map (·.2)) us) (fun _ s'=>∃σ' H',Inv X pins σ' H' s'∧Q σ' H') X.xe s
abbrev Ck:=V→V→V→Hp→(Hp→Prop)→Prop
def Gr (X:Cx) (t:Ck):Prop:=
 ∀(pins:List (Addr×Obj)) (s:Shared) (σ:St) (H:Hp) (o i v:V) (ov iv u:Value) (Q:Hp→Prop),Inv X pins σ H s→RelV o ov→RelV i iv→RelV v u→t o i v H Q→
  wpAny (model X.prog X.w) X.A (setItem ov iv u) (fun _ s'=>∃H',Inv X pins σ H' s'∧Q H') X.xe s
section
variable {X:Cx} {pos:Pos}
def aC (i:Nat):TG:=fun v σ H Q=>Q (σ.set i (some v)) H
theorem ax {i:Nat} {x:Str} (hN:X.N.Nodup) (hi:X.N[i]? =some x) (hx:Loc X.env.scope x) (hf:X.fn x=true∨X.env.scope.names.lookup x=some .local:=by first | exact .inl rfl | exact .inr rfl | assumption):PG X (.Name x pos) (aC i):=by
 intro pins s σ H v u Q I r h
 exact wpAny_assign_Name (uw I hN hi hx r (fun s' I'=>⟨_,H,I',h⟩) hf)
def Gs:rC:=fun vs σ H Q=>vs=[]∧Q σ H
def zh (t:TG) (u:rC):rC:=fun vs σ H Q=>∃v r,vs=v::r∧t v σ H fun σ' H'=>u r σ' H' Q
theorem fO:Aw X [] Gs:=by
 intro pins s σ H vs us Q I r h
 obtain⟨e,h⟩:=h
 subst e
 cases r
 exact assignInOrder_nil ⟨σ,H,I,h⟩
theorem bu {e:Expr} {es:List Expr} {t:TG} {u:rC} (h1:PG X e t) (h2:Aw X es u)
  (hs:(assignEach (e::es) X.env).map (·.2)=assign e X.env::(assignEach es X.env).map (·.2):=by rfl):Aw X (e::es) (zh t u):=by
 intro pins s σ H vs us Q I r h
 obtain⟨v,vr,e1,h⟩:=h
 subst e1
 cases r with
 | cons r rr=>
  rw[hs]
  refine assignInOrder_cons (aG (h1 pins s σ H _ _ _ I r h) fun _ s1 ⟨σ1,H1,I1,q1⟩=>?_)
  exact h2 pins s1 σ1 H1 _ _ Q I1 rr q1
def Cm (K:PySem.W.Frag) (n:Nat) (t:rC):TG:=fun v σ H Q=>∃a xs,v=.ref a∧cH K H a xs∧xs.length=n∧t xs σ H Q
theorem my {es:List Expr} {k:Nat} {t:rC} {n:Nat} (hc:X.calm=true) (h:Aw X es t)
  (hn:(assignEach es X.env).length=n:=by rfl) (hst:(assignEach es X.env).findIdx? (·.1)=none:=by rfl):PG X (.Tuple es k pos) (Cm X.K n t):=by
 intro pins s σ H v u Q I r hw
 obtain⟨a,xs,e1,hq,hl,hw⟩:=hw
 subst e1
 cases r
 obtain⟨its,rv,ht,hz⟩:=I.tuple hq
 refine assign_Tuple_tuple (I.ok.hd hc) ht (by simp[hn,←hl,rv.length]) hst fun h' hx=>?_
 have I1:Inv X pins σ H {s with heap:=h'}:=I.kept (t':=s.toks) fun b o e=>hx b o (Nat.ne_of_lt (Heap.lt_size e)) e
 exact h pins _ σ H xs _ Q I1 (by simpa using rv) hw
def MP (to ti:TE) (t:Ck):TG:=fun v σ H Q=>to σ H fun o H1=>ti σ H1 fun i H2=>t o i v H2 fun H3=>Q σ H3
theorem pI {o i:Expr} {to ti:TE} {t:Ck} (ho:PE X o to) (hi:PE X i ti) (hs:Gr X t)
  (ha:∀v,assign (.Subscript o i pos) X.env v=(do
   let ov ←holding [v] (eval o X.env)
   let iv ←holding [v,ov] (eval i X.env)
   standAt pos
   holding [v,ov,iv] (setItem ov iv v)
   release [v,ov,iv] []):=by intro _;rfl):PG X (.Subscript o i pos) (MP to ti t):=by
 intro pins s σ H v u Q I r h
 rw[ha]
 refine wpAny_bind (wpAny_holding (aG (ho pins s σ H _ I h) fun ov s1 ⟨x,H1,I1,r1,q1⟩=>?_))
 refine wpAny_bind (wpAny_holding (aG (hi pins s1 σ H1 _ I1 q1) fun iv s2 ⟨y,H2,I2,r2,q2⟩=>?_))
 refine wpAny_bind (wpAny_standAt (wpAny_bind (wpAny_holding (aG (hs pins s2 σ H2 x y v ov iv u _ I2 r1 r2 r q2) fun _ s3 ⟨H3,I3,q3⟩=>?_))))
 exact wpAny_release ⟨σ,H3,I3,q3⟩
def qw (te:TE) (g:TG):TS:=fun D σ H=>te σ H fun x H1=>g x σ H1 D.nx
theorem j8 {tg e:Expr} {te:TE} {g:TG} (he:PE X e te) (hg:PG X tg g) (hs:swapsWithSole [tg] e pos.line X.env=pure false:=by rfl) (hw:swappedStores [tg] e X.env=pure none:=by rfl)
  (h1:(assignEach [tg] X.env).map (·.2)=[assign tg X.env]:=by rfl):PS X (.Assign [tg] e pos) (qw te g):=by
 intro pins s σ H D I h
 refine wpAny_Assign_stores (aG (he pins s σ H _ I h) fun v s1 ⟨x,H1,I1,r1,q1⟩=>?_) hs hw
 rw[h1]
 exact aG (hg pins s1 σ H1 x v _ I1 r1 q1) fun _ s2 q=>q
theorem av {i:Nat} {x:Str} {e:Expr} {te:TE} {pos':Pos} (hN:X.N.Nodup) (hi:X.N[i]? =some x) (hx:Loc X.env.scope x) (he:PE X e te) (hs:swapsWith e (some (.Name x pos')) pos.line X.env=pure false:=by rfl) (hf:X.fn x=true∨X.env.scope.names.lookup x=some .local:=by first | exact .inl rfl | exact .inr rfl | assumption):
  PS X (.Assign [.Name x pos'] e pos) (qw te (aC i)):=by
 intro pins s σ H D I h
 refine wpAny_Assign_Name (aG (he pins s σ H _ I h) fun v s1 ⟨y,H1,I1,r1,q1⟩=>?_) hs
 exact uw I1 hN hi hx r1 (fun s2 I2=>⟨_,H1,I2,q1⟩) hf
def j9 (c:TT) (tb:TS):TS:=fun D σ H=>∃W:Nat→St→Hp→Prop,(∃m,W m σ H)∧∀m σ H,W m σ H→
 c σ H fun b H1=>if b=true then ∃N:St→Hp→Prop,(∀σ' H',N σ' H'→∃m',m'<m∧W m' σ' H')∧tb {D with nx:=N,ct:=N,bk:=D.nx} σ H1 else D.nx σ H1
theorem kP {c:Expr} {body:List Stmt} {tc:TT} {tb:TS} (hp:PassesOwn (model X.prog X.w) X.A X.env X.xe) (hc:PT X c tc) (hb:jG X body tb):PS X (.While c body [] pos) (j9 tc tb):=by
 intro pins s σ H D I h
 obtain⟨W,⟨m0,w0⟩,turn⟩:=h
 refine wpAny_While (codeAny_whileLoop (fun n s'=>∃σ' H',Inv X pins σ' H' s'∧W n σ' H') ?_ m0 ⟨σ,H,I,w0⟩)
 rintro n s1 ⟨σ1,H1,I1,w1⟩
 refine wpAny_passesOwn hp (aG (hc pins s1 σ1 H1 _ I1 (turn n σ1 H1 w1)) fun b s2 ⟨H2,I2,q2⟩=>?_)
 cases b with
 | true=>
  obtain⟨N,hN,q2⟩:=q2
  rw[if_pos rfl]
  refine wpAny_passesOwn hp (aG (hb pins s2 σ1 H2 _ I2 q2) fun f s3 q3=>?_)
  cases f with
  | next=>
   obtain⟨σ3,H3,I3,n3⟩:=q3
   obtain⟨m',hm,w3⟩:=hN σ3 H3 n3
   exact⟨m',hm,σ3,H3,I3,w3⟩
  | cont=>
   obtain⟨σ3,H3,I3,n3⟩:=q3
   obtain⟨m',hm,w3⟩:=hN σ3 H3 n3
   exact⟨m',hm,σ3,H3,I3,w3⟩
  | brk=>exact q3
  | ret v=>exact q3
 | false=>
  rw[if_neg Bool.false_ne_true]
  exact wpAny_execs_nil ⟨σ1,H2,I2,q2⟩
end
structure It where
 go:Nat→Hp→Prop
 ot:Nat→Hp→V→Hp→Prop
 stop:Nat→Hp→Prop
def jf (X:Cx) (pins:List (Addr×Obj)) (H:Hp) (b:Addr):Prop:=
 H b=none∧b≠X.env.locals∧b ∉ X.fs∧(b∈X.ex∨X.s₀.heap.objs.size≤b)∧(∀x c,X.env.cells.lookup x=some c→c≠b)∧∀p∈X.pn++pins,p.1≠b
theorem Inv.jZ {X:Cx} {pins:List (Addr×Obj)} {σ:St} {H H':Hp} {s:Shared} {b:Addr} (I:Inv X pins σ H s) (hb:s.heap.objs.size≤b) (hn:H' b=none):jf X pins H' b:=by
 refine⟨hn,Nat.ne_of_gt (Nat.lt_of_lt_of_le I.lt hb),I.MK hb,.inr (Nat.le_trans I.sz hb),fun x c e z=>?_,fun p hp z=>?_⟩
 ·obtain⟨v,q⟩:=I.cell x c e
  exact absurd (Nat.lt_of_lt_of_le q.lt (by rw[z];exact hb)) (Nat.lt_irrefl _)
 ·exact absurd (Nat.lt_of_lt_of_le (Heap.lt_size (I.pin p hp).1) (by rw[z];exact hb)) (Nat.lt_irrefl _)
structure Turn (P:Program) (w:World) (K:PySem.W.Frag) (tg:Expr) (J:It) (fp:List Addr) (it:Addr) (tn:Nat→Heap→Prop):Prop where
 mem:it∈fp
 obj:∀i h,tn i h→∀b∈fp,∃o,h.get? b=some o∧∀v,o.data≠.cell v
 keep:∀i h h',tn i h→(∀b∈fp,∀o,h.get? b=some o→h'.get? b=some o)→tn i h'
 item:∀(X:Cx),X.prog=P→X.w=w→X.K=K→X.calm=true→∀(i:Nat) (pins:List (Addr×Obj)) (s:Shared) (σ:St) (H:Hp) (E:Value→Shared→Prop),Inv X pins σ H s→(∀b∈fp,jf X pins H b)→tn i s.heap→J.go i H→
  wpAny (model P w) X.A (pyNext (.ref it)) (fun r s1=>∃u,r=some u∧
   wpAny (model P w) X.A (letOwnedTupleGo tg (.ref it) u) (fun _ s2=>∃x H',Inv X pins σ H' s2∧RelV x u∧J.ot i H x H'∧tn (i+1) s2.heap∧∀b∈fp,H' b=none) E s1) E s
 done:∀(X:Cx),X.prog=P→X.w=w→X.K=K→X.calm=true→∀(i:Nat) (pins:List (Addr×Obj)) (s:Shared) (σ:St) (H:Hp) (E:Value→Shared→Prop),Inv X pins σ H s→(∀b∈fp,jf X pins H b)→tn i s.heap→J.stop i H→
  wpAny (model P w) X.A (pyNext (.ref it)) (fun r s1=>r=none∧Inv X pins σ H s1) E s
 self:∀(A:Around) (i:Nat) (s:Shared) (Q:Value→Shared→Prop) (E:Value→Shared→Prop),tn i s.heap→Q (.ref it) s→wpAny (model P w) A (pyIter (.ref it)) Q E s
abbrev TI:=St→Hp→(It→Hp→Prop)→Prop
def PIE (X:Cx) (pins:List (Addr×Obj)) (σ:St) (tg:Expr) (R:It→Hp→Prop) (itv:Value) (s2:Shared):Prop:=
 ∃(it:Addr) (fp:List Addr) (tn:Nat→Heap→Prop) (J:It) (H':Hp),itv=.ref it∧Inv X pins σ H' s2∧Turn X.prog X.w X.K tg J fp it tn∧tn 0 s2.heap∧(∀b∈fp,jf X pins H' b)∧R J H'
def PI (X:Cx) (tg iter:Expr) (wi:TI):Prop:=
 ∀(pins:List (Addr×Obj)) (s:Shared) (σ:St) (H:Hp) (R:It→Hp→Prop),Inv X pins σ H s→wi σ H R→
  wpAny (model X.prog X.w) X.A (eval iter X.env) (fun v s1=>wpAny (model X.prog X.w) X.A (pyIter v) (PIE X pins σ tg R) X.xe s1) X.xe s
theorem ug {M:Model} {A:Around} {E:Value→Shared→Prop} {s:Shared} {tg:Expr} {it:Addr} {u:Value} {o:Obj} {n:String} {vs:Array Value} {Q:Unit→Shared→Prop} (ho:s.heap.get? it=some o) (hc:o.cls=.type n) (hd:o.data=.fields vs)
  (hn:["enumerate","zip","dict_itemiterator","dict_reverseitemiterator","odict_iterator","itertools.zip_longest","itertools.pairwise"].contains n=false) (hQ:Q () s):wpAny M A (letOwnedTupleGo tg (.ref it) u) Q E s:=by
 unfold letOwnedTupleGo
 cases tg<;>first
  | exact wpAny_pure hQ
  | (cases u<;>first
    | exact wpAny_pure hQ
    | (refine wpAny_bind (wpAny_load ho ?_)
       rw[hc,hd]
       show wpAny M A (if(["enumerate","zip","dict_itemiterator","dict_reverseitemiterator","odict_iterator","itertools.zip_longest","itertools.pairwise"].contains n&&vs[0]? == some (rawInt _))=true then _ else _) Q E s
       rw[if_neg (by intro h;rw[hn,Bool.false_and] at h;cases h)]
       exact wpAny_pure hQ))
def ye (K:PySem.W.Frag) (a:Addr):It:=
 ⟨fun i H=>∃xs x,bJ K H a xs∧xs[i]? =some x,fun i H x H'=>H'=H∧∀xs,bJ K H a xs→xs[i]? =some x,fun i H=>∃xs,bJ K H a xs∧xs.length≤i⟩
def uA (K:PySem.W.Frag) (a:Addr):It:=
 ⟨fun i H=>∃xs x,cH K H a xs∧xs[i]? =some x,fun i H x H'=>H'=H∧∀xs,cH K H a xs→xs[i]? =some x,fun i H=>∃xs,cH K H a xs∧xs.length≤i⟩
def pJ (lo:Int) (n:Nat):It:=⟨fun i _=>i<n,fun i H x H'=>H'=H∧x=.int (lo+i),fun i _=>n≤i⟩
theorem Ax {P:Program} {w:World} {K:PySem.W.Frag} {tg:Expr} (a it:Addr):Turn P w K tg (ye K a) [it] it (fun i h=>h.IsListIter it a i) where
 mem:=by simp
 obj:=fun i h st b hb=>by
  have e:b=it:=by simpa using hb
  subst e
  obtain⟨o,e,c,d⟩:=st
  exact⟨o,e,fun v z=>by rw[d] at z;cases z⟩
 keep:=fun i h h' st k=>st.at fun o e=>k it (by simp) o e
 item:=by
  intro X hP hw hK hc i pins s σ H E I hf st hg
  subst hP hw hK
  obtain⟨xs,x,hq,hx⟩:=hg
  obtain⟨its,rv,p,hz⟩:=I.list hq
  obtain⟨u,hu,ru⟩:=rv.get hx
  obtain⟨f0,f1,f2,f3,f4,f5⟩:=hf it (by simp)
  refine wpAny_pyNext_list_item st p.isList (x:=u) (by simpa using hu) fun h' st' sb=>?_
  have I1:Inv X pins σ H {s with heap:=h'}:=I.turned (t':=s.toks) (fun b o hb e=>(sb.2 b hb).trans e) f0 f1 f3 f4 f5
  obtain⟨o,e,c,d⟩:=id st'
  exact⟨u,rfl,ug (s:={s with heap:=h'}) e c d (by decide) ⟨x,H,I1,ru,⟨rfl,fun ys hy=>by rw[I.oR hy hq];exact hx⟩,st',fun b hb=>(hf b hb).1⟩⟩
 done:=by
  intro X hP hw hK hc i pins s σ H E I hf st hg
  subst hP hw hK
  obtain⟨xs,hq,hx⟩:=hg
  obtain⟨its,rv,p,hz⟩:=I.list hq
  obtain⟨f0,f1,f2,f3,f4,f5⟩:=hf it (by simp)
  have hl:=rv.length
  exact wpAny_pyNext_list_end (I.ok.hd hc) st p.isList (by simp;omega) fun h' eb=>⟨rfl,I.turned (t':=s.toks) (fun b o hb e=>eb b o hb e) f0 f1 f3 f4 f5⟩
 self:=fun _ _ _ _ _ st h=>wpAny_pyIter_listiter st h
theorem zi {P:Program} {w:World} {K:PySem.W.Frag} {tg:Expr} (a it:Addr):Turn P w K tg (uA K a) [it] it (fun i h=>h.IsTupleIter it a i) where
 mem:=by simp
 obj:=fun i h st b hb=>by
  have e:b=it:=by simpa using hb
  subst e
  obtain⟨o,e,c,d⟩:=st
  exact⟨o,e,fun v z=>by rw[d] at z;cases z⟩
 keep:=fun i h h' st k=>st.at fun o e=>k it (by simp) o e
 item:=by
  intro X hP hw hK hc i pins s σ H E I hf st hg
  subst hP hw hK
  obtain⟨xs,x,hq,hx⟩:=hg
  obtain⟨its,rv,p,hz⟩:=I.tuple hq
  obtain⟨u,hu,ru⟩:=rv.get hx
  obtain⟨f0,f1,f2,f3,f4,f5⟩:=hf it (by simp)
  refine wpAny_pyNext_tuple_item st (show s.heap.IsTuple a its.toArray from p) (x:=u) (by simpa using hu) fun h' st' sb=>?_
  have I1:Inv X pins σ H {s with heap:=h'}:=I.turned (t':=s.toks) (fun b o hb e=>(sb.2 b hb).trans e) f0 f1 f3 f4 f5
  obtain⟨o,e,c,d⟩:=id st'
  exact⟨u,rfl,ug (s:={s with heap:=h'}) e c d (by decide) ⟨x,H,I1,ru,⟨rfl,fun ys hy=>by rw[I.mw hy hq];exact hx⟩,st',fun b hb=>(hf b hb).1⟩⟩
 done:=by
  intro X hP hw hK hc i pins s σ H E I hf st hg
  subst hP hw hK
  obtain⟨xs,hq,hx⟩:=hg
  obtain⟨its,rv,p,hz⟩:=I.tuple hq
  obtain⟨f0,f1,f2,f3,f4,f5⟩:=hf it (by simp)
  have hl:=rv.length
  exact wpAny_pyNext_tuple_end (I.ok.hd hc) st (show s.heap.IsTuple a its.toArray from p) (by simp;omega) fun h' eb=>⟨rfl,I.turned (t':=s.toks) (fun b o hb e=>eb b o hb e) f0 f1 f3 f4 f5⟩
 self:=fun _ _ _ _ _ st h=>wpAny_pyIter_tupleiter st h
theorem zj {P:Program} {w:World} {K:PySem.W.Frag} {tg:Expr} (it:Addr) (lo:Int) (n:Nat):Turn P w K tg (pJ lo n) [it] it (fun i h=>IsRangeIter h it (lo+(i:Nat)*1) ((n:Int)-(i:Nat)) 1) where
 mem:=by simp
 obj:=fun i h st b hb=>by
  have e:b=it:=by simpa using hb
  subst e
  exact⟨_,st,fun v z=>by
   have z':Data.fields _=Data.cell v:=z
   cases z'⟩
 keep:=fun i h h' st k=>k it (by simp) _ st
 item:=by
  intro X hP hw hK hc i pins s σ H E I hf st hg
  subst hP hw hK
  obtain⟨f0,f1,f2,f3,f4,f5⟩:=hf it (by simp)
  have W:=Walks.range (prog:=X.prog) (w:=X.w) (I.ok.hd hc) it lo 1 n
  refine W.item i s _ _ hg st fun v h' tk hv st' kk=>?_
  obtain⟨t,rfl⟩:=hv
  have I1:Inv X pins σ H {s with heap:=h',toks:=tk}:=I.turned (fun b o hb e=>kk b o (by simpa using hb) e) f0 f1 f3 f4 f5
  refine⟨_,rfl,ug (s:={s with heap:=h',toks:=tk}) (n:="range_iterator") st' rfl rfl (by decide) ⟨.int (lo+i),H,I1,⟨t,?_⟩,⟨rfl,rfl⟩,st',fun b hb=>(hf b hb).1⟩⟩
  rw[Int.mul_one]
 done:=by
  intro X hP hw hK hc i pins s σ H E I hf st hg
  subst hP hw hK
  obtain⟨f0,f1,f2,f3,f4,f5⟩:=hf it (by simp)
  exact wpAny_pyNext_range_end (I.ok.hd hc) st (by have:n≤i:=hg;omega) fun h' eb=>⟨rfl,I.turned (t':=s.toks) (fun b o hb e=>eb b o hb e) f0 f1 f3 f4 f5⟩
 self:=fun _ _ _ _ _ st h=>wpAny_pyIter_rangeiter st h
section
variable {X:Cx} {tg:Expr}
def Ke (K:PySem.W.Frag) (tl:TE):TI:=fun σ H R=>tl σ H fun x H1=>∃a,x=.ref a∧(∃xs,bJ K H1 a xs)∧R (ye K a) H1
def Gu (K:PySem.W.Frag) (tl:TE):TI:=fun σ H R=>tl σ H fun x H1=>∃a,x=.ref a∧(∃xs,cH K H1 a xs)∧R (uA K a) H1
theorem cR {l:Expr} {tl:TE} (hl:PE X l tl):PI X tg l (Ke X.K tl):=by
 intro pins s σ H R I h
 refine aG (hl pins s σ H _ I h) fun v s1 ⟨x,H1,I1,r1,q1⟩=>?_
 obtain⟨a,e,⟨xs,hq⟩,q⟩:=q1
 subst e
 cases r1
 obtain⟨its,rv,p,hz⟩:=I1.list hq
 refine wpAny_pyIter_list p.isList ?_
 refine⟨s1.heap.objs.size,[s1.heap.objs.size],_,_,H1,rfl,I1.kept (t':=s1.toks) fun b o e=>Heap.get?_push_of_some _ e,Ax a _,⟨_,Heap.get?_push_size _ rfl,rfl,rfl⟩,fun b hb=>?_,q⟩
 have e:b=s1.heap.objs.size:=by simpa using hb
 subst e
 exact I1.jZ (Nat.le_refl _) (I1.hok.fresh (Nat.le_refl _))
theorem fZ {l:Expr} {tl:TE} (hl:PE X l tl):PI X tg l (Gu X.K tl):=by
 intro pins s σ H R I h
 refine aG (hl pins s σ H _ I h) fun v s1 ⟨x,H1,I1,r1,q1⟩=>?_
 obtain⟨a,e,⟨xs,hq⟩,q⟩:=q1
 subst e
 cases r1
 obtain⟨its,rv,p,hz⟩:=I1.tuple hq
 refine wpAny_pyIter_tuple (show s1.heap.IsTuple a its.toArray from p) ?_
 refine⟨s1.heap.objs.size,[s1.heap.objs.size],_,_,H1,rfl,I1.kept (t':=s1.toks) fun b o e=>Heap.get?_push_of_some _ e,zi a _,⟨_,Heap.get?_push_size _ rfl,rfl,rfl⟩,fun b hb=>?_,q⟩
 have e:b=s1.heap.objs.size:=by simpa using hb
 subst e
 exact I1.jZ (Nat.le_refl _) (I1.hok.fresh (Nat.le_refl _))
theorem uB {pins:List (Addr×Obj)} {σ:St} {H:Hp} {s:Shared} {R:It→Hp→Prop} {E:Value→Shared→Prop} {lo hi:Int} {t u v:Tok} {tk:Nat} (I:Inv X pins σ H s) (h1: -(2 ^ 62)≤lo) (h2:lo<2 ^ 62) (h3: -(2 ^ 62)≤hi) (h4:hi<2 ^ 62)
  (q:R (pJ lo (hi-lo).toNat) H):wpAny (model X.prog X.w) X.A (pyIter (.ref s.heap.objs.size)) (PIE X pins σ tg R) E {s with heap:=s.heap.push {cls:=.type "range",data:=.fields #[.int lo t,.int hi u,.int 1 v]},toks:=tk}:=by
 refine wpAny_pyIter_range (IsRange.new ..) (small_one h1 h2 h3 h4) ?_
 have I1:Inv X pins σ H {s with heap:=s.heap.push {cls:=.type "range",data:=.fields #[.int lo t,.int hi u,.int 1 v]},toks:=tk}:=I.kept fun b o e=>Heap.get?_push_of_some _ e
 refine⟨(s.heap.push {cls:=.type "range",data:=.fields #[.int lo t,.int hi u,.int 1 v]}).objs.size,[(s.heap.push {cls:=.type "range",data:=.fields #[.int lo t,.int hi u,.int 1 v]}).objs.size],_,_,H,rfl,
  I1.kept (t':=tk) fun b o e=>Heap.get?_push_of_some _ e,zj _ lo (hi-lo).toNat,?_,fun b hb=>?_,q⟩
 ·have e1:lo+((0:Nat):Int)*1=lo:=by simp
  have e2:(((hi-lo).toNat:Nat):Int)-((0:Nat):Int)=Builtin.Range.rangeSize lo hi 1:=by rw[rangeSize_one];split<;>omega
  show IsRangeIter _ _ (lo+((0:Nat):Int)*1) ((((hi-lo).toNat:Nat):Int)-((0:Nat):Int)) 1
  rw[e1,e2]
  exact Heap.get?_push_size _ rfl
 ·have e:b=(s.heap.push {cls:=.type "range",data:=.fields #[.int lo t,.int hi u,.int 1 v]}).objs.size:=by simpa using hb
  subst e
  exact I1.jZ (Nat.le_refl _) (I1.hok.fresh (Nat.le_refl _))
def Kf (ta:TA):TI:=fun σ H R=>ta σ H fun vs H1=>∃j:Int,vs=[.int j]∧ -(2 ^ 62)≤j∧j<2 ^ 62∧R (pJ 0 j.toNat) H1
def Kg (ta:TA):TI:=fun σ H R=>ta σ H fun vs H1=>∃i j:Int,vs=[.int i,.int j]∧(-(2 ^ 62)≤i∧i<2 ^ 62∧ -(2 ^ 62)≤j∧j<2 ^ 62)∧R (pJ i (j-i).toNat) H1
theorem bE {a:Expr} {ta:TA} {p pos:Pos} (hg:Gl X "range") (hm:X.mg "range"=none) (ha:PA X [a] ta) (hs:starEach [a] X.env=[(false,eval a X.env)]:=by rfl):PI X tg (.Call (.Name "range" p) [a] [] pos) (Kf ta):=by
 intro pins s σ H R I h
 refine Call_ (fh I hg hm boot_range (PyProof.Rows.callWith_type1 (aG (ha pos pins s σ H _ I h) fun us s1 ⟨vs,H1,I1,r1,q1⟩=>?_) hs rfl))
 obtain⟨j,e,q1,q2,q⟩:=q1
 subst e
 cases r1 with
 | cons r rr=>
  cases rr
  obtain⟨t,rfl⟩:=r
  exact call_range_1 (uB I1 (by omega) (by omega) q1 q2 (by simpa using q))
theorem Ay {a b:Expr} {ta:TA} {p pos:Pos} (hg:Gl X "range") (hm:X.mg "range"=none) (ha:PA X [a,b] ta) (hs:starEach [a,b] X.env=[(false,eval a X.env),(false,eval b X.env)]:=by rfl) (hs2:starEach [b] X.env=[(false,eval b X.env)]:=by rfl):
  PI X tg (.Call (.Name "range" p) [a,b] [] pos) (Kg ta):=by
 intro pins s σ H R I h
 refine Call_ (fh I hg hm boot_range (PyProof.Rows.callWith_type1 (aG (ha pos pins s σ H _ I h) fun us s1 ⟨vs,H1,I1,r1,q1⟩=>?_) (by rw[hs,hs2]) (by rw[hs2];rfl)))
 obtain⟨i,j,e,⟨q1,q2,q3,q4⟩,q⟩:=q1
 subst e
 cases r1 with
 | cons r rr=>
  cases rr with
  | cons r' rr=>
   cases rr
   obtain⟨t,rfl⟩:=r
   obtain⟨t',rfl⟩:=r'
   exact call_range_2 (uB I1 q1 q2 q3 q4 q)
def Gv (wi:TI) (g:TG) (tb:TS):TS:=fun D σ H=>wi σ H fun J H1=>∃W:Nat→Nat→St→Hp→Prop,(∃m,W 0 m σ H1)∧∀i m σ H,W i m σ H→
 (J.stop i H∧D.nx σ H)∨(J.go i H∧∃N:St→Hp→Prop,(∀σ' H',N σ' H'→∃m',m'<m∧W (i+1) m' σ' H')∧∀x H',J.ot i H x H'→g x σ H' fun σ2 H2=>tb {D with nx:=N,ct:=N,bk:=D.nx} σ2 H2)
def mz (fp:List Addr) (h:Heap):List (Addr×Obj):=fp.filterMap fun b=>(h.get? b).map fun o=>(b,o)
theorem iW {fp:List Addr} {h:Heap} {b:Addr} {o:Obj} (hb:b∈fp) (e:h.get? b=some o):(b,o)∈mz fp h:=List.mem_filterMap.mpr ⟨b,hb,by rw[e];rfl⟩
theorem Az {fp:List Addr} {h:Heap} {p:Addr×Obj} (hp:p∈mz fp h):p.1∈fp∧h.get? p.1=some p.2:=by
 obtain⟨b,hb,e⟩:=List.mem_filterMap.mp hp
 cases q:h.get? b with
 | none=>rw[q] at e;cases e
 | some o=>
  rw[q] at e
  have e':(b,o)=p:=Option.some.inj e
  subst e'
  exact⟨hb,q⟩
theorem Inv.pinned {pins:List (Addr×Obj)} {σ:St} {H:Hp} {s:Shared} {fp:List Addr} (I:Inv X pins σ H s) (hf:∀b∈fp,jf X pins H b) (ho:∀b∈fp,∃o,s.heap.get? b=some o∧∀v,o.data≠.cell v):Inv X (pins++mz fp s.heap) σ H s:=
 I.yc fun p hp=>(List.mem_append.mp hp).elim (fun z=>I.pin p (List.mem_append_right _ z)) fun z=>by
  obtain⟨hb,e⟩:=Az z
  obtain⟨f0,f1,f2,_⟩:=hf p.1 hb
  obtain⟨o,e',d⟩:=ho p.1 hb
  rw[e] at e';cases e'
  exact⟨e,f0,f1,f2,d⟩
theorem Inv.kQ {pins pl:List (Addr×Obj)} {σ:St} {H:Hp} {s:Shared} (I:Inv X (pins++pl) σ H s):Inv X pins σ H s:=I.yc fun p hp=>I.pin p (List.mem_append_right _ (List.mem_append_left _ hp))
theorem bF {iter:Expr} {body:List Stmt} {wi:TI} {g:TG} {tb:TS} {pos:Pos} (hp:PassesOwn (model X.prog X.w) X.A X.env X.xe) (hc:X.calm=true) (hi:PI X tg iter wi) (hg:PG X tg g) (hb:jG X body tb)
  (hs:∀x,foldedSetIterable iter X.env x=pure x:=by intro _;rfl):PS X (.For tg iter body [] pos) (Gv wi g tb):=by
 intro pins s σ H D I h
 refine wpAny_For (aG (hi pins s σ H _ I h) fun v s1 h1=>aG h1 fun itv s2 h2=>?_) hs
 obtain⟨it,fp,tn,J,H2,e,I2,T,st2,f2,W,⟨m0,w0⟩,turn⟩:=h2
 subst e
 have stat:∀{H':Hp},(∀b∈fp,H' b=none)→∀b∈fp,jf X pins H' b:=fun hn b hb=>⟨hn b hb,(f2 b hb).2⟩
 refine codeAny_forLoop_any (fun n s'=>∃i σ' H',Inv X pins σ' H' s'∧tn i s'.heap∧(∀b∈fp,H' b=none)∧W i n σ' H') ?_ m0 ⟨0,σ,H2,I2,st2,fun b hb=>(f2 b hb).1,w0⟩
 rintro n s3 ⟨i,σ3,H3,I3,st3,K0,w3⟩
 rcases turn i n σ3 H3 w3 with⟨stop,qn⟩ | ⟨go,N,hN,step⟩
 ·refine wpAny_passesOwn hp (aG (T.done X rfl rfl rfl hc i pins s3 σ3 H3 X.xe I3 (stat K0) st3 stop) fun r s4 ⟨hr,I4⟩=>?_)
  subst hr
  exact wpAny_execs_nil ⟨σ3,H3,I4,qn⟩
 ·refine wpAny_passesOwn hp (aG (T.item X rfl rfl rfl hc i pins s3 σ3 H3 X.xe I3 (stat K0) st3 go) fun r s4 ⟨u,hr,h4⟩=>?_)
  subst hr
  refine wpAny_passesOwn hp (aG h4 fun _ s5 ⟨x,H5,I5,r5,y5,fu,DN⟩=>?_)
  have P9:=I5.pinned (stat DN) (T.obj _ _ fu)
  refine wpAny_passesOwn hp (aG (hg _ s5 σ3 H5 x u _ P9 r5 (step x H5 y5)) fun _ s6 ⟨σ6,H6,I6,q6⟩=>?_)
  refine wpAny_passesOwn hp (aG (hb _ s6 σ6 H6 _ I6 q6) fun f s7 q7=>?_)
  have again:∀{σ7:St} {H7:Hp},Inv X (pins++mz fp s5.heap) σ7 H7 s7→N σ7 H7→∃m,m<n∧∃i σ' H',Inv X pins σ' H' s7∧tn i s7.heap∧(∀b∈fp,H' b=none)∧W i m σ' H':=fun {σ7 H7} I7 n7=>by
   obtain⟨m',hm,w7⟩:=hN σ7 H7 n7
   refine⟨m',hm,i+1,σ7,H7,I7.kQ,T.keep _ _ _ fu fun b hb o e=>(I7.pin (b,o) (List.mem_append_right _ (List.mem_append_right _ (iW hb e)))).1,fun b hb=>?_,w7⟩
   obtain⟨o,e,d⟩:=T.obj _ _ fu b hb
   exact(I7.pin (b,o) (List.mem_append_right _ (List.mem_append_right _ (iW hb e)))).2.1
  cases f with
  | next=>obtain⟨σ7,H7,I7,n7⟩:=q7;exact again I7 n7
  | cont=>obtain⟨σ7,H7,I7,n7⟩:=q7;exact again I7 n7
  | brk=>obtain⟨σ7,H7,I7,q7⟩:=q7;exact⟨σ7,H7,I7.kQ,q7⟩
  | ret v=>obtain⟨x7,σ7,H7,I7,r7,q7⟩:=q7;exact⟨x7,σ7,H7,I7.kQ,r7,q7⟩
end
theorem fw {K:PySem.W.Frag} {a:Addr} {xs:List V} {g:TG} {tb:TS} {D:Ends} {σ:St} {H:Hp} (Pv:Nat→St→Hp→Prop) (h0:Pv 0 σ H) (hl:∀i σ H,i≤xs.length→Pv i σ H→bJ K H a xs)
  (hs:∀i x σ H,xs[i]? =some x→Pv i σ H→g x σ H fun σ2 H2=>tb {D with nx:=Pv (i+1),ct:=Pv (i+1),bk:=D.nx} σ2 H2) (hd:∀σ H,Pv xs.length σ H→D.nx σ H):
  ∃W:Nat→Nat→St→Hp→Prop,(∃m,W 0 m σ H)∧∀i m σ H,W i m σ H→
   ((ye K a).stop i H∧D.nx σ H)∨((ye K a).go i H∧∃N:St→Hp→Prop,(∀σ' H',N σ' H'→∃m',m'<m∧W (i+1) m' σ' H')∧∀x H',(ye K a).ot i H x H'→g x σ H' fun σ2 H2=>tb {D with nx:=N,ct:=N,bk:=D.nx} σ2 H2):=by
 refine⟨fun i m σ H=>m=xs.length-i∧i≤xs.length∧Pv i σ H,⟨xs.length,by simp,Nat.zero_le _,h0⟩,?_⟩
 rintro i m σ H ⟨rfl,hi,p⟩
 have q:=hl i σ H hi p
 by_cases hlt:i<xs.length
 ·refine .inr ⟨⟨xs,xs[i],q,by simp[hlt]⟩,Pv (i+1),fun σ' H' p'=>⟨xs.length-(i+1),by omega,rfl,hlt,p'⟩,fun x H' y=>?_⟩
  obtain⟨e,y⟩:=y
  subst e
  exact hs i x σ _ (y xs q) p
 ·have e:i=xs.length:=by omega
  subst e
  exact .inl ⟨⟨xs,q,Nat.le_refl _⟩,hd σ H p⟩
theorem qx {K:PySem.W.Frag} {a:Addr} {xs:List V} {g:TG} {tb:TS} {D:Ends} {σ:St} {H:Hp} (Pv:Nat→St→Hp→Prop) (h0:Pv 0 σ H) (hl:∀i σ H,i≤xs.length→Pv i σ H→cH K H a xs)
  (hs:∀i x σ H,xs[i]? =some x→Pv i σ H→g x σ H fun σ2 H2=>tb {D with nx:=Pv (i+1),ct:=Pv (i+1),bk:=D.nx} σ2 H2) (hd:∀σ H,Pv xs.length σ H→D.nx σ H):
  ∃W:Nat→Nat→St→Hp→Prop,(∃m,W 0 m σ H)∧∀i m σ H,W i m σ H→
   ((uA K a).stop i H∧D.nx σ H)∨((uA K a).go i H∧∃N:St→Hp→Prop,(∀σ' H',N σ' H'→∃m',m'<m∧W (i+1) m' σ' H')∧∀x H',(uA K a).ot i H x H'→g x σ H' fun σ2 H2=>tb {D with nx:=N,ct:=N,bk:=D.nx} σ2 H2):=by
 refine⟨fun i m σ H=>m=xs.length-i∧i≤xs.length∧Pv i σ H,⟨xs.length,by simp,Nat.zero_le _,h0⟩,?_⟩
 rintro i m σ H ⟨rfl,hi,p⟩
 have q:=hl i σ H hi p
 by_cases hlt:i<xs.length
 ·refine .inr ⟨⟨xs,xs[i],q,by simp[hlt]⟩,Pv (i+1),fun σ' H' p'=>⟨xs.length-(i+1),by omega,rfl,hlt,p'⟩,fun x H' y=>?_⟩
  obtain⟨e,y⟩:=y
  subst e
  exact hs i x σ _ (y xs q) p
 ·have e:i=xs.length:=by omega
  subst e
  exact .inl ⟨⟨xs,q,Nat.le_refl _⟩,hd σ H p⟩
theorem dH {lo:Int} {n:Nat} {g:TG} {tb:TS} {D:Ends} {σ:St} {H:Hp} (Pv:Nat→St→Hp→Prop) (h0:Pv 0 σ H)
  (hs:∀i σ H,i<n→Pv i σ H→g (.int (lo+i)) σ H fun σ2 H2=>tb {D with nx:=Pv (i+1),ct:=Pv (i+1),bk:=D.nx} σ2 H2) (hd:∀σ H,Pv n σ H→D.nx σ H):
  ∃W:Nat→Nat→St→Hp→Prop,(∃m,W 0 m σ H)∧∀i m σ H,W i m σ H→
   ((pJ lo n).stop i H∧D.nx σ H)∨((pJ lo n).go i H∧∃N:St→Hp→Prop,(∀σ' H',N σ' H'→∃m',m'<m∧W (i+1) m' σ' H')∧∀x H',(pJ lo n).ot i H x H'→g x σ H' fun σ2 H2=>tb {D with nx:=N,ct:=N,bk:=D.nx} σ2 H2):=by
 refine⟨fun i m σ H=>m=n-i∧i≤n∧Pv i σ H,⟨n,by simp,Nat.zero_le _,h0⟩,?_⟩
 rintro i m σ H ⟨rfl,hi,p⟩
 by_cases hlt:i<n
 ·refine .inr ⟨hlt,Pv (i+1),fun σ' H' p'=>⟨n-(i+1),by omega,rfl,hlt,p'⟩,fun x H' y=>?_⟩
  obtain⟨e,y⟩:=y
  subst e y
  exact hs i σ _ hlt p
 ·have e:i=n:=by omega
  subst e
  exact .inl ⟨Nat.le_refl _,hd σ H p⟩
theorem Cn {c:TT} {tb:TS} {D:Ends} {σ:St} {H:Hp} (Pv:St→Hp→Prop) (μ:St→Hp→Nat) (h0:Pv σ H)
  (hs:∀σ H,Pv σ H→c σ H fun b H1=>if b=true then tb {D with nx:=fun σ' H'=>Pv σ' H'∧μ σ' H'<μ σ H,ct:=fun σ' H'=>Pv σ' H'∧μ σ' H'<μ σ H,bk:=D.nx} σ H1 else D.nx σ H1)
  (mono:∀σ H Q Q',(∀b H1,Q b H1→Q' b H1)→c σ H Q→c σ H Q'):j9 c tb D σ H:=by
 refine⟨fun m σ H=>m=μ σ H∧Pv σ H,⟨_,rfl,h0⟩,?_⟩
 rintro m σ H ⟨rfl,p⟩
 refine mono σ H _ _ (fun b H1 q=>?_) (hs σ H p)
 cases b with
 | true=>exact⟨_,fun σ' H' ⟨p',l⟩=>⟨_,l,rfl,p'⟩,q⟩
 | false=>exact q
abbrev R2:=V→V→Hp→VK→Prop
def dk (X:Cx) (f:Value→Value→Sem Value) (r:R2):Prop:=
 ∀(pins:List (Addr×Obj)) (s:Shared) (σ:St) (H:Hp) (x y:V) (v u:Value) (Q:VK),Inv X pins σ H s→RelV x v→RelV y u→r x y H Q→
  wpAny (model X.prog X.w) X.A (f v u) (EP X pins σ Q) X.xe s
def Gw (X:Cx) (f:Value→Sem Value) (r:V→Hp→VK→Prop):Prop:=
 ∀(pins:List (Addr×Obj)) (s:Shared) (σ:St) (H:Hp) (x:V) (v:Value) (Q:VK),Inv X pins σ H s→RelV x v→r x H Q→
  wpAny (model X.prog X.w) X.A (f v) (EP X pins σ Q) X.xe s
def cS (X:Cx) (f:Value) (r:List V→Hp→VK→Prop):Prop:=
 ∀(pins:List (Addr×Obj)) (s:Shared) (σ:St) (H:Hp) (xs:List V) (us:List Value) (Q:VK),Inv X pins σ H s→Vals xs us→r xs H Q→
  wpAny (model X.prog X.w) X.A (call f us) (EP X pins σ Q) X.xe s
def MQ (X:Cx) (r:V→Hp→(Bool→Hp→Prop)→Prop):Prop:=
 ∀(pins:List (Addr×Obj)) (s:Shared) (σ:St) (H:Hp) (x:V) (v:Value) (Q:Bool→Hp→Prop),Inv X pins σ H s→RelV x v→r x H Q→
  wpAny (model X.prog X.w) X.A (truthy v) (TP X pins σ Q) X.xe s
def DP (r:R2) (ta tb:TE):TE:=fun σ H Q=>ta σ H fun x H1=>tb σ H1 fun y H2=>r x y H2 Q
def Qa (r:V→Hp→VK→Prop) (ta:TE):TE:=fun σ H Q=>ta σ H fun x H1=>r x H1 Q
def rI (C:Int→Int→Prop) (g:Int→Int→V):R2:=fun x y H Q=>∃i j,x=.int i∧y=.int j∧C i j∧Q (g i j) H
def rD (g:Int→Int→V):R2:=fun x y H Q=>∃i j,x=.int i∧y=.int j∧Q (g i j) H
def rU (g:Int→V):V→Hp→VK→Prop:=fun x H Q=>∃i,x=.int i∧Q (g i) H
section
variable {X:Cx} {a b c:Expr} {ta tb tc:TE} {pos:Pos}
theorem Co (ha:PE X a ta) (hb:PE X b tb) {pins:List (Addr×Obj)} {s:Shared} {σ:St} {H:Hp} {R:V→V→Hp→Prop} (I:Inv X pins σ H s)
  (h:ta σ H fun x H1=>tb σ H1 fun y H2=>R x y H2) {Q:Value→Shared→Prop} {f:Value→Value→Sem Value}
  (hf:∀v u s2 x y H2,Inv X pins σ H2 s2→RelV x v→RelV y u→R x y H2→wpAny (model X.prog X.w) X.A (f v u) Q X.xe s2):
  wpAny (model X.prog X.w) X.A (eval a X.env) (fun v s₁=>wpAny (model X.prog X.w) X.A (eval b X.env) (fun u s₂=>wpAny (model X.prog X.w) X.A (f v u) Q X.xe s₂) X.xe s₁) X.xe s:=by
 refine aG (ha pins s σ H _ I h) fun v s1 ⟨x,H1,I1,r1,q1⟩=>?_
 refine aG (hb pins s1 σ H1 _ I1 q1) fun u s2 ⟨y,H2,I2,r2,q2⟩=>?_
 exact hf v u s2 x y H2 I2 r1 r2 q2
theorem aO {op:Operator} {r:R2} (ho:dk X (binaryOp op) r) (ha:PE X a ta) (hb:PE X b tb):PE X (.BinOp a op b pos) (DP r ta tb):=by
 intro pins s σ H Q I h
 exact wpAny_BinOp (Co ha hb I h fun v u s2 x y H2 I2 rx ry q=>ho pins s2 σ H2 x y v u Q I2 rx ry q)
theorem Kh {op:UnaryOp} {r:V→Hp→VK→Prop} (ho:Gw X (unaryOp op) r) (ha:PE X a ta):PE X (.UnaryOp op a pos) (Qa r ta):=by
 intro pins s σ H Q I h
 exact UnaryOp_ (aG (ha pins s σ H _ I h) fun v s1 ⟨x,H1,I1,r1,q1⟩=>ho pins s1 σ H1 x v Q I1 r1 q1)
theorem AA {f:Value→Value→Sem Value} {C:Int→Int→Prop} {g:Int→Int→Int}
  (rule:∀(i j:Int) (t u:Tok) (s:Shared) (Q:Value→Shared→Prop) (E:Value→Shared→Prop),C i j→Q (.int (g i j) s.toks) {s with toks:=s.toks+1}→wpAny (model X.prog X.w) X.A (f (.int i t) (.int j u)) Q E s):
  dk X f (rI C fun i j=>.int (g i j)):=by
 intro pins s σ H x y v u Q I rx ry h
 obtain⟨i,j,rfl,rfl,hc,q⟩:=h
 obtain⟨t,rfl⟩:=rx
 obtain⟨t',rfl⟩:=ry
 exact rule i j t t' s _ _ hc ⟨.int (g i j),H,I.tok _,⟨_,rfl⟩,q⟩
theorem Gx {f:Value→Value→Sem Value} {g:Int→Int→Int}
  (rule:∀(i j:Int) (t u:Tok) (s:Shared) (Q:Value→Shared→Prop) (E:Value→Shared→Prop),Q (.int (g i j) s.toks) {s with toks:=s.toks+1}→wpAny (model X.prog X.w) X.A (f (.int i t) (.int j u)) Q E s):
  dk X f (rD fun i j=>.int (g i j)):=by
 intro pins s σ H x y v u Q I rx ry h
 obtain⟨i,j,rfl,rfl,q⟩:=h
 obtain⟨t,rfl⟩:=rx
 obtain⟨t',rfl⟩:=ry
 exact rule i j t t' s _ _ ⟨.int (g i j),H,I.tok _,⟨_,rfl⟩,q⟩
theorem zm {f:Value→Value→Sem Value} {g:Int→Int→Bool}
  (rule:∀(i j:Int) (t u:Tok) (s:Shared) (Q:Value→Shared→Prop) (E:Value→Shared→Prop),Q (.bool (g i j)) s→wpAny (model X.prog X.w) X.A (f (.int i t) (.int j u)) Q E s):
  dk X f (rD fun i j=>.bl (g i j)):=by
 intro pins s σ H x y v u Q I rx ry h
 obtain⟨i,j,rfl,rfl,q⟩:=h
 obtain⟨t,rfl⟩:=rx
 obtain⟨t',rfl⟩:=ry
 exact rule i j t t' s _ _ ⟨.bl (g i j),H,I,rfl,q⟩
def MS (i j:Int):Prop:=0<j∧j<1073741824
def Gy (i j:Int):Prop:=0≤j∧j≤1000000∧i.natAbs<2 ^ 64
def Cp (i j:Int):Prop:=(-(2 ^ 64)<i∧i<2 ^ 64)∨(-(2 ^ 64)<j∧j<2 ^ 64)
theorem Cp.ok {i j:Int} (h:Cp i j):IntMulOk i j:=by
 rcases h with⟨h1,h2⟩ | ⟨h1,h2⟩
 ·exact .of_left (intBits_le_64 h1 h2)
 ·exact .of_right (intBits_le_64 h1 h2)
theorem dn:dk X (binaryOp .Add) (rD fun i j=>.int (i+j)):=Gx fun _ _ _ _ _ _ _ q=>add_int q
theorem uC:dk X (binaryOp .Sub) (rD fun i j=>.int (i-j)):=Gx fun _ _ _ _ _ _ _ q=>sub_int q
theorem f_:dk X (binaryOp .Mult) (rI Cp fun i j=>.int (i*j)):=AA fun _ _ _ _ _ _ _ hc q=>mul_int q hc.ok
theorem yf:dk X (binaryOp .FloorDiv) (rI MS fun i j=>.int (i / j)):=AA fun i j _ _ _ _ _ hc q=>by
 have h1:(0:Int)<j:=hc.1
 have h2:j<1073741824:=hc.2
 exact floordiv_int (by omega) (by rw[Int.fdiv_eq_ediv_of_nonneg i (by omega)];exact q) (.inl (PyProof.noPylong_small (by omega)))
theorem mB:dk X (binaryOp .Mod) (rI (fun _ j=>0<j) fun i j=>.int (i % j)):=AA fun i j _ _ _ _ _ hc q=>by
 have h1:(0:Int)<j:=hc
 exact mod_int' (by omega) (by rw[Int.fmod_eq_emod_of_nonneg i (by omega)];exact q)
theorem AB:dk X (binaryOp .Pow) (rI Gy fun i j=>.int (i ^ j.toNat)):=AA fun _ _ _ _ _ _ _ hc q=>pow_int_small hc.1 hc.2.1 hc.2.2 q
theorem Qb {f:Value→Sem Value} {g:Int→Int}
  (rule:∀(i:Int) (t:Tok) (s:Shared) (Q:Value→Shared→Prop) (E:Value→Shared→Prop),Q (.int (g i) s.toks) {s with toks:=s.toks+1}→wpAny (model X.prog X.w) X.A (f (.int i t)) Q E s):
  Gw X f (rU fun i=>.int (g i)):=by
 intro pins s σ H x v Q I rx h
 obtain⟨i,rfl,q⟩:=h
 obtain⟨t,rfl⟩:=rx
 exact rule i t s _ _ ⟨.int (g i),H,I.tok _,⟨_,rfl⟩,q⟩
theorem Gz:Gw X (unaryOp .USub) (rU fun i=>.int (-i)):=Qb fun _ _ _ _ _ q=>neg_int q
end
def GA:V→V→Bool
 | .non,.non=>true | .non,.int _=>true | .int _,.non=>true | .non,.bl _=>true | .bl _,.non=>true | .non,.str _=>true | .str _,.non=>true
 | .int _,.int _=>true | .bl _,.bl _=>true | .str _,.str _=>true | .jb _,.jb _=>true
 | .int _,.str _=>true | .str _,.int _=>true | .bl _,.str _=>true | .str _,.bl _=>true
 | _,_=>false
def Qd:R2:=fun x y H Q=>GA x y=true∧Q (.bl (decide (x=y))) H
def Qe:R2:=fun x y H Q=>GA x y=true∧Q (.bl (!decide (x=y))) H
theorem yg {i j:Int}:decide (V.int i=V.int j)=(i == j):=by
 rw[Bool.eq_iff_iff]
 simp
theorem AE {i j:Bool}:decide (V.bl i=V.bl j)=(i == j):=by
 rw[Bool.eq_iff_iff]
 simp
theorem yh {i j:Str}:decide (V.str i=V.str j)=(i == j):=by
 rw[Bool.eq_iff_iff]
 simp
theorem yk {i j:Array UInt8}:decide (V.jb i=V.jb j)=(i.toList == j.toList):=by
 rw[Bool.eq_iff_iff]
 cases i
 cases j
 simp
section
variable {X:Cx} {a b c:Expr} {ta tb tc:TE} {pos:Pos}
theorem bj {pins:List (Addr×Obj)} {σ:St} {H:Hp} {s:Shared} {Q:VK} {k k':Bool} (I:Inv X pins σ H s) (q:Q (.bl k) H) (e:k=k'):EP X pins σ Q (.bool k') s:=by
 subst e
 exact⟨.bl k,H,I,rfl,q⟩
theorem nJ:dk X (compareOp .Eq) Qd:=by
 intro pins s σ H x y v u Q I rx ry h
 obtain⟨hs,q⟩:=h
 cases x with
 | non=>
  cases rx
  cases y with
  | non=>cases ry;exact PySem.EqNone.eq_none_none (bj I q (by simp))
  | bl j=>cases ry;exact PySem.EqNone.eq_none_bool (bj I q (by simp))
  | int j=>obtain⟨t',rfl⟩:=ry;exact PySem.EqNone.eq_none_int (bj I q (by simp))
  | str j=>obtain⟨t',rfl⟩:=ry;exact PySem.EqNone.eq_none_str (bj I q (by simp))
  | _=>exact absurd (show false=true from hs) Bool.false_ne_true
 | bl i=>
  cases rx
  cases y with
  | non=>cases ry;exact PySem.EqNone.eq_bool_none (bj I q (by simp))
  | bl j=>cases ry;exact eq_bool (bj I q AE)
  | str j=>obtain⟨t',rfl⟩:=ry;exact PySem.EqMixed.eq_bool_str (bj I q (by simp))
  | _=>exact absurd (show false=true from hs) Bool.false_ne_true
 | int i=>
  obtain⟨t,rfl⟩:=rx
  cases y with
  | non=>cases ry;exact PySem.EqNone.eq_int_none (bj I q (by simp))
  | int j=>obtain⟨t',rfl⟩:=ry;exact eq_int (bj I q yg)
  | str j=>obtain⟨t',rfl⟩:=ry;exact PySem.EqMixed.eq_int_str (bj I q (by simp))
  | _=>exact absurd (show false=true from hs) Bool.false_ne_true
 | str i=>
  obtain⟨t,rfl⟩:=rx
  cases y with
  | non=>cases ry;exact PySem.EqNone.eq_str_none (bj I q (by simp))
  | bl j=>cases ry;exact PySem.EqMixed.eq_str_bool (bj I q (by simp))
  | int j=>obtain⟨t',rfl⟩:=ry;exact PySem.EqMixed.eq_str_int (bj I q (by simp))
  | str j=>obtain⟨t',rfl⟩:=ry;exact eq_str (bj I q yh)
  | _=>exact absurd (show false=true from hs) Bool.false_ne_true
 | jb i=>
  obtain⟨t,rfl⟩:=rx
  cases y with
  | jb j=>obtain⟨t',rfl⟩:=ry;exact PySem.W.eq_bytes (bj I q yk)
  | _=>exact absurd (show false=true from hs) Bool.false_ne_true
 | _=>cases y<;>exact absurd (show false=true from hs) Bool.false_ne_true
theorem nK:dk X (compareOp .NotEq) Qe:=by
 intro pins s σ H x y v u Q I rx ry h
 obtain⟨hs,q⟩:=h
 cases x with
 | non=>
  cases rx
  cases y with
  | non=>cases ry;exact PySem.EqNone.ne_none_none (bj I q (by simp))
  | bl j=>cases ry;exact PySem.EqNone.ne_none_bool (bj I q (by simp))
  | int j=>obtain⟨t',rfl⟩:=ry;exact PySem.EqNone.ne_none_int (bj I q (by simp))
  | str j=>obtain⟨t',rfl⟩:=ry;exact PySem.EqNone.ne_none_str (bj I q (by simp))
  | _=>exact absurd (show false=true from hs) Bool.false_ne_true
 | bl i=>
  cases rx
  cases y with
  | non=>cases ry;exact PySem.EqNone.ne_bool_none (bj I q (by simp))
  | bl j=>cases ry;exact ne_bool (bj I q (congrArg not AE))
  | str j=>obtain⟨t',rfl⟩:=ry;exact PySem.EqMixed.ne_bool_str (bj I q (by simp))
  | _=>exact absurd (show false=true from hs) Bool.false_ne_true
 | int i=>
  obtain⟨t,rfl⟩:=rx
  cases y with
  | non=>cases ry;exact PySem.EqNone.ne_int_none (bj I q (by simp))
  | int j=>obtain⟨t',rfl⟩:=ry;exact ne_int (bj I q (congrArg not yg))
  | str j=>obtain⟨t',rfl⟩:=ry;exact PySem.EqMixed.ne_int_str (bj I q (by simp))
  | _=>exact absurd (show false=true from hs) Bool.false_ne_true
 | str i=>
  obtain⟨t,rfl⟩:=rx
  cases y with
  | non=>cases ry;exact PySem.EqNone.ne_str_none (bj I q (by simp))
  | bl j=>cases ry;exact PySem.EqMixed.ne_str_bool (bj I q (by simp))
  | int j=>obtain⟨t',rfl⟩:=ry;exact PySem.EqMixed.ne_str_int (bj I q (by simp))
  | str j=>obtain⟨t',rfl⟩:=ry;exact ne_str (bj I q (congrArg not yh))
  | _=>exact absurd (show false=true from hs) Bool.false_ne_true
 | jb i=>
  obtain⟨t,rfl⟩:=rx
  cases y with
  | jb j=>obtain⟨t',rfl⟩:=ry;exact PySem.W.ne_bytes (bj I q (congrArg not yk))
  | _=>exact absurd (show false=true from hs) Bool.false_ne_true
 | _=>cases y<;>exact absurd (show false=true from hs) Bool.false_ne_true
theorem uh:dk X (compareOp .Lt) (rD fun i j=>.bl (decide (i<j))):=zm fun _ _ _ _ _ _ _ q=>lt_int q
theorem DQ:dk X (compareOp .LtE) (rD fun i j=>.bl (decide (i≤j))):=zm fun _ _ _ _ _ _ _ q=>le_int q
theorem pK:dk X (compareOp .Gt) (rD fun i j=>.bl (decide (j<i))):=zm fun _ _ _ _ _ _ _ q=>gt_int q
theorem Ki:dk X (compareOp .GtE) (rD fun i j=>.bl (decide (j≤i))):=zm fun _ _ _ _ _ _ _ q=>ge_int q
theorem bQ (b:Expr) {op:CmpOp} (h:op≠.In:=by decide) (h2:op≠.NotIn:=by decide):behindInMarks op b=false:=by
 have e1:(op == CmpOp.In)=false:=by cases op<;>first | rfl | exact absurd rfl h
 have e2:(op == CmpOp.NotIn)=false:=by cases op<;>first | rfl | exact absurd rfl h2
 cases b<;>simp[behindInMarks,e1,e2]
theorem nO {op:CmpOp} {r:R2} (ho:dk X (compareOp op) r) (ha:PE X a ta) (hb:PE X b tb) (hm:behindInMarks op b=false):PE X (.Compare a [op] [b] pos) (DP r ta tb):=by
 intro pins s σ H Q I h
 exact wpAny_Compare1 (Co ha hb I h fun v u s2 x y H2 I2 rx ry q=>ho pins s2 σ H2 x y v u Q I2 rx ry q) hm
def DS (t:TE):TT:=fun σ H Q=>t σ H fun x H'=>∃k,x=.bl k∧Q k H'
theorem br {op:CmpOp} {r:R2} (ho:dk X (compareOp op) r) (ha:PE X a ta) (hb:PE X b tb) (hm:behindInMarks op b=false):PT X (.Compare a [op] [b] pos) (DS (DP r ta tb)):=by
 intro pins s σ H Q I h
 refine wpAny_isTrue_Compare1 (aG (ha pins s σ H _ I h) fun v s1 ⟨x,H1,I1,r1,q1⟩=>aG (hb pins s1 σ H1 _ I1 q1) fun u s2 ⟨y,H2,I2,r2,q2⟩=>
  aG (ho pins s2 σ H2 x y v u _ I2 r1 r2 q2) fun c s3 ⟨z,H3,I3,r3,k,e,q3⟩=>?_) hm
 subst e
 cases r3
 exact wpAny_truthy_bool ⟨H3,I3,q3⟩
def GB (r r':R2) (ta tb tc:TE):TE:=fun σ H Q=>ta σ H fun x H1=>tb σ H1 fun y H2=>r x y H2 fun z H3=>∃k,z=.bl k∧
 (if k=true then tc σ H3 fun w' H4=>r' y w' H4 Q else Q (.bl false) H3)
theorem Cq {op op':CmpOp} {r r':R2} (ho:dk X (compareOp op) r) (ho':dk X (compareOp op') r') (ha:PE X a ta) (hb:PE X b tb) (hc:PE X c tc)
  (hm:lastMarks [op,op'] [b,c]=false:=by with_unfolding_all rfl):PT X (.Compare a [op,op'] [b,c] pos) (DS (GB r r' ta tb tc)):=by
 intro pins s σ H Q I h
 refine isTrue_chain (aG (ha pins s σ H _ I h) fun v s1 ⟨x,H1,I1,r1,q1⟩=>test_link (aG (hb pins s1 σ H1 _ I1 q1) fun u s2 ⟨y,H2,I2,r2,q2⟩=>
  aG (ho pins s2 σ H2 x y v u _ I2 r1 r2 q2) fun d s3 ⟨z,H3,I3,r3,k,e,q3⟩=>?_)) hm
 subst e
 cases r3
 refine wpAny_truthy_bool ?_
 cases k with
 | false=>
  obtain⟨k',e',q'⟩:=q3
  cases e'
  exact ite_ff ⟨H3,I3,q'⟩
 | true=>
  refine ite_tt (test_last (aG (hc pins s3 σ H3 _ I3 q3) fun w' s4 ⟨z',H4,I4,r4,q4⟩=>aG (ho' pins s4 σ H4 y z' u w' _ I4 r2 r4 q4) fun d' s5 ⟨z2,H5,I5,r5,k2,e2,q5⟩=>?_))
  subst e2
  cases r5
  exact wpAny_truthy_bool ⟨H5,I5,q5⟩
def Cr (K:PySem.W.Frag) (x:V) (H:Hp) (k:Bool):Prop:=
 match x with
 | .non=>k=false
 | .bl b=>k=b
 | .int i=>k=(i != 0)
 | .str y=>y.length≤sizeLine∧k=((y.length:Int) != 0)
 | .jb y=>y.size≤sizeLine∧k=((y.size:Int) != 0)
 | .ref p=>(∃xs,bJ K H p xs∧k= !xs.isEmpty)∨(∃xs,cH K H p xs∧k= !xs.isEmpty)∨∃kvs,H p=some (.dK kvs)∧k= !kvs.isEmpty
 | _=>False
theorem zo {κ:Type} {kvs:List (κ×V)} {vs:List (κ×Value)} (r:KV kvs vs):(!vs.isEmpty)= !kvs.isEmpty:=by
 cases r<;>rfl
theorem pL {xs:List V} {its:List Value} (r:Vals xs its):(!its.toArray.isEmpty)= !xs.isEmpty:=by
 cases r<;>simp
theorem j':(sizeLine:Nat)<2 ^ 63:=by rw[sizeLine_eq];decide
theorem GC:MQ X (fun x H Q=>∃k,Cr X.K x H k∧Q k H):=by
 intro pins s σ H x v Q I rx h
 obtain⟨k,e,q⟩:=h
 have hl:=j'
 have hs:sizeLine=16777216:=sizeLine_eq
 cases x with
 | non=>
  cases rx
  have e':k=false:=e
  subst e'
  exact truthy_none ⟨H,I,q⟩
 | bl b=>
  cases rx
  have e':k=b:=e
  subst e'
  exact wpAny_truthy_bool ⟨H,I,q⟩
 | int i=>
  obtain⟨t,rfl⟩:=rx
  have e':k=(i != 0):=e
  subst e'
  exact PySem.P.truthy_int ⟨H,I,q⟩
 | str y=>
  obtain⟨t,rfl⟩:=rx
  obtain⟨hy,e'⟩:y.length≤sizeLine∧k=((y.length:Int) != 0):=e
  subst e'
  exact PySem.P.truthy_str (by omega) ⟨H,I.tok _,q⟩
 | jb y=>
  obtain⟨t,rfl⟩:=rx
  obtain⟨hy,e'⟩:y.size≤sizeLine∧k=((y.size:Int) != 0):=e
  subst e'
  exact PySem.W.truthy_bytes (by omega) ⟨H,I.tok _,q⟩
 | ref p=>
  cases rx
  have e':(∃xs,bJ X.K H p xs∧k= !xs.isEmpty)∨(∃xs,cH X.K H p xs∧k= !xs.isEmpty)∨∃kvs,H p=some (.dK kvs)∧k= !kvs.isEmpty:=e
  rcases e' with⟨xs,hx,e'⟩ | ⟨xs,hx,e'⟩ | ⟨kvs,hx,e'⟩
  ·subst e'
   obtain⟨its,r,pl,hz⟩:=I.list hx
   have hlen:=r.length
   exact wpAny_truthy_list pl.isList (by simp only[List.size_toArray];omega) ⟨H,I.tok _,by rw[pL r];exact q⟩
  ·subst e'
   obtain⟨its,r,pl,hz⟩:=I.tuple hx
   have hlen:=r.length
   exact truthy_tuple pl (by simp only[List.size_toArray];omega) ⟨H,I.tok _,by rw[pL r];exact q⟩
  ·subst e'
   obtain⟨hz,hS,vs,r,m⟩:kvs.length≤sizeLine∧(p == sysModules)=false∧∃vs,KV kvs vs∧s.heap.DictOf (aV X.prog X.w) p vs:=I.hok p _ hx
   have hlen:kvs.length=vs.length:=Paired.length r
   exact wpAny_truthy_dict hS m (by omega) ⟨H,I.tok _,by rw[zo r];exact q⟩
 | _=>exact(show False from e).elim
theorem gZ (ha:PE X a ta) (he:∀whole,isTrue a X.env whole=(do let v ←whole;standAt a.pos;holding [v] (truthy v))):
  PT X a (fun σ H Q=>ta σ H fun x H'=>∃k,Cr X.K x H' k∧Q k H'):=by
 intro pins s σ H Q I h
 exact isTrue_plain (aG (ha pins s σ H _ I h) fun v s1 ⟨x,H1,I1,r1,q1⟩=>GC pins s1 σ H1 x v Q I1 r1 q1) (he _)
theorem zq:dk X (binaryOp .Add) (fun x y H Q=>∃i j,x=.str i∧y=.str j∧i.length+j.length≤sizeLine∧Q (.str (i++j)) H):=by
 intro pins s σ H x y v u Q I rx ry h
 obtain⟨i,j,rfl,rfl,hz,q⟩:=h
 obtain⟨t,rfl⟩:=rx
 obtain⟨t',rfl⟩:=ry
 exact add_str (fun t' tk=>⟨.str (i++j),H,I.tok _,⟨_,rfl⟩,q⟩) hz
theorem vals1 {x:V} {us:List Value} (r:Vals [x] us):∃u,us=[u]∧RelV x u:=by
 cases r with
 | cons r1 r2=>cases r2;exact⟨_,rfl,r1⟩
theorem vals2 {x y:V} {us:List Value} (r:Vals [x,y] us):∃u w',us=[u,w']∧RelV x u∧RelV y w':=by
 cases r with
 | cons r1 r2=>
  cases r2 with
  | cons r3 r4=>cases r4;exact⟨_,_,rfl,r1,r3⟩
theorem Cs:cS X (.builtin "abs") (fun xs H Q=>∃i,xs=[.int i]∧Q (.int (if i<0 then-i else i)) H):=by
 intro pins s σ H xs us Q I r h
 obtain⟨i,rfl,q⟩:=h
 obtain⟨u,rfl,t,rfl⟩:=vals1 r
 exact call_abs_int fun u tk=>⟨.int (if i<0 then-i else i),H,I.tok _,⟨_,rfl⟩,q⟩
theorem rE:cS X (.type "int") (fun xs H Q=>(∃i,xs=[.int i]∧Q (.int i) H)∨∃k,xs=[.bl k]∧Q (.int (if k then 1 else 0)) H):=by
 intro pins s σ H xs us Q I r h
 rcases h with⟨i,rfl,q⟩ | ⟨k,rfl,q⟩
 ·obtain⟨u,rfl,t,rfl⟩:=vals1 r
  exact call_int_int ⟨.int i,H,I,⟨_,rfl⟩,q⟩
 ·obtain⟨u,rfl,r1⟩:=vals1 r
  cases r1
  exact call_int_bool ⟨.int (if k then 1 else 0),H,I.tok _,⟨_,rfl⟩,q⟩
theorem zr:cS X (.type "bool") (fun xs H Q=>(∃i,xs=[.int i]∧Q (.bl (i != 0)) H)∨∃k,xs=[.bl k]∧Q (.bl k) H):=by
 intro pins s σ H xs us Q I r h
 rcases h with⟨i,rfl,q⟩ | ⟨k,rfl,q⟩
 ·obtain⟨u,rfl,t,rfl⟩:=vals1 r
  exact call_bool_int ⟨.bl (i != 0),H,I,rfl,q⟩
 ·obtain⟨u,rfl,r1⟩:=vals1 r
  cases r1
  exact call_bool_bool ⟨.bl k,H,I,rfl,q⟩
def GD (K:PySem.W.Frag) (x:V) (H:Hp) (n:Nat):Prop:=
 match x with
 | .str y=>y.length≤sizeLine∧n=y.length
 | .jb y=>y.size≤sizeLine∧n=y.size
 | .ref p=>(∃xs,bJ K H p xs∧n=xs.length)∨∃xs,cH K H p xs∧n=xs.length
 | _=>False
theorem Ct:cS X (.builtin "len") (fun xs H Q=>∃x n,xs=[x]∧GD X.K x H n∧Q (.int n) H):=by
 intro pins s σ H xs us Q I r h
 obtain⟨x,n,rfl,e,q⟩:=h
 obtain⟨u,rfl,rx⟩:=vals1 r
 have hl:=j'
 have hs:sizeLine=16777216:=sizeLine_eq
 cases x with
 | str y=>
  obtain⟨t,rfl⟩:=rx
  obtain⟨hy,e'⟩:y.length≤sizeLine∧n=y.length:=e
  subst e'
  exact len_str (by omega) ⟨.int _,H,I.tok _,⟨_,rfl⟩,q⟩
 | jb y=>
  obtain⟨t,rfl⟩:=rx
  obtain⟨hy,e'⟩:y.size≤sizeLine∧n=y.size:=e
  subst e'
  exact PySem.W.len_bytes (by omega) ⟨.int _,H,I.tok _,⟨_,rfl⟩,q⟩
 | ref p=>
  cases rx
  have e':(∃xs,bJ X.K H p xs∧n=xs.length)∨∃xs,cH X.K H p xs∧n=xs.length:=e
  rcases e' with⟨xs,hx,e'⟩ | ⟨xs,hx,e'⟩
  ·subst e'
   obtain⟨its,r',pl,hz⟩:=I.list hx
   have hlen:=r'.length
   exact Calls.call_len_list pl.isList (by simp only[List.size_toArray];omega) ⟨.int xs.length,H,I.tok _,⟨_,by simp only[List.size_toArray];rw[hlen]⟩,q⟩
  ·subst e'
   obtain⟨its,r',pl,hz⟩:=I.tuple hx
   have hlen:=r'.length
   exact len_tuple pl (by simp only[List.size_toArray];omega) ⟨.int xs.length,H,I.tok _,⟨_,by simp only[List.size_toArray];rw[hlen]⟩,q⟩
 | _=>exact(show False from e).elim
end
structure Cu (h:Heap) (x dx C:Addr) (mA:Str→Option Value):Prop where
 obj:h.get? x=some (PySem.W.instObj C dx)
 ns:h.Ns1 dx mA
 ne:dx≠x
theorem AF {h:Heap} {dx:Addr} {mA:Str→Option Value} (n:h.Ns1 dx mA):∃od,h.get? dx=some od∧∀name,PySem.W.lookIn name od=some (mA name):=by
 obtain⟨o,es,ep,ho,hd,hk,_,hm⟩:=n
 refine⟨o,ho,fun name=>?_⟩
 have e:=hm name
 unfold nsFind findBy at e
 rw[←Array.find?_toList] at e
 unfold PySem.W.lookIn
 rw[hd]
 dsimp only
 split
 ·rename_i y q
  rw[q] at e
  exact congrArg some e
 ·rename_i q
  rw[q] at e
  have a:es.toList.any (·.refKey)=false:=by
   rw[List.any_eq_false]
   intro y hy
   obtain⟨z,t,hkey⟩:=hk y (Array.mem_toList_iff.mp hy)
   simp[DictEntry.refKey,hkey]
  have a':¬es.toList.any (·.refKey)=true:=by rw[a];exact Bool.false_ne_true
  rw[if_neg a']
  exact congrArg some e
theorem Cu.look {h:Heap} {x dx C:Addr} {mA:Str→Option Value} (I:Cu h x dx C mA):∃od,PySem.W.InstAt h x (PySem.W.instObj C dx) C (some od)∧∀name,PySem.W.lookIn name od=some (mA name):=
 let ⟨od,ho,hl⟩:=AF I.ns
 ⟨od,⟨I.obj,rfl,rfl,ho⟩,hl⟩
theorem jc.some_of {v:V} {o:Option Value} (r:jc (some v) o):∃u,o=some u∧RelV v u:=by
 cases o with
 | none=>exact(show False from r).elim
 | some u=>exact⟨u,rfl,r⟩
section
variable {P:Program} {w:World} {H H':Hp} {h h':Heap} {a C dx:Addr} {fs fs':List (Str×V)}
theorem Fc (hok:cZ P w H h) (e:H a=some (.ins C dx fs)):∃mA,Cu h a dx C mA∧(∀f,jc (fs.lookup f) (mA f))∧PySem.Within mA (fs.map (·.1))∧fs.length≤1000∧H dx=some (.own a):=by
 obtain⟨d,z,ne,ob,mA,n,r,q⟩:=(show bp P w H h a (.ins C dx fs) from hok a _ e)
 exact⟨mA,⟨ob,n,ne⟩,r,q,z,d⟩
end
structure Cls (K:PySem.W.Frag) (C:Addr):Prop where
 pg:PySem.W.plainGet K C Str.empty=true
 hd:PySem.W.hasDictIn K C=true
 po:PySem.W.plainOver K C=true
 sa:PySem.W.findIn K (.ref C) "__setattr__"=some (some (.builtin "object.__setattr__"))
theorem Cls.get {K:PySem.W.Frag} {C:Addr} (c:Cls K C) (f:Str):PySem.W.plainGet K C f=true:=c.pg
section
variable {X:Cx} {pins:List (Addr×Obj)} {σ:St} {H:Hp} {s:Shared} {A:Around} {E:Value→Shared→Prop} {Q:Value→Shared→Prop} {c:Value} {b:Bool}
inductive fz (K:PySem.W.Frag) (H:Hp):V→Value→Prop where
 | non:fz K H .non (.type "NoneType")
 | bl (x:Bool):fz K H (.bl x) (.type "bool")
 | int (i:Int):fz K H (.int i) (.type "int")
 | str (x:Str):fz K H (.str x) (.type "str")
 | flt (x:UInt64):fz K H (.flt x) (.type "float")
 | lst {a:Addr} {xs:List V} (e:H a=some (.lst xs)):fz K H (.ref a) (.type "list")
 | cY {a:Addr} {o:Obj} {xs:List V} (e:H a=some (.cY o (.lst xs))):fz K H (.ref a) (.type "list")
 | tup {a:Addr} {xs:List V} (e:H a=some (.tup xs)):fz K H (.ref a) (.type "tuple")
 | dK {a:Addr} {kvs:List (Key×V)} (e:H a=some (.dK kvs)):fz K H (.ref a) (.type "dict")
 | dT {a:Addr} {kvs:List (List Key×V)} (e:H a=some (.dT kvs)):fz K H (.ref a) (.type "dict")
 | ins {a C dx:Addr} {fs:List (Str×V)} (e:H a=some (.ins C dx fs)) (cl:Cls K C) (ha:PySem.W.findIn K (.ref C) "__class__"=some (some (.builtin "object.__class__")))
   (hn:PySem.W.specialIn K (.builtin "object.__class__") "__get__"=some (some (.builtin "getset_descriptor.__get__"))) (htk:PySem.W.takesIn K (.builtin "object.__class__")=some true)
   (hm:PySem.W.mroIn K C (.type "object")=some true):fz K H (.ref a) (.ref C)
theorem AG {x:V} {u t:Value} (I:Inv X pins σ H s) (rx:RelV x u) (ty:fz X.K H x t) (e:PySem.W.kitOne X.K t c=some b) (h:∀tk,Q (.bool b) {s with toks:=tk}):
  wpAny (model X.prog X.w) A (call (.builtin "isinstance") [u,c]) Q E s:=by
 cases ty with
 | non=>cases(show u=Value.none from rx);exact PySem.W.kia_one PySem.W.kitx_none I.gH True.intro e (fun z=>nomatch z) h
 | bl y=>cases(show u=Value.bool y from rx);exact PySem.W.kia_one PySem.W.kitx_bool I.gH True.intro e (fun z=>nomatch z) h
 | int i=>obtain⟨t,q⟩:=(show ∃t,u=Value.int i t from rx);cases q;exact PySem.W.kia_one PySem.W.kitx_int I.gH True.intro e (fun z=>nomatch z) h
 | str y=>obtain⟨t,q⟩:=(show ∃t,u=Value.str y t from rx);cases q;exact PySem.W.kia_one PySem.W.kitx_str I.gH True.intro e (fun z=>nomatch z) h
 | flt y=>obtain⟨t,q⟩:=(show ∃t,u=Value.float y t from rx);cases q;exact PySem.W.kia_one PySem.W.kitx_float I.gH True.intro e (fun z=>nomatch z) h
 | @lst a xs ea=>
  cases(show u=Value.ref a from rx)
  obtain⟨_,_,n,_,h1⟩:=(show bp X.prog X.w H s.heap a (.lst xs) from I.hok a _ ea)
  exact PySem.W.kia_one PySem.W.kitx_list I.gH ⟨_,h1,rfl⟩ e (fun z=>nomatch z) h
 | @cY a ob xs ea=>
  cases(show u=Value.ref a from rx)
  obtain⟨_,_,_,n,_,h1⟩:=(show bp X.prog X.w H s.heap a (.cY ob (.lst xs)) from I.hok a _ ea)
  exact PySem.W.kia_one PySem.W.kitx_list I.gH ⟨_,h1,rfl⟩ e (fun z=>nomatch z) h
 | @tup a xs ea=>
  cases(show u=Value.ref a from rx)
  obtain⟨_,_,_,p⟩:=(show bp X.prog X.w H s.heap a (.tup xs) from I.hok a _ ea)
  obtain⟨o,h1,h2,_⟩:=p
  exact PySem.W.kia_one PySem.W.kitx_tuple I.gH ⟨o,h1,h2⟩ e (fun z=>nomatch z) h
 | @dK a kvs ea=>
  cases(show u=Value.ref a from rx)
  obtain⟨_,_,vs,_,p⟩:=(show bp X.prog X.w H s.heap a (.dK kvs) from I.hok a _ ea)
  obtain⟨o,es,ep,h1,h2,_⟩:=p
  exact PySem.W.kia_one PySem.W.kitx_dict I.gH ⟨o,h1,h2.1⟩ e (fun z=>nomatch z) h
 | @dT a kvs ea=>
  cases(show u=Value.ref a from rx)
  obtain⟨_,_,xs,_,o,es,ep,h1,h2,_⟩:=(show bp X.prog X.w H s.heap a (.dT kvs) from I.hok a _ ea)
  exact PySem.W.kia_one PySem.W.kitx_dict I.gH ⟨o,h1,h2.1⟩ e (fun z=>nomatch z) h
 | @ins a C dx fs ea cl ha hn htk hm=>
  cases(show u=Value.ref a from rx)
  obtain⟨mA,O,_⟩:=Fc I.hok ea
  obtain⟨od,J,_⟩:=O.look
  exact PySem.W.kia_one (PySem.W.kitx_own (cl.get _) cl.hd ha hn htk hm) I.gH J e (fun z=>nomatch z) h
end
structure aU (k:Nat) (A:Around):Prop where
 hd:A.handled=none
 dp:A.depth+3*k+5<recursionLimit
 un:A.units+16*k+200<cLine
 gd:A.guards=some []
theorem aU.mono {j k:Nat} {A:Around} (r:aU k A) (h:j≤k):aU j A:=⟨r.hd,by have:=r.dp;omega,by have:=r.un;omega,r.gd⟩
theorem aU.deeper {k:Nat} {A:Around} (r:aU (k+1) A) (env:Env):aU k (A.deeper env):=
 ⟨r.hd,by have:=r.dp;show A.depth+1+3*k+5<_;omega,by have:=r.un;show A.units+3+16*k+200<_;omega,r.gd⟩
theorem aU.depth {k:Nat} {A:Around} (r:aU k A):A.depth<recursionLimit:=by have:=r.dp;omega
theorem aU.units {k:Nat} {A:Around} (r:aU k A):A.units+64<cLine:=by have:=r.un;omega
def GF:TA:=fun _ H Q=>Q [] H
def DT (ta:TE) (tr:TA):TA:=fun σ H Q=>ta σ H fun x H1=>tr σ H1 fun xs H2=>Q (x::xs) H2
section
variable {X:Cx} {e:Expr} {es:List Expr} {te:TE} {t:TA} {pos:Pos}
theorem ag:PA X [] GF:=fun _ _ _ _ H Q I h=>Calls.spliced_nil ⟨[],H,I,.nil,h⟩
theorem ae (ha:PE X e te) (hr:PA X es t) (hs:starEach (e::es) X.env=(false,eval e X.env)::starEach es X.env:=by rfl):PA X (e::es) (DT te t):=by
 intro pos pins s σ H Q I h
 rw[hs]
 show wpAny _ _ (spliced ((false,eval e X.env)::backTo pos (starEach es X.env))) _ _ s
 refine Calls.spliced_cons (aG (ha pins s σ H _ I h) fun u s1 ⟨x,H1,I1,r1,q1⟩=>?_)
 exact aG (hr pos pins s1 σ H1 _ I1 q1) fun us s2 ⟨xs,H2,I2,r2,q2⟩=>⟨x::xs,H2,I2,.cons r1 r2,q2⟩
def MT (t:TA):TE:=fun σ H Q=>t σ H fun xs H1=>xs.length≤sizeLine∧∀p,H1 p=none→Q (.ref p) (upd H1 p (.tup xs))
def MU (t:TA):TE:=fun σ H Q=>t σ H fun xs H1=>xs.length≤sizeLine∧∀p,H1 p=none→Q (.ref p) (upd H1 p (.lst xs))
theorem iD {x1} (h:PA X es t):PE X (.Tuple es x1 pos) (MT t):=by
 intro pins s σ H Q I hq
 refine wpAny_Tuple_spliced (aG (h pos pins s σ H _ I hq) fun us s1 ⟨xs,H1,I1,r,z,q⟩=>⟨by rw[←r.length];exact z,?_⟩)
 have hf:H1 s1.heap.objs.size=none:=I1.hok.fresh (Nat.le_refl _)
 refine⟨.ref s1.heap.objs.size,upd H1 s1.heap.objs.size (.tup xs),I1.laid (t':=s1.toks) (fun b u e=>Heap.get?_push_of_some _ e) (Nat.le_refl _) ?_,rfl,q _ hf⟩
 exact⟨⟨z,_,Heap.get?_push_size _ rfl,rfl⟩,us,r,⟨_,Heap.get?_push_size _ rfl,rfl,_,rfl⟩⟩
theorem cq (h:PA X es t):PE X (.List es pos) (MU t):=by
 intro pins s σ H Q I hq
 refine wpAny_List_spliced (aG (h pos pins s σ H _ I hq) fun us s1 ⟨xs,H1,I1,r,z,q⟩=>⟨by rw[←r.length];exact z,?_⟩)
 have hf:H1 s1.heap.objs.size=none:=I1.hok.fresh (Nat.le_refl _)
 refine⟨.ref s1.heap.objs.size,upd H1 s1.heap.objs.size (.lst xs),I1.laid (t':=s1.toks) (fun b u e=>Heap.get?_push_of_some _ e) (Nat.le_refl _) ?_,rfl,q _ hf⟩
 exact⟨z,us,0,r,Heap.get?_push_size _ rfl⟩
end
abbrev Sp:=List V→Hp→VK→XK→Prop
abbrev ou:=List Env→Hp→Shared→XK→Value→Shared→Prop
structure qy (P:Program) (w:World) (K:PySem.W.Frag) (mg:Str→Option Value) (base:Heap) (A:Around) (outer:List Env) (s:Shared) (H:Hp):Prop where
 frames:A.frames=some outer
 mod:Mod K mg base
 bs:∀b o,base.get? b=some o→s.heap.get? b=some o∧H b=none
 lZ:base.objs.size≤s.heap.objs.size
 gY:s.heap.FunFrames base outer
 ur:∀b∈frs outer,H b=none
 hok:cZ P w H s.heap
 bare:AllBare s.gens
def CE (outer:List Env) (P:Program) (w:World) (H:Hp) (s:Shared) (Q:VK) (u:Value) (s':Shared):Prop:=
 ∃v H',s'.os=s.os∧AllBare s'.gens∧Un (frs outer) [] H H' s.heap s'.heap∧cZ P w H' s'.heap∧RelV v u∧Q v H'
def CR (CX:ou) (outer:List Env) (P:Program) (w:World) (H:Hp) (s:Shared) (Q:VK) (E:XK) (r:Result) (s':Shared):Prop:=
 match r with
 | .ok (.ret u)=>CE outer P w H s Q u s'
 | .ok _=>False
 | .error e=>CX outer H s E e s'
structure bD (P:Program) (w:World) (K:PySem.W.Frag) (mg:Str→Option Value) (base:Heap) (CX:ou) (k:Nat) (f:Addr) (fd:FuncData) (ps:List Str) (sp:Sp):Prop where
 len:∀vs H Q E,sp vs H Q E→vs.length=ps.length
 run:∀(A:Around) (outer:List Env) (s:Shared) (H:Hp) (args:Args) (us:List Value) (vs:List V) (Q:VK) (E:XK),aU k A→qy P w K mg base A outer s H→BindsTo s fd args (ps.zip us)→Vals vs us→sp vs H Q E→
  codeAny (model P w) A (.call (.ref f) args) (CR CX outer P w H s Q E) s
section
variable {X:Cx} {pins:List (Addr×Obj)} {σ:St} {H:Hp} {s s':Shared}
theorem Inv.env0 (I:Inv X pins σ H s):qy X.prog X.w X.K X.mg X.base X.A X.stack s H:=
 ⟨I.ok.frames,I.ok.mod,I.bs,Nat.le_trans I.ok.lZ I.sz,I.stack,I.j7,I.hok,I.bare⟩
theorem Inv.after {Q:VK} {u:Value} (I:Inv X pins σ H s) (h:CE X.stack X.prog X.w H s Q u s'):EP X pins σ Q u s':=by
 obtain⟨v,H',os,bare,un,hok,r,q⟩:=h
 obtain⟨hh,g,d,t,os'⟩:=s'
 obtain rfl:os'=s.os:=os
 exact⟨v,H',I.call (h':=hh) (g':=g) (d':=d) (t':=t) (ch:=[]) un hok bare (fun b z=>absurd z (by simp)),r,q⟩
end
def Kj (sp:Sp) (pM:List V) (E:XK) (t:TA):TE:=fun σ H Q=>t σ H fun vs H1=>sp (vs++pM) H1 Q E
def Binds (K:PySem.W.Frag) (fd:FuncData) (ps:List Str) (ds:List Value):Prop:=
 ∀(s:Shared) (us:List Value),K.In s.heap→(us++ds).length=ps.length→BindsTo s fd ⟨us,[]⟩ (ps.zip (us++ds))
theorem Binds.all {K:PySem.W.Frag} {fd:FuncData} {ps:List Str} (h:∀us:List Value,us.length=ps.length→bindArgs fd ⟨us,[]⟩=pure (ps.zip us)):Binds K fd ps []:=fun s us _ hl=>by
 rw[List.append_nil] at hl ⊢
 exact .of_eq (h us hl)
def Passes (CX:ou) (X:Cx) (E:XK):Prop:=∀(pins:List (Addr×Obj)) (σ:St) (H:Hp) (s:Shared) (e:Value) (s':Shared),Inv X pins σ H s→CX X.stack H s E e s'→X.xe e s'
section
variable {X:Cx} {CX:ou} {k:Nat} {f C:Addr} {fd:FuncData} {ps:List Str} {sp:Sp} {pM:List V} {ds:List Value} {E:XK} {x m:Str} {p pos apos:Pos} {e o:Expr} {es:List Expr} {ta:TE} {t:TA}
theorem AH {pins:List (Addr×Obj)} {σ:St} {H:Hp} {s:Shared} {Q:VK} {us:List Value} {vs:List V} (F:bD X.prog X.w X.K X.mg X.base CX k f fd ps sp) (hr:aU k X.A) (hb:Binds X.K fd ps ds) (hd:Vals pM ds) (hx:Passes CX X E)
  (I:Inv X pins σ H s) (r:Vals vs us) (h:sp (vs++pM) H Q E):wpAny (model X.prog X.w) X.A (call (.ref f) us) (EP X pins σ Q) X.xe s:=by
 have r2:Vals (vs++pM) (us++ds):=r.append hd
 have hl:(us++ds).length=ps.length:=by rw[←r2.length];exact F.len _ _ _ _ h
 refine wpAny_call (codeAny_mono (F.run X.A X.stack s H ⟨us,[]⟩ (us++ds) (vs++pM) Q E hr I.env0 (hb s us I.gH hl) r2 h) fun r s' hq=>?_)
 cases r with
 | error e=>exact hx pins σ H s e s' I hq
 | ok fl=>
  cases fl with
  | ret u=>exact I.after hq
  | next=>exact False.elim hq
  | brk=>exact False.elim hq
  | cont=>exact False.elim hq
theorem aE (F:bD X.prog X.w X.K X.mg X.base CX k f fd ps sp) (hr:aU k X.A) (hg:Gl X x) (hm:X.mg x=some (.ref f)) (hk:PySem.W.keepIn X.K (.ref f)=true) (hb:Binds X.K fd ps ds) (hd:Vals pM ds) (hx:Passes CX X E)
  (ha:PA X (e::es) t) (hdb:(x == ("__debug__":Str))=false:=by decide) (he:starEach (e::es) X.env=(false,eval e X.env)::starEach es X.env:=by rfl) (hpl:(backTo pos (starEach es X.env)).any (·.1)=false:=by rfl):
  PE X (.Call (.Name x p) (e::es) [] pos) (Kj sp pM E t):=by
 intro pins s σ H Q I h
 refine wpAny_Call_Name_kw (qu I hg hm ?_ hdb)
 refine PySem.W.callWith_K (h₀:=X.base) I.ok.mod.x8 hk (aG (ha pos pins s σ H _ I h) fun us s1 ⟨vs,H1,I1,r,q⟩=>⟨I1.gH,?_⟩) he hpl
 exact AH F hr hb hd hx I1 r q
end
def PK (X:Cx) (kws:List Keyword) (t:TA):Prop:=
 ∀(pos:Pos) (pins:List (Addr×Obj)) (s:Shared) (σ:St) (H:Hp) (Q:List V→Hp→Prop),Inv X pins σ H s→t σ H Q→wpAny (model X.prog X.w) X.A (evalAll ((backToKw pos (keywordEach kws X.env)).map (·.2))) (AP X pins σ Q) X.xe s
section
variable {X:Cx} {CX:ou} {k:Nat} {f C:Addr} {fd:FuncData} {ps ks:List Str} {sp:Sp} {E:XK} {x m:Str} {p pos apos kpos:Pos} {e o:Expr} {es:List Expr} {kws:List Keyword} {te ta:TE} {t tk:TA} {nm:Option Str}
theorem AI:PK X [] GF:=fun _ _ _ _ H Q I h=>wpAny_evalAll_nil ⟨[],H,I,.nil,h⟩
theorem yl (ha:PE X e te) (hr:PK X kws t):PK X (⟨nm,e,kpos⟩::kws) (DT te t):=by
 intro pos pins s σ H Q I h
 show wpAny _ _ (evalAll ((do let v ←eval e X.env;standAt pos;pure v)::(backToKw pos (keywordEach kws X.env)).map (·.2))) _ _ s
 refine wpAny_evalAll_cons (wpAny_bind (aG (ha pins s σ H _ I h) fun u s1 ⟨x,H1,I1,r1,q1⟩=>wpAny_bind (wpAny_standAt (wpAny_pure ?_))))
 exact aG (hr pos pins s1 σ H1 _ I1 q1) fun us s2 ⟨xs,H2,I2,r2,q2⟩=>⟨x::xs,H2,I2,.cons r1 r2,q2⟩
variable {g:List Value→List Value→List Value} {gV:List V→List V→List V}
end
structure aW (N P:List Str) (sc:Scope):Prop where
 kind:sc.kind=.function
 co:sc.isCoroutine=false
 gen:sc.isGenerator=false
 nd:N.Nodup
 pre:N.take P.length=P
 par:∀x∈P,sc.names.lookup x=some .local∨sc.names.lookup x=some .cell
 GG:∀y∈sc.names,y.2≠.free
theorem rF {kindOf:Str→Option NameKind} {x:Str}:∀{binds:List (Str×Value)} {m:Str→Option Value},(∀v,(x,v) ∉ binds)→bindL kindOf binds m x=m x
 | [],_,_=>rfl
 | (n,v)::r,m,h=>by
  unfold bindL
  rw[rF fun w hw=>h w (List.mem_cons_of_mem _ hw)]
  split
  ·have:x≠n:=by rintro rfl;exact h v List.mem_cons_self
   simp[this]
  ·rfl
theorem rG {kindOf:Str→Option NameKind} {x:Str}:∀{binds:List (Str×Value)} {m:Str→Option Value},(∀v,(x,v) ∉ binds)→bindC kindOf binds m x=m x
 | [],_,_=>rfl
 | (n,v)::r,m,h=>by
  unfold bindC
  rw[rG fun w hw=>h w (List.mem_cons_of_mem _ hw)]
  split
  ·rfl
  ·have:x≠n:=by rintro rfl;exact h v List.mem_cons_self
   simp[this]
theorem rH {kindOf:Str→Option NameKind} {x:Str} {v:Value}:∀{P:List Str} {vs:List Value} {i:Nat} {m:Str→Option Value},P.Nodup→P[i]? =some x→vs[i]? =some v→kindOf x=some .local→
  bindL kindOf (P.zip vs) m x=some v
 | [],_,_,_,_,h,_,_=>by simp at h
 | _::_,[],_,_,_,_,h,_=>by simp at h
 | p::P,w::vs,0,m,nd,h1,h2,hk=>by
  simp at h1 h2;subst h1;subst h2
  show bindL kindOf ((p,w)::P.zip vs) m p=_
  unfold bindL
  rw[rF fun v hv=>(List.nodup_cons.mp nd).1 (List.of_mem_zip hv).1,if_pos hk]
  simp
 | p::P,w::vs,i+1,m,nd,h1,h2,hk=>by
  show bindL kindOf ((p,w)::P.zip vs) m x=_
  unfold bindL
  exact rH (i:=i) (List.nodup_cons.mp nd).2 (by simpa using h1) (by simpa using h2) hk
theorem rJ {kindOf:Str→Option NameKind} {x:Str} {v:Value}:∀{P:List Str} {vs:List Value} {i:Nat} {m:Str→Option Value},P.Nodup→P[i]? =some x→vs[i]? =some v→kindOf x≠some .local→
  bindC kindOf (P.zip vs) m x=some v
 | [],_,_,_,_,h,_,_=>by simp at h
 | _::_,[],_,_,_,_,h,_=>by simp at h
 | p::P,w::vs,0,m,nd,h1,h2,hk=>by
  simp at h1 h2;subst h1;subst h2
  show bindC kindOf ((p,w)::P.zip vs) m p=_
  unfold bindC
  rw[rG fun v hv=>(List.nodup_cons.mp nd).1 (List.of_mem_zip hv).1,if_neg hk]
  simp
 | p::P,w::vs,i+1,m,nd,h1,h2,hk=>by
  show bindC kindOf ((p,w)::P.zip vs) m x=_
  unfold bindC
  exact rJ (i:=i) (List.nodup_cons.mp nd).2 (by simpa using h1) (by simpa using h2) hk
def start (N:List Str) (vs:List V):St:=vs.map some++List.replicate (N.length-vs.length) none
def oS (CX:ou) (P:Program) (w:World) (K:PySem.W.Frag) (mg:Str→Option Value) (base:Heap) (N:List Str) (qual:Str) (scope:Scope) (f:Addr) (cd:Value) (A:Around) (outer:List Env) (s:Shared) (H:Hp) (E:XK):Cx where
 prog:=P
 w:=w
 K:=K
 mg:=mg
 base:=base
 A:=A.deeper (envOfC qual scope s.heap.objs.size f cd)
 N:=N
 s₀:=s
 H₀:=H
 env:=envOfC qual scope s.heap.objs.size f cd
 outer:=outer
 stack:=envOfC qual scope s.heap.objs.size f cd::outer
 ex:=[]
 calm:=true
 fn:=fun _=>true
 pn:=[]
 xe:=fun e s'=>wpAny (model P w) (A.deeper (envOfC qual scope s.heap.objs.size f cd)) (leaving (envOfC qual scope s.heap.objs.size f cd) e) (fun _ s''=>CX outer H s E e s'') (fun e' s''=>CX outer H s E e' s'') s'
theorem uD {sc:Scope} {n:Nat} {x:Str} (h:sc.names.lookup x=some .cell):∃c,(cellsFrom n sc.names []).lookup x=some c:=by
 have q:=PySem.W.cellsFrom_some sc.names n [] (.inl h)
 exact Option.isSome_iff_exists.mp q
theorem AJ {CX:ou} {P:Program} {w:World} {K:PySem.W.Frag} {mg:Str→Option Value} {base:Heap} {N ps:List Str} {qual:Str} {scope:Scope} {f:Addr} {cd:Value} {A:Around} {outer:List Env} {s s1:Shared} {H:Hp} {E:XK} {us:List Value} {vs:List V}
  (S:aW N ps scope) (hd:A.handled=none) (e0:qy P w K mg base A outer s H) (hl:vs.length=ps.length) (r:Vals vs us)
  (x:InCallC s s.heap.objs.size (bindL (envOfC qual scope s.heap.objs.size f cd).kindOf (ps.zip us) fun _=>none) (cellsFrom (s.heap.objs.size+1) scope.names []) (bindC (envOfC qual scope s.heap.objs.size f cd).kindOf (ps.zip us) fun _=>none) s1):
  Inv (oS CX P w K mg base N qual scope f cd A outer s H E) [] (start N vs) H s1:=by
 have hpl:ps.length≤N.length:=by have:=congrArg List.length S.pre;rw[List.length_take] at this;omega
 obtain⟨h1,tk,rfl,hk⟩:=x.done
 have ox:∀b:Addr,b ∉ (oS CX P w K mg base N qual scope f cd A outer s H E).ex:=fun b z=>absurd (show b∈([]:List Addr) from z) (by simp)
 refine⟨⟨e0.mod,S.kind,rfl,rfl,Nat.le_refl _,fun y z c h1 h2=>?_,fun y hy=>?_,fun y c _ h=>?_,fun _=>hd,Around.frames_deeper e0.frames,.inr ⟨rfl,rfl⟩,fun b z=>absurd z (ox b),e0.bs,e0.lZ,fun b _ _=>ox b,fun b z=>absurd z (ox b),e0.gY,e0.ur⟩,
  rfl,e0.bare,Un.kept hk,⟨_,x.toInCall.ns,fun i y v h1 h2 h3=>?_⟩,fun y c h=>⟨_,x.cell y c h⟩,e0.hok.fresh (Nat.le_refl _),fun y c h=>?_,fun p hp=>absurd (show p∈([]:List (Addr×Obj)) from hp) (by simp),e0.hok.kept hk,?_⟩
 ·exact name_of_addr x.apart (PySem.mem_of_lookup h1) (PySem.mem_of_lookup h2)
 ·have hy:scope.names.lookup y=some .cell∨scope.names.lookup y=some .free:=hy
  rcases hy with hy | hy
  ·exact uD hy
  ·exact absurd rfl (S.GG _ (PySem.mem_of_lookup hy))
 ·exact Nat.le_of_lt (x.above y c (PySem.mem_of_lookup h))
 ·have hi:i<vs.length:=by
   unfold start at h2
   by_cases hi:i<vs.length
   ·exact hi
   ·rw[List.getElem?_append_right (by simpa using hi)] at h2
    rw[List.getElem?_replicate] at h2
    split at h2<;>cases h2
  have ha:vs[i]? =some v:=by
   unfold start at h2
   rw[List.getElem?_append_left (by simpa using hi),List.getElem?_map] at h2
   cases e:vs[i]? with
   | none=>rw[e] at h2;cases h2
   | some a=>rw[e] at h2;cases h2;rfl
  obtain⟨u,hu,rv⟩:=r.get ha
  have hp:ps[i]? =some y:=by
   rw[←S.pre,List.getElem?_take_of_lt (by omega)];exact h1
  have DU:ps.Nodup:=by rw[←S.pre];exact S.nd.sublist (List.take_sublist _ _)
  refine⟨u,rv,?_⟩
  rcases S.par y (List.mem_of_getElem? hp) with k | k
  ·exact .inl ⟨k,rH DU hp hu k⟩
  ·obtain⟨c,e⟩:=uD (n:=s.heap.objs.size+1) k
   refine .inr ⟨.inl k,c,e,?_⟩
   have q:=x.cell y c e
   rw[rJ DU hp hu (by show scope.names.lookup y≠_;rw[k];decide)] at q
   exact q
 ·exact e0.hok.fresh (Nat.le_of_lt (x.above y c (PySem.mem_of_lookup h)))
 ·unfold start
  show _=N.length
  rw[List.length_append,List.length_map,List.length_replicate]
  omega
theorem DV {CX:ou} {P:Program} {w:World} {K:PySem.W.Frag} {mg:Str→Option Value} {base:Heap} {k:Nat} {f:Addr} {name qual:Str} {params:Arguments} {body:List Stmt} {scope:Scope} {dV kV doc pm cdv ct oc:Value} {an od:Option Addr}
  {osl:Array (Option Value)} {N ps:List Str} {sp:Sp} (lk:K.lookup f=some ⟨oc,od,.func (PySem.W.fnOf name qual params body scope dV kV doc pm an cdv ct),osl⟩) (hcd:PySem.W.codeIn K cdv qual=true) (S:aW N ps scope)
  (len:∀vs H Q E,sp vs H Q E→vs.length=ps.length)
  (hbody:∀(A:Around) (outer:List Env) (s:Shared) (H:Hp) (vs:List V) (Q:VK) (E:XK),aU k (A.deeper (envOfC qual scope s.heap.objs.size f cdv))→sp vs H Q E→
   ∃t,jG (oS CX P w K mg base N qual scope f cdv A outer s H E) body t∧t {nx:=fun _ H'=>Q .non H',rt:=Q} (start N vs) H):
  bD P w K mg base CX (k+1) f (PySem.W.fnOf name qual params body scope dV kV doc pm an cdv ct) ps sp:=by
 refine⟨len,fun A outer s H args us vs Q E hr e0 hb r hsp=>?_⟩
 have hl:=len _ _ _ _ hsp
 have KX:K.In s.heap:=e0.mod.x8.keeps fun b o e=>(e0.bs b o e).1
 have lim:s.heap.NoLimit:=e0.mod.nolimit.keeps fun b o e=>(e0.bs b o e).1
 have hkind:∀y∈ps.zip us,scope.names.lookup y.1=some .local∨(scope.names.lookup y.1=some .cell∧((cellsFrom (s.heap.objs.size+1) scope.names []).lookup y.1).isSome=true):=fun⟨n,v⟩ hy=>by
  rcases S.par n (List.of_mem_zip hy).1 with q | q
  ·exact .inl q
  ·exact .inr ⟨q,PySem.W.cellsFrom_some _ _ _ (.inl q)⟩
 refine codeAny_call_function hr.depth (KX _ _ lk) rfl S.co S.gen rfl (PySem.W.codeRec_of KX hcd) (hb _ _ _ _ ?_)
 refine wpAny_newFunctionEnv_cells S.kind hkind fun env he s1 x=>?_
 subst he
 refine⟨lim.keeps x.toInCall.keep,codeAny_func ?_⟩
 obtain⟨t,ht,hq⟩:=hbody A outer s H vs Q E (hr.deeper _) hsp
 have I:Inv (oS CX P w K mg base N qual scope f cdv A outer s H E) [] (start N vs) H s1:=AJ S hr.hd e0 hl r x
 refine wpAny_mono (ht [] s1 (start N vs) H _ I hq) (fun fl s' hs=>?_) fun e s' hs=>hs
 have fin:∀{σ':St} {H':Hp} {v:V} {u:Value},Inv (oS CX P w K mg base N qual scope f cdv A outer s H E) [] σ' H' s'→RelV v u→Q v H'→CE outer P w H s Q u s':=
  fun {σ' H' v u} J rv q=>⟨v,H',J.os,J.bare,J.base,J.hok,rv,q⟩
 cases fl with
 | ret u=>
  obtain⟨v,σ',H',J,rv,q⟩:=hs
  exact fin J rv q
 | next=>
  obtain⟨σ',H',J,q⟩:=hs
  exact fin (v:=V.non) (u:=Value.none) J rfl q
 | brk=>
  obtain⟨_,_,_,q⟩:=hs
  exact False.elim q
 | cont=>
  obtain⟨_,_,_,q⟩:=hs
  exact False.elim q
section
variable {X:Cx} {x:Str} {p pos:Pos} {e:Expr} {es:List Expr} {t:TA} {id T:String} {r:List V→Hp→VK→Prop}
def K1 (r:List V→Hp→VK→Prop) (t:TA):TE:=fun σ H Q=>t σ H fun vs H1=>r vs H1 Q
theorem aF (hc:cS X (.builtin id) r) (hg:Gl X x) (hm:X.mg x=none) (hv:bootBuiltins x=some (.builtin id)) (ha:PA X (e::es) t) (hn:x≠"__name__":=by decide) (hdb:(x == ("__debug__":Str))=false:=by decide)
  (he:starEach (e::es) X.env=(false,eval e X.env)::starEach es X.env:=by rfl) (hpl:(backTo pos (starEach es X.env)).any (·.1)=false:=by rfl):PE X (.Call (.Name x p) (e::es) [] pos) (K1 r t):=by
 intro pins s σ H Q I h
 refine wpAny_Call_Name_kw (fh I hg hm hv ?_ hn hdb)
 exact PyProof.Rows.callWith_builtin1 (aG (ha pos pins s σ H _ I h) fun us s1 ⟨vs,H1,I1,r1,q1⟩=>hc pins s1 σ H1 vs us Q I1 r1 q1) he hpl
theorem bt (hc:cS X (.type T) r) (hg:Gl X x) (hm:X.mg x=none) (hv:bootBuiltins x=some (.type T)) (ha:PA X (e::es) t) (hn:x≠"__name__":=by decide) (hdb:(x == ("__debug__":Str))=false:=by decide)
  (he:starEach (e::es) X.env=(false,eval e X.env)::starEach es X.env:=by rfl) (hpl:(backTo pos (starEach es X.env)).any (·.1)=false:=by rfl):PE X (.Call (.Name x p) (e::es) [] pos) (K1 r t):=by
 intro pins s σ H Q I h
 refine wpAny_Call_Name_kw (fh I hg hm hv ?_ hn hdb)
 exact PyProof.Rows.callWith_type1 (aG (ha pos pins s σ H _ I h) fun us s1 ⟨vs,H1,I1,r1,q1⟩=>hc pins s1 σ H1 vs us Q I1 r1 q1) he hpl
end
end L2
namespace HT
open PySem PyProof.Rows
def lexLt:List Int→List Int→Bool
 | [],[]=>false
 | [],_::_=>true
 | _::_,[]=>false
 | x::xs,y::ys=>if x=y then lexLt xs ys else decide (x<y)
theorem zt (x y:Int) (xs ys:List Int):lexLt (x::xs) (y::ys)=if x=y then lexLt xs ys else decide (x<y):=rfl
theorem tM:lexLt [] []=false:=rfl
theorem qz (y:Int) (ys:List Int):lexLt [] (y::ys)=true:=rfl
theorem qA (x:Int) (xs:List Int):lexLt (x::xs) []=false:=rfl
theorem uE (A:Around) (s:Shared) (a:Int) (t:Tok) (c:Int) (u:Tok):∃e,SeqAt.EqAt A s (.int a t) (.int c u) e∧(e=true↔a=c):=
 ⟨(a == c),SeqAt.EqAt.int_int a t c u,by simp⟩
theorem Cv (A:Around) (s:Shared) (a:Int) (t:Tok) (c:Int) (u:Tok) (prog:Program) (w:World) (E:Value→Shared→Prop) (Q:Value→Shared→Prop) (h:Q (.bool (decide (a<c))) s):
  wpAny (model prog w) A (richCompare .Lt (.int a t) (.int c u)) Q E s:=
 (PyProof.Rows.lt_int h:wpAny (model prog w) A (compareOp .Lt (.int a t) (.int c u)) Q E s)
section
open PySem.SeqAt
open PySem.AutoSeq1 (wpAny_loadPart')
open PySem.MeetsSeq PySem.MeetsSeq2 PySem.MeetsSeq3
theorem tN (l b:Addr) (items items2:Array Value) (n n2:Nat) (dd dd2:Option Addr) (sl sl2:Array (Option Value)) (ns ms:List Int) (hi:IntsAre items.toList ns) (hj:IntsAre items2.toList ms):
  Meets (Builtin.«tuple.__lt__» ⟨[.ref l,.ref b],[]⟩)
   (fun _ R s=>s.heap.get? l=some {cls:=.type "tuple",dict:=dd,data:=.seq items n,slots:=sl}∧s.heap.get? b=some {cls:=.type "tuple",dict:=dd2,data:=.seq items2 n2,slots:=sl2}∧
    R (.ok (.ret (.bool (lexLt ns ms)))) s):=
 .of_wp fun prog w A R s h=>by
  obtain⟨hp,g,d,tk,os⟩:=s;obtain⟨hl,hb,h⟩:=h
  have f2:=AutoSeq1.sub_tuple_tuple
  have z1:items.size=ns.length:=by rw[←hi.length];simp
  have z2:items2.size=ms.length:=by rw[←hj.length];simp
  wp_walk using wpAny_loadPart' hl,wpAny_loadPart' hb,wpAny_forIn_list _ (fun rest b s'=>b.1=none∧s'=⟨hp,g,d,tk,os⟩∧∃(vs ws:List Value) (ns' c_:List Int),rest=vs.zip ws∧
   IntsAre vs ns'∧IntsAre ws c_∧ns'.length+items2.size=c_.length+items.size∧R (.ok (.ret (.bool (lexLt ns' c_)))) ⟨hp,g,d,tk,os⟩) _
  case turn=>
   rintro⟨y,x⟩ rest b s' ⟨hb',rfl,vs,ws,ns',c_,hz,GH,hwi,hlen,hR⟩
   cases GH with
   | nil=>rw[List.zip_nil_left] at hz;cases hz
   | cons a t MV=>
    cases hwi with
    | nil=>rw[List.zip_nil_right] at hz;cases hz
    | cons c u MW=>
     rw[List.zip_cons_cons] at hz
     injection hz with hyx hrest
     injection hyx with hy hx
     subst hy hx
     rw[zt] at hR
     simp only[List.length_cons] at hlen
     obtain⟨e,he,hiff⟩:=uE A.in1 ⟨hp,g,d,tk,os⟩ a t c u
     refine wpAny_bind (he prog w _ _ ?_)
     cases e with
     | true=>
      rw[if_pos (hiff.mp rfl)] at hR
      wp_walk
      exact⟨rfl,rfl,_,_,_,_,hrest,MV,MW,by omega,hR⟩
     | false=>
      rw[if_neg (fun q=>absurd (hiff.mpr q) Bool.false_ne_true)] at hR
      have Qg:=Cv A.in1 ⟨hp,g,d,tk,os⟩ a t c u prog w
      wp_walk using Qg
      exact⟨_,rfl,by simpa using hR⟩
  case fin=>
   rintro⟨b1,b2⟩ s' ⟨hb',rfl,vs,ws,ns',c_,hz,GH,hwi,hlen,hR⟩
   simp only at hb'
   subst hb'
   have hv:lexLt ns' c_=decide (items.size<items2.size):=by
    cases GH with
    | nil=>
     cases hwi with
     | nil=>
      simp only[List.length_nil] at hlen
      rw[tM]
      exact(decide_eq_false (by omega)).symm
     | cons c u hw=>
      simp only[List.length_nil,List.length_cons] at hlen
      rw[qz]
      exact(decide_eq_true (by omega)).symm
    | cons a t hv=>
     cases hwi with
     | nil=>
      simp only[List.length_nil,List.length_cons] at hlen
      rw[qA]
      exact(decide_eq_false (by omega)).symm
     | cons c u hw=>
      rw[List.zip_cons_cons] at hz
      cases hz
   rw[hv] at hR
   wp_walk
   exact⟨_,rfl,by simpa[Builtin.Tuple.tupleCompareSizes] using hR⟩
  case h=>
   exact⟨rfl,rfl,items.toList,items2.toList,ns,ms,rfl,hi,hj,by omega,h⟩
end
section
variable {prog:Program} {w:World} {A:Around} {E:Value→Shared→Prop} {s:Shared}
theorem zu {l b:Addr} {items items2:Array Value} {ns ms:List Int} {Q:Value→Shared→Prop} (hl:IsTup s.heap l items) (hb:IsTup s.heap b items2) (hi:IntsAre items.toList ns) (hj:IntsAre items2.toList ms)
  (hu:A.units<cLine) (h:Q (.bool (lexLt ns ms)) s):wpAny (model prog w) A (compareOp .Lt (.ref l) (.ref b)) Q E s:=by
 obtain⟨⟨cls,dd,data,sl⟩,ho,hc,n,hd⟩:=id hl
 obtain⟨⟨cls2,dd2,data2,sl2⟩,ho2,hc2,n2,hd2⟩:=id hb
 simp only at hc hd hc2 hd2
 subst hc hd hc2 hd2
 exact richCompare_meets_room (op:=.Lt) ⟨_,ho,rfl⟩ ⟨_,ho2,rfl⟩ PySem.F.slot_tuple_lt PySem.F.entry_tuple_lt (PySem.F.args_tuple_lt_2 _ _) (tN l b items items2 n n2 dd dd2 sl sl2 ns ms hi hj)
  ⟨ho,ho2,show Value.bool (lexLt ns ms)≠Value.notImplemented∧Q (.bool (lexLt ns ms)) s from⟨(fun x=>nomatch x),h⟩⟩ hu
def gX (n d:Nat):Option Int→Nat
 | none=>d
 | some v=>if v<0 then(v+(n:Int)).toNat else min v.toNat n
theorem yn (n d k:Nat):gX n d (some (k:Int))=min k n:=by
 show(if(k:Int)<0 then((k:Int)+(n:Int)).toNat else min (k:Int).toNat n)=min k n
 rw[if_neg (by omega),Int.toNat_natCast]
end
end HT
namespace L2
open PySem PySem.Spec PyProof.Rows
abbrev TO:=St→Hp→(Option Int→Hp→Prop)→Prop
def PO (X:Cx) (e:Option Expr) (t:TO):Prop:=
 ∀(pins:List (Addr×Obj)) (s:Shared) (σ:St) (H:Hp) (Q:Option Int→Hp→Prop),Inv X pins σ H s→t σ H Q→
  wpAny (model X.prog X.w) X.A (evalPart e X.env) (fun u s'=>∃o H',Inv X pins σ H' s'∧IsPart u o∧Q o H') X.xe s
def Fd:TO:=fun _ H Q=>Q none H
def Kk (t:TE):TO:=fun σ H Q=>t σ H fun x H1=>∃i,x=.int i∧Q (some i) H1
theorem intsAre_of {ns:List Int}:∀{us:List Value},Vals (ns.map V.int) us→IntsAre us ns:=by
 induction ns with
 | nil=>intro us r;rw[List.map_nil] at r;cases r;exact .nil
 | cons n ns ih=>
  intro us r
  rw[List.map_cons] at r
  cases r with
  | cons r1 r2=>
   obtain⟨t,e⟩:=r1
   subst e
   exact .cons n t (ih r2)
section
variable {X:Cx} {e:Expr} {te:TE} {lo hi:Option Expr} {tl th:TO} {pos p2:Pos}
theorem i3:PO X none Fd:=by
 intro pins s σ H Q I h
 rw[evalPart_none]
 exact wpAny_pure ⟨none,H,I,.none,h⟩
theorem ke (h:PE X e te):PO X (some e) (Kk te):=by
 intro pins s σ H Q I hw
 rw[evalPart_some]
 refine aG (h pins s σ H _ I hw) fun u s1 ⟨x,H1,I1,r1,q1⟩=>?_
 obtain⟨i,rfl,q⟩:=q1
 obtain⟨t,rfl⟩:=r1
 exact⟨some i,H1,I1,.int i t,q⟩
def DW (X:Cx) (r:V→Option Int→Option Int→Hp→VK→Prop):Prop:=
 ∀(pins:List (Addr×Obj)) (s:Shared) (σ:St) (H:Hp) (x:V) (v vl vu:Value) (lo hi:Option Int) (sl:Addr) (Q:VK),Inv X pins σ H s→RelV x v→s.heap.IsSliceOf sl vl vu .none→IsPart vl lo→IsPart vu hi→r x lo hi H Q→
  ∃T id,typeLookup (.type T) "__getitem__"=pure (some (.builtin id))∧s.TypeIs v T∧wpAny (model X.prog X.w) X.A (getItem v (.ref sl)) (EP X pins σ Q) X.xe s
def Qh (r:V→Option Int→Option Int→Hp→VK→Prop) (te:TE) (tl th:TO):TE:=fun σ H Q=>te σ H fun x H1=>tl σ H1 fun l H2=>th σ H2 fun u H3=>r x l u H3 Q
theorem kS {r:V→Option Int→Option Int→Hp→VK→Prop} (hr:DW X r) (he:PE X e te) (hl:PO X lo tl) (hu:PO X hi th):PE X (.Subscript e (.Slice lo hi none p2) pos) (Qh r te tl th):=by
 intro pins s σ H Q I h
 refine Subscript_ (aG (he pins s σ H _ I h) fun v s1 ⟨x,H1,I1,r1,q1⟩=>?_)
 refine wpAny_Slice (aG (hl pins s1 σ H1 _ I1 q1) fun vl s2 ⟨l,H2,I2,pl,q2⟩=>aG (hu pins s2 σ H2 _ I2 q2) fun vu s3 ⟨u,H3,I3,pu,q3⟩=>?_)
 rw[evalPart_none]
 refine wpAny_pure ?_
 have I4:Inv X pins σ H3 {s3 with heap:=s3.heap.push {cls:=.type "slice",data:=.fields #[vl,vu,.none]}}:=I3.kept (t':=s3.toks) fun b ob q=>Heap.get?_push_of_some _ q
 obtain⟨T,id,hT,ht,hg⟩:=hr pins {s3 with heap:=s3.heap.push {cls:=.type "slice",data:=.fields #[vl,vu,.none]}} σ H3 x v vl vu l u s3.heap.objs.size Q I4 r1 (Heap.IsSliceOf.new ..) pl pu q3
 show wpAny (model X.prog X.w) X.A (subscriptTail e (.Slice lo hi none p2) v (.ref s3.heap.objs.size)) (EP X pins σ Q) X.xe {s3 with heap:=s3.heap.push {cls:=.type "slice",data:=.fields #[vl,vu,.none]}}
 exact tail_any (ops:=[.ref s3.heap.objs.size,v]) ht hT hg (by with_unfolding_all rfl)
def mC (xs:List V) (lo hi:Option Int):List V:=(xs.drop (HT.gX xs.length 0 lo)).take (HT.gX xs.length xs.length hi-HT.gX xs.length 0 lo)
theorem xf (xs:List V) (lo hi:Option Int):(mC xs lo hi).length≤xs.length:=by
 unfold mC
 rw[List.length_take,List.length_drop]
 omega
end
def mE (n:Nat) (i:Int):Option Nat:=if 0≤i then(if i<n then some i.toNat else none) else if-(n:Int)≤i then some (i+n).toNat else none
def mF {α:Type} (xs:List α) (i:Int):Option α:=(mE xs.length i).bind fun j=>xs[j]?
theorem qB {n:Nat} {i:Int} {j:Nat} (h:mE n i=some j):seqIndex? i n=some j∧j<n∧ -(n:Int)≤i∧i<n:=by
 unfold mE at h
 by_cases h0:0≤i
 ·rw[if_pos h0] at h
  by_cases h1:i<n
  ·rw[if_pos h1] at h
   have e:i.toNat=j:=Option.some.inj h
   exact⟨by rw[seqIndex_of h0 h1,e],by omega,by omega,h1⟩
  ·rw[if_neg h1] at h;cases h
 ·rw[if_neg h0] at h
  by_cases h1: -(n:Int)≤i
  ·rw[if_pos h1] at h
   have e:(i+n).toNat=j:=Option.some.inj h
   exact⟨by rw[seqIndex_neg (by omega) h1,e],by omega,h1,by omega⟩
  ·rw[if_neg h1] at h;cases h
theorem qC {α:Type} {xs:List α} {i:Int} {v:α} (h:mF xs i=some v):∃j,seqIndex? i xs.length=some j∧xs[j]? =some v∧j<xs.length∧ -(xs.length:Int)≤i∧i<xs.length:=by
 unfold mF at h
 cases e:mE xs.length i with
 | none=>rw[e] at h;cases h
 | some j=>
  rw[e] at h
  obtain⟨h1,h2,h3,h4⟩:=qB e
  exact⟨j,h1,h,h2,h3,h4⟩
theorem aA {α:Type} {xs:List α} {j:Nat} {v:α} (h:xs[j]? =some v):mF xs (j:Int)=some v:=by
 have hj:j<xs.length:=(List.getElem?_eq_some_iff.mp h).1
 have e:mE xs.length (j:Int)=some j:=by
  unfold mE
  rw[if_pos (by omega),if_pos (by omega)];simp
 unfold mF;rw[e];exact h
def Fe (b:Expr):Prop:=∀o i,subscripted b false o i=operate [o,i] (getItem o i)
def yo (X:Cx) (r:R2):Prop:=
 ∀(value slice:Expr) (pins:List (Addr×Obj)) (s:Shared) (σ:St) (H:Hp) (x y:V) (v u:Value) (Q:VK),Inv X pins σ H s→RelV x v→RelV y u→r x y H Q→
  subscripted slice false v u=operate [v,u] (getItem v u)→wpAny (model X.prog X.w) X.A (subscriptTail value slice v u) (EP X pins σ Q) X.xe s
def GI (X:Cx) (id:String) (r:V→List V→Hp→VK→Prop):Prop:=
 ∀(pins:List (Addr×Obj)) (s:Shared) (σ:St) (H:Hp) (x:V) (xs:List V) (v:Value) (us:List Value) (Q:VK),Inv X pins σ H s→RelV x v→Vals xs us→r x xs H Q→
  wpAny (model X.prog X.w) X.A (call (.builtin id) (v::us)) (EP X pins σ Q) X.xe s
section
variable {X:Cx} {a b:Expr} {ta tb:TE} {pos:Pos}
theorem aH {r:R2} (hr:yo X r) (ha:PE X a ta) (hb:PE X b tb) (hs:Fe b):PE X (.Subscript a b pos) (DP r ta tb):=by
 intro pins s σ H Q I h
 exact Subscript_ (Co ha hb I h fun v u s2 x y H2 I2 rx ry q=>hr a b pins s2 σ H2 x y v u Q I2 rx ry q (hs _ _))
def GJ (K:PySem.W.Frag):R2:=fun x y H Q=>∃p xs i v,x=.ref p∧y=.int i∧bJ K H p xs∧mF xs i=some v∧Q v H
def GK (K:PySem.W.Frag):R2:=fun x y H Q=>∃p xs i v,x=.ref p∧y=.int i∧cH K H p xs∧mF xs i=some v∧Q v H
def MX:R2:=fun x y H Q=>∃z i c,x=.str z∧y=.int i∧z.length≤sizeLine∧mF z.cps.toList i=some c∧Q (.str ⟨#[c]⟩) H
theorem Ff:yo X (GJ X.K):=by
 intro value slice pins s σ H x y v u Q I rx ry h hs
 obtain⟨p,xs,i,z,rfl,rfl,hq,he,q⟩:=h
 cases rx
 obtain⟨t,rfl⟩:=ry
 obtain⟨its,r,pl,hz⟩:=I.list hq
 obtain⟨j,h1,h2,h3,h4,h5⟩:=qC he
 obtain⟨w,ew,mG⟩:=r.get h2
 have hl:=r.length
 have hn:=j'
 have fin:EP X pins σ Q w s:=⟨z,H,I,mG,q⟩
 by_cases h0:0≤i
 ·have hj:i.toNat=j:=by
   rw[seqIndex_of h0 h5] at h1
   exact Option.some.inj h1
  exact item_listR pl.isList h0 (by omega) (by rw[hj];simpa using ew) fin hs
 ·have hj:(i+(its.toArray.size:Int)).toNat=j:=by
   rw[seqIndex_neg (by omega) h4] at h1
   rw[List.size_toArray,←hl]
   exact Option.some.inj h1
  exact subscriptTail_builtinR (x:=w) pl.isList.typeIs slot_list_getitem.lookup
   (wpAny_getItem_list_neg (Q:=fun r s'=>r=w∧EP X pins σ Q r s') pl.isList (by omega) (by rw[List.size_toArray]<;>omega) (by omega) (by rw[hj];simpa using ew) ⟨rfl,fin⟩) hs
theorem GL:yo X (GK X.K):=by
 intro value slice pins s σ H x y v u Q I rx ry h hs
 obtain⟨p,xs,i,z,rfl,rfl,hq,he,q⟩:=h
 cases rx
 obtain⟨t,rfl⟩:=ry
 obtain⟨its,r,pl,hz⟩:=I.tuple hq
 obtain⟨j,h1,h2,h3,h4,h5⟩:=qC he
 obtain⟨w,ew,mG⟩:=r.get h2
 have hl:=r.length
 have hn:=j'
 have fin:EP X pins σ Q w s:=⟨z,H,I,mG,q⟩
 exact subscriptTail_builtinR (x:=w) pl.typeIs slot_tuple_getitem.lookup
  (getItem_tuple (j:=j) (Q:=fun r s'=>r=w∧EP X pins σ Q r s') pl (by omega) (by omega) (by rw[List.size_toArray,←hl];exact h1) (by simpa using ew) ⟨rfl,fin⟩) hs
theorem AK:yo X MX:=by
 intro value slice pins s σ H x y v u Q I rx ry h hs
 obtain⟨z,i,c,rfl,rfl,hz,he,q⟩:=h
 obtain⟨t,rfl⟩:=rx
 obtain⟨t',rfl⟩:=ry
 obtain⟨j,h1,h2,h3,h4,h5⟩:=qC he
 have hl:z.cps.toList.length=z.length:=by simp[Str.length]
 rw[hl] at h1 h4 h5
 have hn:=j'
 exact tail_any (typeIs_str s z t) slot_str_getitem.lookup (getItem_str (c:=c) (by
  have e1:decide (i< -(2 ^ 63:Int))=false:=decide_eq_false (by omega)
  have e2:decide (i ≥ 2 ^ 63)=false:=decide_eq_false (by omega)
  rw[e1,e2,Bool.or_false]) (by rw[h1];simpa using h2) ⟨.str ⟨#[c]⟩,H,I.tok _,⟨_,rfl⟩,q⟩) hs
theorem zv (its:List Value) (n j:Nat) (u:Value):Obj.mapSeq (·.setIfInBounds j u) {cls:=.type "list",data:=.seq its.toArray n}={cls:=.type "list",data:=.seq (its.set j u).toArray n}:=by
 simp[Obj.mapSeq]
theorem Inv.lst {pins:List (Addr×Obj)} {σ:St} {H:Hp} {s:Shared} {p:Addr} {xs:List V} (I:Inv X pins σ H s) (h:H p=some (.lst xs)):
  ∃(its:List Value) (n:Nat),Vals xs its∧s.heap.get? p=some {cls:=.type "list",data:=.seq its.toArray n}∧xs.length≤sizeLine:=by
 obtain⟨z,its,n,r,e⟩:=I.hok p _ h
 exact⟨its,n,r,e,z⟩
theorem Inv.GN {pins:List (Addr×Obj)} {σ:St} {H:Hp} {s:Shared} {p:Addr} {xs ys:List V} {its its':List Value} {n n':Nat} {f:Obj→Obj} (I:Inv X pins σ H s) (h:H p=some (.lst xs))
  (ho:s.heap.get? p=some {cls:=.type "list",data:=.seq its.toArray n}) (hf:f {cls:=.type "list",data:=.seq its.toArray n}={cls:=.type "list",data:=.seq its'.toArray n'}) (r:Vals ys its') (hz:ys.length≤sizeLine) (t:Nat):
  Inv X pins σ (upd H p (.lst ys)) {s with heap:=s.heap.update p f,toks:=t}:=by
 have e:(s.heap.update p f).get? p=some {cls:=.type "list",data:=.seq its'.toArray n'}:=by
  rw[Heap.get?_update_self f ho (by rw[hf]<;>rfl),hf]
 refine I.write (x:=p) (e:=p) (by rw[h];trivial) (.inl rfl) (fun b u hb q=>(Heap.get?_update_other _ _ (Ne.symm hb)).trans q) ⟨_,e⟩ ?_
 exact⟨hz,its',n',r,e⟩
def Kl:V→V→V→Hp→(Hp→Prop)→Prop:=fun o i v H Q=>∃p xs k j,o=.ref p∧i=.int k∧H p=some (.lst xs)∧mE xs.length k=some j∧Q (upd H p (.lst (xs.set j v)))
theorem set_list:Gr X Kl:=by
 intro pins s σ H o i v ov iv u Q I ro ri rv h
 obtain⟨p,xs,k,j,rfl,rfl,hp,hj,q⟩:=h
 cases ro
 obtain⟨t,rfl⟩:=ri
 obtain⟨its,n,r,ho,hz⟩:=I.lst hp
 obtain⟨h1,h2,h3,h4⟩:=qB hj
 have hl:=r.length
 have hn:=j'
 have I':Inv X pins σ (upd H p (.lst (xs.set j v))) {s with heap:=s.heap.update p (Obj.mapSeq (·.setIfInBounds j u))}:=
  I.GN hp ho (zv its n j u) (r.set rv j) (by rw[List.length_set];exact hz) s.toks
 by_cases h0:0≤k
 ·have hk:k.toNat=j:=by
   rw[seqIndex_of h0 h4] at h1
   exact Option.some.inj h1
  exact PySem.W.ki_setAt ho h0 (by omega) (by rw[List.size_toArray,←hl];exact h4) (by rw[hk];exact⟨_,I',q⟩)
 ·have hk:(k+(its.toArray.size:Int)).toNat=j:=by
   rw[seqIndex_neg (by omega) h3] at h1
   rw[List.size_toArray,←hl]
   exact Option.some.inj h1
  exact PySem.W.ki_setBack ho (by omega) (by rw[List.size_toArray,←hl];exact h3) (by omega) (by rw[hk];exact⟨_,I',q⟩)
theorem uF (lo hi:Option Int) (n:Nat):(sliceBounds lo hi none n).1=((HT.gX n 0 lo:Nat):Int)∧(sliceBounds lo hi none n).2.1=((HT.gX n n hi:Nat):Int)∧(sliceBounds lo hi none n).2.2=1:=by
 refine⟨?_,?_,rfl⟩
 ·cases lo with
  | none=>simp[sliceBounds,HT.gX]
  | some i=>
   simp only[sliceBounds,HT.gX,Option.getD_none,show(1:Int)>0 by decide,if_true]
   by_cases h:i<0
   ·simp only[h,if_true]<;>omega
   ·simp only[h,if_false]<;>omega
 ·cases hi with
  | none=>simp[sliceBounds,HT.gX]
  | some i=>
   simp only[sliceBounds,HT.gX,Option.getD_none,show(1:Int)>0 by decide,if_true]
   by_cases h:i<0
   ·simp only[h,if_true]<;>omega
   ·simp only[h,if_false]<;>omega
theorem tO (its:List Value) (lo hi:Option Int):slicePick its.toArray lo hi none=((its.drop (HT.gX its.length 0 lo)).take (HT.gX its.length its.length hi-HT.gX its.length 0 lo)).toArray:=by
 obtain⟨h1,h2,h3⟩:=uF lo hi its.toArray.size
 unfold slicePick
 rw[h1,h2,h3]
 simp only[sliceRange_one,pick_run,List.size_toArray]<;>rfl
def GO (K:PySem.W.Frag):V→Option Int→Option Int→Hp→VK→Prop:=fun x lo hi H Q=>∃a xs,x=.ref a∧bJ K H a xs∧∀p,H p=none→Q (.ref p) (upd H p (.lst (mC xs lo hi)))
theorem Fg:DW X (GO X.K):=by
 intro pins s σ H x v vl vu lo hi sl Q I rx hs pl pu h
 obtain⟨a,xs,rfl,hx,q⟩:=h
 cases rx
 obtain⟨its,r,ht,hz⟩:=I.list hx
 have hlen:=r.length
 refine⟨"list",_,slot_list_getitem.lookup,ht.isList.typeIs,?_⟩
 refine wpAny_getItem_list_slice ht.isList hs pl pu .none (by simp) ?_ (by rw[List.size_toArray]<;>omega)
 rw[tO,←hlen]
 refine⟨.ref s.heap.objs.size,_,I.laid (t':=s.toks) (o:=.lst (mC xs lo hi)) (fun b ob q=>Heap.get?_push_of_some _ q) (Nat.le_refl _) ?_,rfl,q _ (I.hok.fresh (Nat.le_refl _))⟩
 exact⟨Nat.le_trans (xf xs lo hi) hz,_,0,(r.drop (HT.gX xs.length 0 lo)).take (HT.gX xs.length xs.length hi-HT.gX xs.length 0 lo),Heap.get?_push_size _ rfl⟩
def gi:V→Bool
 | .non=>true
 | .bl _=>true
 | .int _=>true
 | .str _=>true
 | _=>false
def jI:V→V→Bool
 | .non,.non=>true
 | .bl a,.bl b=>a == b
 | .bl a,.int b=>(if a then 1 else 0) == b
 | .int a,.bl b=>a == (if b then 1 else 0)
 | .int a,.int b=>a == b
 | .str a,.str b=>a == b
 | _,_=>false
theorem AL {A:Around} {s:Shared} {y x:V} {u v:Value} (ry:RelV y u) (rx:RelV x v) (fy:gi y=true) (fx:gi x=true):SeqAt.EqAt A s u v (jI y x):=by
 cases y with
 | non=>
  cases ry
  cases x with
  | non=>cases rx;exact SeqAt.EqAt.same _
  | bl b=>cases rx;exact SeqAt.EqAt.none_bool b
  | int b=>obtain⟨t,rfl⟩:=rx;exact SeqAt.EqAt.none_int b t
  | str b=>obtain⟨t,rfl⟩:=rx;exact SeqAt.EqAt.none_str b t
  | _=>exact absurd (show false=true from fx) Bool.false_ne_true
 | bl a=>
  cases ry
  cases x with
  | non=>cases rx;exact SeqAt.EqAt.bool_none a
  | bl b=>cases rx;exact SeqAt.EqAt.bool_bool a b
  | int b=>obtain⟨t,rfl⟩:=rx;exact SeqAt.EqAt.bool_int a b t
  | str b=>obtain⟨t,rfl⟩:=rx;exact SeqAt.EqAt.bool_str a b t
  | _=>exact absurd (show false=true from fx) Bool.false_ne_true
 | int a=>
  obtain⟨t',rfl⟩:=ry
  cases x with
  | non=>cases rx;exact SeqAt.EqAt.int_none a t'
  | bl b=>cases rx;exact SeqAt.EqAt.int_bool a t' b
  | int b=>obtain⟨t,rfl⟩:=rx;exact SeqAt.EqAt.int_int a t' b t
  | str b=>obtain⟨t,rfl⟩:=rx;exact SeqAt.EqAt.int_str a t' b t
  | _=>exact absurd (show false=true from fx) Bool.false_ne_true
 | str a=>
  obtain⟨t',rfl⟩:=ry
  cases x with
  | non=>cases rx;exact SeqAt.EqAt.str_none a t'
  | bl b=>cases rx;exact SeqAt.EqAt.str_bool a t' b
  | int b=>obtain⟨t,rfl⟩:=rx;exact SeqAt.EqAt.str_int a t' b t
  | str b=>obtain⟨t,rfl⟩:=rx;exact SeqAt.EqAt.str_str a t' b t
  | _=>exact absurd (show false=true from fx) Bool.false_ne_true
 | _=>exact absurd (show false=true from fy) Bool.false_ne_true
def jg (x:V) (u:Value):Bool:=match u with
 | .none=>jI .non x
 | .bool b=>jI (.bl b) x
 | .int i _=>jI (.int i) x
 | .str z _=>jI (.str z) x
 | _=>false
theorem AN {x y:V} {u:Value} (r:RelV y u) (f:gi y=true):jg x u=jI y x:=by
 cases y with
 | non=>cases r;rfl
 | bl b=>cases r;rfl
 | int i=>obtain⟨t,rfl⟩:=r;rfl
 | str z=>obtain⟨t,rfl⟩:=r;rfl
 | _=>exact absurd (show false=true from f) Bool.false_ne_true
theorem kg {x:V}:∀{xs:List V} {us:List Value},Vals xs us→xs.all gi=true→us.any (jg x)=xs.any fun y=>jI y x
 | _,_,.nil,_=>rfl
 | y::xs,u::us,.cons r t,f=>by
  rw[List.all_cons,Bool.and_eq_true] at f
  rw[List.any_cons,List.any_cons,AN r f.1,kg t f.2]
theorem jh {A:Around} {s:Shared} {x:V} {v:Value} (rx:RelV x v) (fx:gi x=true):∀{xs:List V} {us:List Value},Vals xs us→xs.all gi=true→∀u∈us,SeqAt.EqAt A s u v (jg x u)
 | _,_,.nil,_=>fun u hu=>by cases hu
 | y::xs,u::us,.cons r t,f=>fun u' hu=>by
  rw[List.all_cons,Bool.and_eq_true] at f
  rcases List.mem_cons.mp hu with rfl | hu
  ·rw[AN r f.1];exact AL r rx f.1 fx
  ·exact jh rx fx t f.2 u' hu
def inV (x:V) (xs:List V):Bool:=xs.any fun y=>jI y x
def DX (K:PySem.W.Frag) (neg:Bool):R2:=fun x y H Q=>∃p xs,y=.ref p∧(bJ K H p xs∨cH K H p xs)∧gi x=true∧xs.all gi=true∧Q (.bl (if neg then !inV x xs else inV x xs)) H
theorem AO:dk X (compareOp .In) (DX X.K false):=by
 intro pins s σ H x y v u Q I rx ry h
 obtain⟨p,xs,rfl,hq,fx,fs,q⟩:=h
 cases ry
 rcases hq with hq | hq
 ·obtain⟨its,r,pl,hz⟩:=I.list hq
  refine SeqAt.in_listAt (jg x) pl.isList (fun w hw=>jh rx fx r fs w (by simpa using hw)) ⟨.bl _,H,I,rfl,?_⟩
  rw[show its.toArray.any (jg x)=its.any (jg x) by simp,kg r fs]
  exact q
 ·obtain⟨its,r,pl,hz⟩:=I.tuple hq
  refine SeqAt.in_tupleAt (jg x) pl (fun w hw=>jh rx fx r fs w (by simpa using hw)) ⟨.bl _,H,I,rfl,?_⟩
  rw[show its.toArray.any (jg x)=its.any (jg x) by simp,kg r fs]
  exact q
theorem uG:dk X (compareOp .NotIn) (DX X.K true):=by
 intro pins s σ H x y v u Q I rx ry h
 obtain⟨p,xs,rfl,hq,fx,fs,q⟩:=h
 cases ry
 rcases hq with hq | hq
 ·obtain⟨its,r,pl,hz⟩:=I.list hq
  refine SeqAt.notIn_listAt (jg x) pl.isList (fun w hw=>jh rx fx r fs w (by simpa using hw)) ⟨.bl _,H,I,rfl,?_⟩
  rw[show its.toArray.any (jg x)=its.any (jg x) by simp,kg r fs]
  exact q
 ·obtain⟨its,r,pl,hz⟩:=I.tuple hq
  refine SeqAt.notIn_tupleAt (jg x) pl (fun w hw=>jh rx fx r fs w (by simpa using hw)) ⟨.bl _,H,I,rfl,?_⟩
  rw[show its.toArray.any (jg x)=its.any (jg x) by simp,kg r fs]
  exact q
theorem uH:cS X (.type "list") (fun xs H Q=>∃p ys,xs=[.ref p]∧(bJ X.K H p ys∨cH X.K H p ys)∧∀l,H l=none→Q (.ref l) (upd H l (.lst ys))):=by
 intro pins s σ H xs us Q I r h
 obtain⟨p,ys,rfl,hq,q⟩:=h
 obtain⟨u,rfl,rx⟩:=vals1 r
 cases rx
 have fin:∀(its:List Value),Vals ys its→ys.length≤sizeLine→∀(h':Heap) (c':Nat),(∀b o',s.heap.get? b=some o'→h'.get? b=some o')→
   h'.get? s.heap.objs.size=some {cls:=.type "list",dict:=none,data:=.seq its.toArray c',slots:= #[]}→EP X pins σ Q (.ref s.heap.objs.size) {s with heap:=h'}:=fun its r' hz h' c' kp e=>
  ⟨.ref s.heap.objs.size,_,I.laid (t':=s.toks) kp (Nat.le_refl _) (show bp X.prog X.w _ h' _ (.lst ys) from⟨hz,its,c',r',e⟩),rfl,q _ (I.hok.fresh (Nat.le_refl _))⟩
 rcases hq with hq | hq
 ·obtain⟨its,r',pl,hz⟩:=I.list hq
  have hlen:=r'.length
  obtain⟨o,ho,hc,n,hd⟩:=pl.isList
  exact call_list_seq p (.inl rfl) ho hc hd (fun h' c' kp e=>fin its r' hz h' c' kp e) (by simp only[List.size_toArray]<;>omega)
 ·obtain⟨its,r',pl,hz⟩:=I.tuple hq
  have hlen:=r'.length
  obtain⟨o,ho,hc,n,hd⟩:=pl
  exact call_list_seq p (.inr rfl) ho hc hd (fun h' c' kp e=>fin its r' hz h' c' kp e) (by simp only[List.size_toArray]<;>omega)
theorem tP:cS X (.type "tuple") (fun xs H Q=>∃p ys,xs=[.ref p]∧((bJ X.K H p ys∧∀l,H l=none→Q (.ref l) (upd H l (.tup ys)))∨(cH X.K H p ys∧Q (.ref p) H))):=by
 intro pins s σ H xs us Q I r h
 obtain⟨p,ys,rfl,h⟩:=h
 obtain⟨u,rfl,rx⟩:=vals1 r
 cases rx
 rcases h with⟨hq,q⟩ | ⟨hq,q⟩
 ·obtain⟨its,r',pl,hz⟩:=I.list hq
  have hlen:=r'.length
  refine call_tuple_list pl.isList (fun h' kp=>?_) (by simp only[List.size_toArray]<;>omega)
  have I1:Inv X pins σ H {s with heap:=h'}:=I.kept (t':=s.toks) kp
  have I2:Inv X pins σ (upd H h'.objs.size (.tup ys)) {s with heap:=h'.push {cls:=.type "tuple",data:=.seq its.toArray}}:=
   I1.laid (t':=s.toks) (fun b o e=>Heap.get?_push_of_some _ e) (Nat.le_refl _) (show bp X.prog X.w _ _ _ (.tup ys) from⟨⟨hz,_,Heap.get?_push_size _ rfl,rfl⟩,its,r',IsTup.new _ _⟩)
  exact⟨.ref h'.objs.size,_,I2,rfl,q _ (I1.hok.fresh (Nat.le_refl _))⟩
 ·obtain⟨its,r',pl,hz⟩:=I.tuple hq
  exact call_tuple_same pl ⟨.ref p,H,I,rfl,q⟩
def GP (K:PySem.W.Frag) (T:String) (x:V) (H:Hp):Prop:=match x with
 | .str _=>T="str"
 | .int _=>T="int"
 | .ref p=>(T="list"∧∃xs,bJ K H p xs)∨(T="tuple"∧∃o,K.lookup p=some o∧o.cls=.type "tuple"∧o.dict=none)∨
   (T="dict"∧((∃kvs,H p=some (.dK kvs))∨∃kvs,H p=some (.dT kvs)))∨(T="set"∧∃S n,H p=some (.set S n))
 | _=>False
theorem AQ {pins:List (Addr×Obj)} {σ:St} {H:Hp} {s:Shared} {T:String} {x:V} {v:Value} (I:Inv X pins σ H s) (r:RelV x v) (ty:GP X.K T x H):
  s.TypeIs v T∧∀a,v=.ref a→∃ob,s.heap.get? a=some ob∧ob.dict=none:=by
 cases x with
 | str z=>
  obtain⟨t,rfl⟩:=r
  cases(show T="str" from ty)
  exact⟨typeIs_str s z t,fun _ e=>nomatch e⟩
 | int i=>
  obtain⟨t,rfl⟩:=r
  cases(show T="int" from ty)
  exact⟨typeIs_int s i t,fun _ e=>nomatch e⟩
 | ref p=>
  cases r
  rcases ty with⟨rfl,xs,hq⟩ | ⟨rfl,o,hk,hc,hd⟩ | ⟨rfl,hk⟩ | ⟨rfl,S,n,hk⟩
  ·obtain⟨its,_,pl,_⟩:=I.list hq
   refine⟨pl.isList.typeIs,fun a e=>?_⟩
   cases e
   obtain⟨o,n,e,c,hd,_⟩:=pl
   exact⟨o,e,hd⟩
  ·refine⟨⟨o,I.gH p o hk,hc⟩,fun a e=>?_⟩
   cases e
   exact⟨o,I.gH _ o hk,hd⟩
  ·have z:∃o,s.heap.get? p=some o∧o.ExactDict:=by
    rcases hk with⟨kvs,hk⟩ | ⟨kvs,hk⟩
    ·obtain⟨_,_,_,_,o,_,_,e,ex,_⟩:=I.hok p _ hk
     exact⟨o,e,ex⟩
    ·obtain⟨_,_,_,_,o,_,_,e,ex,_⟩:=I.hok p _ hk
     exact⟨o,e,ex⟩
   obtain⟨o,e,ex⟩:=z
   refine⟨⟨o,e,ex.1⟩,fun a e2=>?_⟩
   cases e2
   exact⟨o,e,ex.2.1⟩
  ·obtain⟨o,_,_,_,e,ex,_⟩:=I.hok p _ hk
   refine⟨⟨o,e,ex.1⟩,fun a e2=>?_⟩
   cases e2
   exact⟨o,e,ex.2.1⟩
 | _=>exact False.elim ty
def MY (K:PySem.W.Frag) (T:String) (r:V→List V→Hp→VK→Prop) (to:TE):TE:=fun σ H Q=>to σ H fun x H1=>GP K T x H1∧r x [] H1 Q
def K2 (K:PySem.W.Frag) (T:String) (r:V→List V→Hp→VK→Prop) (to:TE) (t:TA):TE:=fun σ H Q=>to σ H fun x H1=>GP K T x H1∧t σ H1 fun xs H2=>r x xs H2 Q
variable {o e:Expr} {es:List Expr} {to:TE} {t:TA} {name:Str} {apos cpos:Pos} {T id:String} {r:V→List V→Hp→VK→Prop}
theorem GQ (pa:PlainAttrs T) (slot:Slot T name id) (hty:typeOf (.builtin id)=pure (.type "method_descriptor")) (hm:GI X id r) (ho:PE X o to)
  (hbase:attributeBase o name X.env (eval o X.env)=eval o X.env:=by rfl) (hline:(apos.endLine == cpos.line)=true:=by rfl):PE X (.Call (.Attribute o name apos) [] [] cpos) (MY X.K T r to):=by
 intro pins s σ H Q I h
 refine wpAny_Call_method0_late hbase hline (aG (ho pins s σ H _ I h) fun v s1 ⟨x,H1,I1,r1,ty,q1⟩=>?_)
 obtain⟨h1,h2⟩:=AQ I1 r1 ty
 exact⟨T,id,pa,slot,hty,h1,h2,Calls.callWith_builtin rfl (PySem.evalArgs_none (hm pins s1 σ H1 x [] v [] Q I1 r1 .nil q1))⟩
theorem cL (pa:PlainAttrs T) (slot:Slot T name id) (hty:typeOf (.builtin id)=pure (.type "method_descriptor")) (hm:GI X id r) (ho:PE X o to) (ha:PA X (e::es) t)
  (hbase:attributeBase o name X.env (eval o X.env)=eval o X.env:=by rfl)
  (hfew:((backTo cpos (starEach (e::es) X.env)).all (fun x=> !x.1)&&(backToKw cpos (keywordEach [] X.env)).all (fun x=>x.1.isSome)
   &&decide ((e::es).length+([]:List Keyword).length+(if([]:List Keyword).isEmpty then 0 else 1)<30))=true:=by rfl)
  (hline:(apos.endLine == cpos.line)=true:=by rfl) (hs:starEach (e::es) X.env=(false,eval e X.env)::starEach es X.env:=by rfl) (hplain:(backTo cpos (starEach es X.env)).any (·.1)=false:=by rfl):
  PE X (.Call (.Attribute o name apos) (e::es) [] cpos) (K2 X.K T r to t):=by
 intro pins s σ H Q I h
 refine wpAny_Call_method_late hbase hfew hline rfl (aG (ho pins s σ H _ I h) fun v s1 ⟨x,H1,I1,r1,ty,q1⟩=>?_)
 obtain⟨h1,h2⟩:=AQ I1 r1 ty
 refine⟨T,id,pa,slot,hty,h1,h2,?_⟩
 have hA:=ha cpos pins s1 σ H1 _ I1 q1
 rw[hs] at hA ⊢
 refine Calls.callWith_builtin (by show(false||(backTo cpos (starEach es X.env)).any (·.1))=false;rw[hplain]<;>rfl) (Calls.evalArgs_plain ?_)
 exact aG hA fun us s2 ⟨vs,H2,I2,r2,q2⟩=>hm pins s2 σ H2 x vs v us Q I2 r1 r2 q2
end
def yp (X:Cx) (id:String) (r:V→List V→Hp→VK→Prop):Prop:=
 ∀(pins:List (Addr×Obj)) (s:Shared) (σ:St) (H:Hp) (x:V) (xs:List V) (v:Value) (us:List Value) (Q:VK),Inv X pins σ H s→RelV x v→Vals xs us→r x xs H Q→
  wpAny (model X.prog X.w) X.A (call (.builtin id) (v::us)) (EP X pins σ Q) X.xe s
theorem Vals.one:∀{x:V} {us:List Value},Vals [x] us→∃u,us=[u]∧RelV x u
 | _,_,.cons r .nil=>⟨_,rfl,r⟩
theorem Vals.zero:∀{us:List Value},Vals [] us→us=[]
 | _,.nil=>rfl
theorem Vals.dropLast {xs:List V} {us:List Value} (h:Vals xs us):Vals xs.dropLast us.dropLast:=by
 induction h with
 | nil=>exact .nil
 | cons r t ih=>
  cases t with
  | nil=>exact .nil
  | cons q t'=>exact .cons r ih
theorem Vals.eraseIdx:∀{xs:List V} {us:List Value} (i:Nat),Vals xs us→Vals (xs.eraseIdx i) (us.eraseIdx i)
 | _,_,_,.nil=>.nil
 | _,_,0,.cons _ t=>t
 | _,_,i+1,.cons r t=>.cons r (Vals.eraseIdx i t)
theorem Vals.rep {xs:List V} {us:List Value} (h:Vals xs us):∀k:Nat,Vals (List.replicate k xs).flatten (List.replicate k us).flatten
 | 0=>.nil
 | k+1=>by
  rw[List.replicate_succ,List.replicate_succ,List.flatten_cons,List.flatten_cons]
  exact Vals.append h (Vals.rep h k)
theorem zx {α:Type} (l:List α):l.eraseIdx (l.length-1)=l.dropLast:=by
 induction l with
 | nil=>rfl
 | cons a r ih=>
  cases r with
  | nil=>rfl
  | cons b r=>
   have e:(a::b::r).length-1=((b::r).length-1)+1:=by
    have h1:(a::b::r).length=r.length+2:=rfl
    have h2:(b::r).length=r.length+1:=rfl
    omega
   rw[e,List.eraseIdx_cons_succ,ih]
   all_goals rfl
theorem rK {α:Type}:∀(l:List α) (i:Nat),(l.eraseIdx i).length≤l.length
 | [],_=>Nat.le_refl _
 | _::_,0=>Nat.le_succ _
 | _::r,i+1=>Nat.succ_le_succ (rK r i)
theorem foldl_rep (its:List Value):∀(k:Nat) (acc:List Value),
  List.foldl (fun x1 x2=>x1++x2) acc.toArray (List.replicate k its.toArray)=(acc++(List.replicate k its).flatten).toArray
 | 0,acc=>by simp
 | k+1,acc=>by
  have e:acc.toArray++its.toArray=(acc++its).toArray:=by simp
  have e2:(acc++its)++(List.replicate k its).flatten=acc++(List.replicate (k+1) its).flatten:=by
   rw[List.replicate_succ,List.flatten_cons,List.append_assoc]
  rw[←e2,←foldl_rep its k (acc++its),←e,List.replicate_succ,List.foldl_cons]
section
variable {X:Cx} {pins:List (Addr×Obj)} {σ:St} {H:Hp} {s:Shared} {l b:Addr} {xs ys zs:List V}
theorem Inv.zy {its its':List Value} {n:Nat} {f:Array Value→Array Value} {t':Nat} (I:Inv X pins σ H s) (hH:H l=some (.lst xs))
  (e:s.heap.get? l=some {cls:=.type "list",data:=.seq its.toArray n}) (hf:f its.toArray=its'.toArray) (hv:Vals ys its') (hz:ys.length≤sizeLine):
  Inv X pins σ (upd H l (.lst ys)) {s with heap:=s.heap.update l (Obj.mapSeq f),toks:=t'}:=by
 have q:=PySem.IsL.update e f
 rw[hf] at q
 refine I.write (x:=l) (e:=l) (by rw[hH];exact trivial) (.inl rfl) (fun b' u hb hu=>(Heap.get?_update_other s.heap (Obj.mapSeq f) (Ne.symm hb)).trans hu) ⟨_,q⟩ ?_
 exact⟨hz,its',_,hv,q⟩
theorem Inv.Cw {its:List Value} {t':Nat} (I:Inv X pins σ H s) (hv:Vals ys its) (hz:ys.length≤sizeLine):
  Inv X pins σ (upd H s.heap.objs.size (.lst ys)) {s with heap:=s.heap.push {cls:=.type "list",data:=.seq its.toArray},toks:=t'}:=
 I.laid (fun _ _ q=>Heap.get?_push_of_some _ q) (Nat.le_refl _) ⟨hz,its,0,hv,Heap.get?_push_size _ rfl⟩
theorem Inv.fresh (I:Inv X pins σ H s):H s.heap.objs.size=none:=I.hok.fresh (Nat.le_refl _)
theorem Inv.mH (I:Inv X pins σ H s) (hH:H l=some (.lst xs)):xs.length≤sizeLine∧∃(its:List Value) (n:Nat),Vals xs its∧xs.length=its.length∧s.heap.get? l=some {cls:=.type "list",data:=.seq its.toArray n}:=by
 obtain⟨z,its,n,r,e⟩:=I.hok l _ hH
 exact⟨z,its,n,r,r.length,e⟩
theorem uI {n:Nat} (h:n≤sizeLine):Builtin.List.listTooLong n=false:=by
 unfold Builtin.List.listTooLong
 exact decide_eq_false (by omega)
end
section
variable {X:Cx}
def Fh:V→List V→Hp→VK→Prop:=fun x vs H Q=>∃l xs y,x=.ref l∧vs=[y]∧H l=some (.lst xs)∧xs.length<sizeLine∧Q .non (upd H l (.lst (xs++[y])))
theorem bS:yp X "list.append" Fh:=by
 intro pins s σ H x vs v us Q I rx rv h
 obtain⟨l,xs,y,rfl,rfl,hH,hz,q⟩:=h
 cases rx
 obtain⟨u,rfl,ru⟩:=rv.one
 obtain⟨z,its,n,r,hl,e⟩:=I.mH hH
 refine call_meets F.slot_list_append ⟨_,e,rfl⟩ F.entry_list_append (F.args_list_append_2 _ _) (PySem.list_append l its.toArray n u (by rw[List.size_toArray];omega)) ⟨e,?_⟩
 refine⟨.non,_,I.zy (its':=its++[u]) hH e (by simp) (r.append (.cons ru .nil)) ?_,rfl,q⟩
 rw[List.length_append,List.length_singleton]
 omega
def Fi:V→List V→Hp→VK→Prop:=fun x vs H Q=>∃l b xs zs,x=.ref l∧vs=[.ref b]∧H l=some (.lst xs)∧H b=some (.lst zs)∧xs.length+zs.length≤sizeLine∧Q .non (upd H l (.lst (xs++zs)))
theorem jJ:yp X "list.extend" Fi:=by
 intro pins s σ H x vs v us Q I rx rv h
 obtain⟨l,b,xs,zs,rfl,rfl,hH,hB,hz,q⟩:=h
 cases rx
 obtain⟨u,rfl,ru⟩:=rv.one
 cases ru
 obtain⟨z,its,n,r,hl,e⟩:=I.mH hH
 obtain⟨z2,its2,n2,r2,hl2,e2⟩:=I.mH hB
 have hsz:its.toArray.size+its2.toArray.size≤sizeLine:=by rw[List.size_toArray,List.size_toArray];omega
 have zz:¬(!its.toArray.isEmpty&&Builtin.List.listTooLong (its.toArray.size+its2.toArray.size))=true:=by
  rw[uI hsz,Bool.and_false]
  exact Bool.false_ne_true
 refine call_meets F.slot_list_extend ⟨_,e,rfl⟩ F.entry_list_extend (F.args_list_extend_2 _ _)
  (AutoSeq1.list_extend_list_list_0 l its.toArray n b its2.toArray n2 zz (by rw[List.size_toArray];omega) (by omega)) ⟨e,e2,?_⟩
 refine⟨.non,_,I.zy (its':=its++its2) hH e (by simp) (r.append r2) ?_,rfl,q⟩
 rw[List.length_append]
 omega
def MZ:V→List V→Hp→VK→Prop:=fun x vs H Q=>∃l xs y,x=.ref l∧vs=[]∧H l=some (.lst xs)∧xs[xs.length-1]? =some y∧Q y (upd H l (.lst xs.dropLast))
theorem GR:yp X "list.pop" MZ:=by
 intro pins s σ H x vs v us Q I rx rv h
 obtain⟨l,xs,y,rfl,rfl,hH,hy,q⟩:=h
 cases rx
 have hus:=rv.zero
 subst hus
 obtain⟨z,its,n,r,hl,e⟩:=I.mH hH
 obtain⟨u,hu,ru⟩:=r.get hy
 have hy':its.toArray[its.toArray.size-1]? =some u:=by
  show its.toArray[its.length-1]? =some u
  rw[←Array.getElem?_toList,←hl]
  exact hu
 refine call_meets F.slot_list_pop ⟨_,e,rfl⟩ F.entry_list_pop (F.args_list_pop_1 _) (MeetsSeq.list_pop_last l its.toArray n u hy' (by rw[List.size_toArray];omega)) ⟨e,?_⟩
 refine⟨y,_,I.zy (its':=its.dropLast) hH e ?_ r.dropLast ?_,ru,q⟩
 ·show its.toArray.eraseIdxIfInBounds (its.toArray.size-1)=its.dropLast.toArray
  rw[List.size_toArray,List.eraseIdxIfInBounds_toArray,zx]
 ·rw[List.length_dropLast]
  omega
def GS:V→List V→Hp→VK→Prop:=fun x vs H Q=>∃l xs i k y,x=.ref l∧vs=[.int i]∧H l=some (.lst xs)∧ -(2 ^ 63)≤i∧i<2 ^ 63∧seqIndex? i xs.length=some k∧xs[k]? =some y∧Q y (upd H l (.lst (xs.eraseIdx k)))
theorem Cy:yp X "list.pop" GS:=by
 intro pins s σ H x vs v us Q I rx rv h
 obtain⟨l,xs,i,k,y,rfl,rfl,hH,h1,h2,hk,hy,q⟩:=h
 cases rx
 obtain⟨u,rfl,ru⟩:=rv.one
 obtain⟨t,rfl⟩:=ru
 obtain⟨z,its,n,r,hl,e⟩:=I.mH hH
 obtain⟨w,hw,mG⟩:=r.get hy
 refine call_meets F.slot_list_pop ⟨_,e,rfl⟩ F.entry_list_pop (F.args_list_pop_2 _ _)
  (MeetsSeq.list_pop_at l its.toArray n i t k w (fitsIndex_both h1 h2) (by rw[List.size_toArray,←hl];exact hk) (by rw[←Array.getElem?_toList];exact hw) (by rw[List.size_toArray];omega)) ⟨e,?_⟩
 refine⟨y,_,I.zy (its':=its.eraseIdx k) hH e ?_ (r.eraseIdx k) ?_,mG,q⟩
 ·show its.toArray.eraseIdxIfInBounds k=(its.eraseIdx k).toArray
  rw[List.eraseIdxIfInBounds_toArray]
 ·have:=rK xs k
  omega
def M_:R2:=fun x y H Q=>∃l b xs zs,x=.ref l∧y=.ref b∧H l=some (.lst xs)∧H b=some (.lst zs)∧xs.length+zs.length≤sizeLine∧∀p,H p=none→Q (.ref p) (upd H p (.lst (xs++zs)))
theorem GU:dk X (binaryOp .Add) M_:=by
 intro pins s σ H x y v u Q I rx ry h
 obtain⟨l,b,xs,zs,rfl,rfl,hH,hB,hz,q⟩:=h
 cases rx
 cases ry
 obtain⟨z,its,n,r,hl,e⟩:=I.mH hH
 obtain⟨z2,its2,n2,r2,hl2,e2⟩:=I.mH hB
 refine PySem.P.add_list e e2 ?_ (by rw[List.size_toArray,List.size_toArray];omega)
 have ea:its.toArray++its2.toArray=(its++its2).toArray:=by simp
 rw[ea]
 exact⟨.ref _,_,I.Cw (t':=s.toks) (r.append r2) (by rw[List.length_append];omega),rfl,q _ I.fresh⟩
def M1:R2:=fun x y H Q=>∃l k xs,x=.ref l∧y=.int k∧H l=some (.lst xs)∧ -(2 ^ 63)≤k∧k<2 ^ 63∧xs.length*k.toNat≤sizeLine∧
 ∀p,H p=none→Q (.ref p) (upd H p (.lst (List.replicate k.toNat xs).flatten))
theorem len_rep {α:Type} (xs:List α) (k:Nat):(List.replicate k xs).flatten.length=k*xs.length:=by
 induction k with
 | zero=>simp
 | succ k ih=>rw[List.replicate_succ,List.flatten_cons,List.length_append,ih,Nat.succ_mul,Nat.add_comm]
theorem GV:dk X (binaryOp .Mult) M1:=by
 intro pins s σ H x y v u Q I rx ry h
 obtain⟨l,k,xs,rfl,rfl,hH,h1,h2,hz,q⟩:=h
 cases rx
 obtain⟨t,rfl⟩:=ry
 obtain⟨z,its,n,r,hl,e⟩:=I.mH hH
 have hlen:its.toArray.size*k.toNat≤sizeLine:=by rw[List.size_toArray,←hl];exact hz
 have hcap:¬its.toArray.size*k.toNat>(2 ^ 63-1) / 8:=by
  have:(sizeLine:Nat)≤(2 ^ 63-1) / 8:=by decide
  omega
 have hfit:¬(!Builtin.List.listFitsIndex k)=true:=by
  rw[fitsIndex_both h1 h2]
  exact Bool.false_ne_true
 have zz:¬Builtin.List.listTooLong (its.toArray.size*k.toNat)=true:=by
  rw[uI hlen]
  exact Bool.false_ne_true
 have hnew:List.foldl (fun x1 x2=>x1++x2) #[] (List.replicate (if its.toArray.isEmpty=true then 0 else k.toNat) its.toArray)=(List.replicate k.toNat its).flatten.toArray:=by
  have f0:∀m:Nat,List.foldl (fun x1 x2=>x1++x2) #[] (List.replicate m its.toArray)=(List.replicate m its).flatten.toArray:=fun m=>by
   have:=foldl_rep its m []
   rw[List.nil_append] at this
   exact this
  rw[f0]
  cases its with
  | nil=>simp
  | cons a r'=>rw[if_neg (by simp)]
 refine wpAny_binaryOp_repeat_ref (T:="list") (U:="int") (by decide) ⟨_,e,rfl⟩ (fun s'=>typeIs_int s' k t) noFill_list_mul F.fills_int_mul F.slot_int_rmul repeat_list F.slot_int_index.lookup
  (call_meets F.slot_int_rmul (typeIs_int s k t) F.entry_int_rmul (F.args_int_rmul_2 _ _) (int___rmul___int_list k t l its.toArray n)
   ⟨e,rfl,⟨_,e,rfl⟩,call_meets F.slot_list_mul ⟨_,e,rfl⟩ F.entry_list_mul (F.args_list_mul_2 _ _) (AutoListH.list___mul___list_int_3 l its.toArray n k t hfit hcap zz) ⟨e,?_⟩⟩)
 rw[hnew]
 exact⟨.ref _,_,I.Cw (t':=s.toks) (r.rep k.toNat) (by rw[len_rep,Nat.mul_comm];exact hz),rfl,q _ I.fresh⟩
end
end L2
namespace K3
open PySem PySem.W PySem.Calls PyProof.Rows
theorem pN {P:Params} {h:Heap}:∀(ns:List Int) (vs:List Value),WellAll P h vs (ns.map WData.int)→IntsAre vs ns:=by
 intro ns
 induction ns with
 | nil=>
  intro vs w
  rw[List.map_nil] at w
  cases w
  exact .nil
 | cons n ns ih=>
  intro vs w
  rw[List.map_cons] at w
  cases w with
  | cons a b=>
   cases a
   exact .cons _ _ (ih _ b)
theorem AU {l:OpenLaw} {n:Nat} (hn:l.most=some n) {P:Params} {h:Heap} {args:List WData} {vals:List Value}
  (hpre:l.row.toRowW.claim.pre args=true) (hwl:WellAll P h vals args):
  ∃a vs ns,vals=[Value.ref a]∧args=[WData.list (ns.map WData.int)]∧h.get? a=some {cls:=.type "list",data:=.seq vs.toArray}∧IntsAre vs ns∧ns.length≤n:=by
 have hsh:WShape.hasAll [] args [.list .int]=true:=(pre_splitW hpre).1
 have hc:l.pre.holds [] {args:=args}=true:=(pre_splitW hpre).2
 obtain⟨d,r,rfl,h1,h2⟩:=hasAllW_cons hsh
 obtain rfl:=hasAllW_nil h2
 obtain⟨xs,rfl,h3⟩:=hasW_list h1
 obtain⟨ns,rfl⟩:=items_int h3
 have hlen:ns.length≤n:=by
  unfold OpenLaw.pre at hc
  have h4:(WTm.not (.lt (.lit (.int (n:Int))) (.len (.arg 0)))).holds [] {args:=[.list (ns.map .int)]}=true:=by
   have h4:=(holds_andW hc).1
   rw[hn] at h4
   exact h4
  have h5:=condW_of h4 (w_not (w_lt w_lit (w_len_list (w_arg rfl))))
  rw[List.length_map] at h5
  refine Nat.le_of_not_lt fun q=>?_
  have q':(n:Int)<((ns.length:Nat):Int):=by omega
  first
   | (rw[decide_eq_true q'] at h5;exact absurd h5 (by decide))
   | (simp at h5;omega)
 cases hwl with
 | cons w1 w2=>
  cases w2
  cases w1 with
  | list ho hall=>exact⟨_,_,ns,rfl,rfl,ho,pN ns _ hall,hlen⟩
theorem AV (l:OpenLaw) (args:List WData):l.row.toRowW.claim.post args (.bool true) args=true:=
 postW_of (r:=l.row.toRowW) (X:=(true == true))
  (show WShape.has [] (.bool true) .bool=true by first | rfl | decide | simp[WShape.has,WShape.arms,WShape.armsAll])
  (show(WTm.eq .res (.lit (.bool true))).value [] {args:=args,res:=some (.bool true),after:=args}=some (.bool (true == true)) from w_eq_bool (w_res rfl) w_lit) rfl
theorem xg {l:OpenLaw} {n:Nat} {q:Program} {loose:List Str} {XP:(Str→Option Value)→Heap→Prop} {YP:World→Heap→Prop} {d:DefRec}
  (hn:l.most=some n) (hdf:d.params.defaults=[])
  (call:∀(w:World) (s₀ s₁:Shared) (mg mb:Str→Option Value) (fa:Addr) (o:Obj) (pm cd doc:Value) (a:Addr) (vs:List Value) (ns:List Int),
   Ground q loose [] XP w s₀ mg mb s₁.heap→YP w s₁.heap→
   s₁.heap.get? fa=some o→o.data=.func (docDef d.name d.params d.body d.scope pm cd doc)→s₁.heap.CodeRec cd d.name→mg d.name=some (.ref fa)→
   s₁.heap.get? a=some {cls:=.type "list",data:=.seq vs.toArray}→IntsAre vs ns→ns.length≤n→s₁.gens= #[]→
   codeAny (model l.prog w) callerA (.call (.ref fa) ⟨[.ref a],[]⟩) (fun r s'=>r=.ok (.ret (.bool true))∧OldK s₁.heap s'.heap∧s'.os=s₁.os∧AllBare s'.gens) s₁):
  WalkO q loose XP YP l.row.toRowW d [] (fun f vs=>PySem.call f vs):=by
 intro w s₀ s₁ mg mb G Y fa o pm cd doc dV kV ho hd hcd hD hmg hg args vals as hpre hlay hrd hwl hlo
 obtain rfl:dV=.none:=Dflts.none hD hdf
 obtain rfl:kV=.none:=Dflts.noKw hD
 obtain⟨a,vs,ns,rfl,rfl,hobj,hints,hlen⟩:=AU hn hpre hwl
 refine enter_call (codeAny_mono (call w s₀ s₁ mg mb fa o pm cd doc a vs ns G Y ho (fd_plain hd) hcd hmg hobj hints hlen hg) fun r s' hq=>?_)
 obtain⟨rfl,h2,h3,h4⟩:=hq
 exact⟨.inl ⟨.bool true,.bool true,[],rfl,fun _=>rfl,.bool true,AV l _,fun _=>⟨List.Pairwise.nil,fun _ hm=>(nomatch hm)⟩⟩,h2,h3,h4⟩
end K3
namespace L2
open PySem PySem.Spec PyProof.Rows
theorem mI:∀{vs:List Value} {ns:List Int},IntsAre vs ns→Vals (ns.map V.int) vs
 | _,_,.nil=>.nil
 | _,_,.cons n t h=>.cons ⟨t,rfl⟩ (mI h)
def aL (s:Stmt):Arguments:=match s with
 | .FunctionDef _ a _ _ _ _ _ _ _ _=>a
 | _=>{posonlyargs:=[],args:=[],vararg:=none,kwonlyargs:=[],kw_defaults:=[],kwarg:=none,defaults:=[]}
def aI (s:Stmt):List Stmt:=match s with
 | .FunctionDef _ _ b _ _ _ _ _ _ _=>b
 | _=>[]
def ak (s:Stmt):Scope:=match s with
 | .FunctionDef _ _ _ _ _ _ sc _ _ _=>sc
 | _=>{kind:=.function,names:=[],isGenerator:=false,isCoroutine:=false}
abbrev cE:ou:=fun _ _ _ _ _ _=>False
abbrev E0:XK:=fun _ _ _=>False
theorem aR {X:Cx}:Passes cE X E0:=fun _ _ _ _ _ _ _ h=>h.elim
structure eJ (K:PySem.W.Frag) (x qual:Str) (st:Stmt) (f:Addr) (fd:FuncData):Prop where
 ex:∃(oc:Value) (od:Option Addr) (kV doc pm:Value) (an:Option Addr) (cdv ct:Value) (osl:Array (Option Value)),
  fd=PySem.W.fnOf x qual (aL st) (aI st) (ak st) .none kV doc pm an cdv ct∧K.lookup f=some ⟨oc,od,.func fd,osl⟩∧PySem.W.codeIn K cdv qual=true
 kp:PySem.W.keepIn K (.ref f)=true
section
variable {P:Program} {w:World} {K:PySem.W.Frag} {mg:Str→Option Value} {base:Heap}
theorem eJ.ok {x qual:Str} {st:Stmt} {f:Addr} {fd:FuncData} {N ps:List Str} {k:Nat} {sp:Sp} (F:eJ K x qual st f fd) (S:aW N ps (ak st)) (len:∀vs H Q E,sp vs H Q E→vs.length=ps.length)
  (hbody:∀(cdv:Value) (A:Around) (outer:List Env) (s:Shared) (H:Hp) (vs:List V) (Q:VK) (E:XK),aU k (A.deeper (envOfC qual (ak st) s.heap.objs.size f cdv))→sp vs H Q E→
   ∃t,jG (oS cE P w K mg base N qual (ak st) f cdv A outer s H E).yd (aI st) t∧t {nx:=fun _ H'=>Q .non H',rt:=Q} (start N vs) H):bD P w K mg base cE (k+1) f fd ps sp:=by
 obtain⟨oc,od,kV,doc,pm,an,cdv,ct,osl,rfl,lk,hcd⟩:=F.ex
 refine DV lk hcd S len fun A outer s H vs Q E hr hsp=>?_
 obtain⟨t,h,q⟩:=hbody cdv A outer s H vs Q E hr hsp
 exact⟨t,h.yd,q⟩
theorem eJ.binds {x qual:Str} {st:Stmt} {f:Addr} {fd:FuncData} {ps:List Str} (F:eJ K x qual st f fd)
  (h:∀(kV doc pm:Value) (an:Option Addr) (cdv ct:Value) (us:List Value),us.length=ps.length→bindArgs (PySem.W.fnOf x qual (aL st) (aI st) (ak st) .none kV doc pm an cdv ct) ⟨us,[]⟩=pure (ps.zip us)):Binds K fd ps []:=by
 obtain⟨oc,od,kV,doc,pm,an,cdv,ct,osl,rfl,lk,hcd⟩:=F.ex
 exact .all (h kV doc pm an cdv ct)
theorem bX {x qual:Str} {st:Stmt} {f:Addr} {oc:Value} {od an:Option Addr} {osl:Array (Option Value)} {kV doc pm cdv ct:Value} (l:K.lookup f=some ⟨oc,od,.func (PySem.W.fnOf x qual (aL st) (aI st) (ak st) .none kV doc pm an cdv ct),osl⟩)
  (c:PySem.W.codeIn K cdv qual=true) (k:PySem.W.keepIn K (.ref f)=true):eJ K x qual st f (PySem.W.fnOf x qual (aL st) (aI st) (ak st) .none kV doc pm an cdv ct):=⟨⟨oc,od,kV,doc,pm,an,cdv,ct,osl,rfl,l,c⟩,k⟩
end
theorem iX {A:Around} {k:Nat} (hr:aU k A):A.units+1<cLine:=Nat.lt_of_le_of_lt (Nat.add_le_add_left (by decide:1≤64) _) hr.units
section
variable {X:Cx}
theorem pv (i:Nat) {x:Str} {pos:Pos} (hN:X.N[i]? =some x:=by rfl) (hv:x' X.env.scope x:=by first | exact Or.inl rfl | exact Or.inr (Or.inl rfl) | exact Or.inr (Or.inr rfl)) (hd:(x == ("__debug__":Str))=false:=by decide)
  (hcd:(x == ("__classdict__":Str))=false:=by decide):PE X (.Name x pos) (zg i):=Gn hN hv hd hcd
end
theorem dR {A B:Prop} (h:B):if false=true then A else B:=by
 rw[if_neg Bool.false_ne_true]
 exact h
theorem mJ {A B:Prop} (h:A):if true=true then A else B:=by
 rw[if_pos rfl]
 exact h
theorem fW {c A B:Prop} [Decidable c] (h1:c→A) (h2:¬c→B):if c then A else B:=by
 by_cases h:c
 ·rw[if_pos h]
  exact h1 h
 ·rw[if_neg h]
  exact h2 h
def Same (H H':Hp):Prop:=∀b o,H b=some o→H' b=some o
theorem Same.refl (H:Hp):Same H H:=fun _ _ h=>h
theorem Same.trans {H H1 H2:Hp} (a:Same H H1) (b:Same H1 H2):Same H H2:=fun c o h=>b c o (a c o h)
theorem Same.free {H H':Hp} (e:Same H H') {l:Addr} (h:H' l=Option.none):H l=Option.none:=by
 cases q:H l with
 | none=>rfl
 | some o=>
  rw[e l o q] at h
  cases h
theorem Same.seq {K:PySem.W.Frag} {H H':Hp} {a:Addr} {xs:List V} (e:Same H H') (h:bJ K H a xs):bJ K H' a xs:=by
 rcases h with(h | ⟨o,h⟩) | h
 ·exact .inl (.inl (e _ _ h))
 ·exact .inl (.inr ⟨o,e _ _ h⟩)
 ·exact .inr h
section
variable {κ:Type} [DecidableEq κ]
def aX (kvs:List (κ×V)) (k:κ):Option V:=(kvs.find? fun kv=>decide (kv.1=k)).map (·.2)
def putK (kvs:List (κ×V)) (k:κ) (v:V):List (κ×V):=
 if(kvs.any fun kv=>decide (kv.1=k))=true then kvs.map (fun kv=>if kv.1=k then(kv.1,v) else kv) else kvs++[(k,v)]
theorem bY {p:κ×V} {r:List (κ×V)} {k:κ} (e:p.1=k):aX (p::r) k=some p.2:=by simp[aX,List.find?_cons,e]
theorem bP {p:κ×V} {r:List (κ×V)} {k:κ} (e:¬p.1=k):aX (p::r) k=aX r k:=by simp[aX,List.find?_cons,e]
theorem ji (k:κ):∀kvs:List (κ×V),(kvs.any fun kv=>decide (kv.1=k))=(aX kvs k).isSome
 | []=>rfl
 | p::r=>by
  rw[List.any_cons]
  by_cases e:p.1=k
  ·simp only[bY e,decide_eq_true e,Bool.true_or,Option.isSome_some]
  ·rw[bP e,decide_eq_false e,Bool.false_or];exact ji k r
theorem uJ (k j:κ) (y:V):∀kvs:List (κ×V),aX (kvs.map fun kv=>if kv.1=k then(kv.1,y) else kv) j=(aX kvs j).map fun x=>if j=k then y else x
 | []=>rfl
 | p::r=>by
  have ih:=uJ k j y r
  rw[List.map_cons]
  by_cases h:p.1=k
  ·rw[if_pos h]
   by_cases e:p.1=j
   ·rw[bY (p:=(p.1,y)) e,bY e,Option.map_some,if_pos (e.symm.trans h)]
   ·rw[bP (p:=(p.1,y)) e,bP e,ih]
  ·rw[if_neg h]
   by_cases e:p.1=j
   ·rw[bY (p:=p) e,bY e,Option.map_some,if_neg (fun z=>h (e.trans z))]
   ·rw[bP (p:=p) e,bP e,ih]
theorem rL (k j:κ) (y:V):∀kvs:List (κ×V),aX kvs k=none→aX (kvs++[(k,y)]) j=if j=k then some y else aX kvs j
 | [],_=>by
  by_cases e:k=j
  ·rw[if_pos e.symm];exact bY (p:=(k,y)) e
  ·rw[if_neg (fun z=>e z.symm)];exact bP (p:=(k,y)) e
 | p::r,hn=>by
  rw[List.cons_append]
  have hk:¬p.1=k:=fun z=>by rw[bY z] at hn;cases hn
  rw[bP hk] at hn
  have ih:=rL k j y r hn
  by_cases e:p.1=j
  ·rw[bY e,bY e,if_neg (fun z=>hk (e.trans z))]
  ·rw[bP e,bP e,ih]
theorem uK (kvs:List (κ×V)) (k j:κ) (y:V):aX (putK kvs k y) j=if j=k then some y else aX kvs j:=by
 unfold putK
 by_cases a:(kvs.any fun kv=>decide (kv.1=k))=true
 ·rw[if_pos a,uJ]
  rw[ji] at a
  by_cases e:j=k
  ·obtain⟨x,hx⟩:=Option.isSome_iff_exists.mp a
   rw[if_pos e,e,hx,Option.map_some,if_pos rfl]
  ·rw[if_neg e]
   cases aX kvs j with
   | none=>rfl
   | some x=>rw[Option.map_some,if_neg e]
 ·rw[if_neg a]
  refine rL k j y kvs ?_
  rw[ji] at a
  cases q:aX kvs k with
  | none=>rfl
  | some x=>rw[q] at a;exact(a rfl).elim
theorem ip (kvs:List (κ×V)) (k:κ) (v:V):(putK kvs k v).length≤kvs.length+1:=by
 unfold putK
 split
 ·rw[List.length_map];omega
 ·rw[List.length_append,List.length_cons,List.length_nil];omega
theorem oT {kvs:List (κ×V)} {k:κ} (v:V) (h:aX kvs k=none):putK kvs k v=kvs++[(k,v)]:=by
 unfold putK
 rw[ji,h]
 exact if_neg (by decide)
theorem jc.mK {o:Option V} {u:Option Value} (r:jc o u):o.isSome=u.isSome:=by
 cases o with
 | none=>cases u with
  | none=>rfl
  | some _=>exact(show False from r).elim
 | some _=>cases u with
  | none=>exact(show False from r).elim
  | some _=>rfl
theorem KV.val {kvs:List (κ×V)} {vs:List (κ×Value)} (r:KV kvs vs) (k:κ):jc (aX kvs k) (valueAt vs k):=by
 unfold KV at r
 induction r with
 | nil=>exact True.intro
 | @cons p q ps qs h t ih=>
  obtain⟨h1,h2⟩:=h
  by_cases e:p.1=k
  ·have e':q.1=k:=h1.symm.trans e
   have b:valueAt (q::qs) k=some q.2:=by simp[valueAt,List.find?_cons,e']
   rw[bY e,b];exact h2
  ·have e':¬q.1=k:=fun z=>e (h1.trans z)
   have b:valueAt (q::qs) k=valueAt qs k:=by simp[valueAt,List.find?_cons,e']
   rw[bP e,b];exact ih
theorem KV.any {kvs:List (κ×V)} {vs:List (κ×Value)} (r:KV kvs vs) (k:κ):(kvs.any fun kv=>decide (kv.1=k))=vs.any fun kv=>decide (kv.1=k):=by
 unfold KV at r
 induction r with
 | nil=>rfl
 | cons h t ih=>rw[List.any_cons,List.any_cons,ih,h.1]
theorem KV.repl {kvs:List (κ×V)} {vs:List (κ×Value)} (r:KV kvs vs) (k:κ) {y:V} {u:Value} (ry:RelV y u):
  KV (kvs.map fun kv=>if kv.1=k then(kv.1,y) else kv) (vs.map fun kv=>if kv.1=k then(kv.1,u) else kv):=by
 unfold KV at r ⊢
 induction r with
 | nil=>exact .nil
 | @cons p q ps qs h t ih=>
  rw[List.map_cons,List.map_cons]
  refine .cons ?_ ih
  obtain⟨h1,h2⟩:=h
  by_cases e:p.1=k
  ·rw[if_pos e,if_pos (h1.symm.trans e)];exact⟨h1,ry⟩
  ·rw[if_neg e,if_neg (fun z=>e (h1.trans z))];exact⟨h1,h2⟩
theorem KV.put {kvs:List (κ×V)} {vs:List (κ×Value)} (r:KV kvs vs) (k:κ) {y:V} {u:Value} (ry:RelV y u):KV (putK kvs k y) (stored vs k u):=by
 unfold putK stored
 rw[r.any k]
 by_cases e:(vs.any fun kv=>decide (kv.1=k))=true
 ·rw[if_pos e,if_pos e];exact r.repl k ry
 ·rw[if_neg e,if_neg e];exact Paired.snoc r ⟨rfl,ry⟩
theorem KV.length {kvs:List (κ×V)} {vs:List (κ×Value)} (r:KV kvs vs):kvs.length=vs.length:=Paired.length r
end
theorem kT {P:Program} {w:World} {k:Key} {u:Value} (r:RelV (kV k) u):(aV P w).is k u=true:=by
 cases k with
 | inl i=>obtain⟨t,e⟩:=(show ∃t,u=Value.int i t from r);subst e;exact xb P w i t
 | inr x=>obtain⟨t,e⟩:=(show ∃t,u=Value.str x t from r);subst e;exact xc P w x t
theorem rM {P:Program} {w:World}:∀{ks:List Key} {us:List Value},Vals (ks.map kV) us→ItemsAre (aV P w) ks us
 | [],_,r=>by rw[List.map_nil] at r;cases r;exact .nil
 | k::ks,_,r=>by
  rw[List.map_cons] at r
  cases r with
  | cons h t=>exact .cons (kT h) (rM t)
abbrev KT (H:Hp):List (List Key×V)→List (List Key×Addr×Value)→Prop:=Paired fun p q=>p.1=q.1∧H q.2.1=some (.tup (p.1.map kV))∧RelV p.2 q.2.2
theorem KT.val {H:Hp} {kvs:List (List Key×V)} {xs:List (List Key×Addr×Value)} (r:KT H kvs xs) (k:List Key):jc (aX kvs k) ((atKey xs k).map (·.2)):=by
 induction r with
 | nil=>exact True.intro
 | @cons p q ps qs h t ih=>
  obtain⟨h1,_,h2⟩:=h
  by_cases e:p.1=k
  ·have e':q.1=k:=h1.symm.trans e
   have b:atKey (q::qs) k=some q.2:=by simp[atKey,List.find?_cons,e']
   rw[bY e,b];exact h2
  ·have e':¬q.1=k:=fun z=>e (h1.trans z)
   have b:atKey (q::qs) k=atKey qs k:=by simp[atKey,List.find?_cons,e']
   rw[bP e,b];exact ih
theorem KT.repl {H:Hp} {kvs:List (List Key×V)} {xs:List (List Key×Addr×Value)} (r:KT H kvs xs) (k:List Key) {y:V} {u:Value} (ry:RelV y u):
  KT H (kvs.map fun kv=>if kv.1=k then(kv.1,y) else kv) (xs.map (putAt k u)):=by
 induction r with
 | nil=>exact .nil
 | @cons p q ps qs h t ih=>
  rw[List.map_cons,List.map_cons]
  refine .cons ?_ ih
  obtain⟨h1,h2,h3⟩:=h
  unfold putAt
  by_cases e:p.1=k
  ·rw[if_pos e,if_pos (h1.symm.trans e)];exact⟨h1,h2,ry⟩
  ·rw[if_neg e,if_neg (fun z=>e (h1.trans z))];exact⟨h1,h2,h3⟩
theorem KT.put {H:Hp} {kvs:List (List Key×V)} {xs:List (List Key×Addr×Value)} (r:KT H kvs xs) (k:List Key) {b:Addr} {y:V} {u:Value} (hb:H b=some (.tup (k.map kV))) (ry:RelV y u):
  KT H (putK kvs k y) (storedH xs k b u):=by
 have e:(kvs.any fun kv=>decide (kv.1=k))=(atKey xs k).isSome:=by
  rw[ji,(r.val k).mK,Option.isSome_map]
 unfold putK storedH
 rw[e]
 by_cases q:(atKey xs k).isSome=true
 ·rw[if_pos q,if_pos q];exact r.repl k ry
 ·rw[if_neg q,if_neg q];exact Paired.snoc r ⟨rfl,hb,ry⟩
theorem KT.keeps {H H':Hp} {kvs:List (List Key×V)} {xs:List (List Key×Addr×Value)} (r:KT H kvs xs) (ht:∀b ys,H b=some (.tup ys)→H' b=some (.tup ys)):KT H' kvs xs:=
 Paired.ml r fun _ _ z=>⟨z.1,ht _ _ z.2.1,z.2.2⟩
section
variable {P:Program} {w:World} {H:Hp} {h:Heap} {a:Addr}
theorem DY {u:HO} (ok:cZ P w H h) (e:Rd H a u):bp P w H h a u:=e.ok ok
theorem nP {kvs:List (Key×V)} (ok:cZ P w H h) (e:Rd H a (.dK kvs)):kvs.length≤sizeLine∧(a == sysModules)=false∧∃vs,KV kvs vs∧h.DictOf (aV P w) a vs:=
 show bp P w H h a (.dK kvs) from DY ok e
theorem zA {kvs:List (Key×V)} (ok:cZ P w H h) (e:H a=some (.dK kvs)):kvs.length≤sizeLine∧(a == sysModules)=false∧∃vs,KV kvs vs∧h.DictOf (aV P w) a vs:=nP ok (.inl e)
theorem mL {ks:List Key} (ok:cZ P w H h) (e:H a=some (.tup (ks.map kV))):(tupleKind (aV P w)).is h ks a:=by
 obtain⟨_,its,r,o,h1,h2,n,h3⟩:=(show bp P w H h a (.tup (ks.map kV)) from ok a _ e)
 exact⟨o,its.toArray,n,h1,h2,h3,by simpa using rM r⟩
theorem pO {kvs:List (List Key×V)} (ok:cZ P w H h) (e:Rd H a (.dT kvs)):kvs.length≤sizeLine∧(a == sysModules)=false∧
  ∃xs,KT H kvs xs∧h.DictOfH (tupleKind (aV P w)) a xs:=by
 obtain⟨z,y,xs,r,o,es,ep,h1,h2,h3,h4,h5⟩:=(show bp P w H h a (.dT kvs) from DY ok e)
 refine⟨z,y,xs,r,o,es,ep,h1,h2,h3,h4,fun x hx=>?_,h5⟩
 have all:∀{l:List (List Key×V)} {m:List (List Key×Addr×Value)},KT H l m→∀x∈m,(tupleKind (aV P w)).is h x.1 x.2.1:=by
  intro l m q
  induction q with
  | nil=>intro x hx;exact nomatch hx
  | @cons p q ps qs hq t ih=>
   intro x hx
   rcases List.mem_cons.mp hx with e | hx
   ·subst e
    exact mL ok (by rw[←hq.1];exact hq.2.1)
   ·exact ih x hx
 exact all r x hx
theorem DZ {kvs:List (List Key×V)} (ok:cZ P w H h) (e:H a=some (.dT kvs)):kvs.length≤sizeLine∧(a == sysModules)=false∧
  ∃xs,KT H kvs xs∧h.DictOfH (tupleKind (aV P w)) a xs:=pO ok (.inl e)
end
def jj (H:Hp) (a:Addr) (y:V) (r:Option V):Prop:=
 (∃kvs k,Rd H a (.dK kvs)∧y=kV k∧r=aX kvs k)∨∃kvs k b,Rd H a (.dT kvs)∧y=.ref b∧H b=some (.tup (k.map kV))∧r=aX kvs k
def kU (H:Hp) (a:Addr) (y v:V) (H':Hp):Prop:=
 (∃kvs k,H a=some (.dK kvs)∧y=kV k∧kvs.length<sizeLine∧H'=upd H a (.dK (putK kvs k v)))∨
 ∃kvs k b,H a=some (.dT kvs)∧y=.ref b∧H b=some (.tup (k.map kV))∧kvs.length<sizeLine∧H'=upd H a (.dT (putK kvs k v))
theorem jj.k {H:Hp} {a:Addr} {kvs:List (Key×V)} {k:Key} (e:H a=some (.dK kvs)):jj H a (kV k) (aX kvs k):=.inl ⟨kvs,k,.inl e,rfl,rfl⟩
theorem kU.k {H:Hp} {a:Addr} {kvs:List (Key×V)} {k:Key} {v:V} (e:H a=some (.dK kvs)) (hl:kvs.length<sizeLine):kU H a (kV k) v (upd H a (.dK (putK kvs k v))):=.inl ⟨kvs,k,e,rfl,hl,rfl⟩
theorem kU.t {H:Hp} {a b:Addr} {kvs:List (List Key×V)} {k:List Key} {v:V} (e:H a=some (.dT kvs)) (eb:H b=some (.tup (k.map kV))) (hl:kvs.length<sizeLine):
  kU H a (.ref b) v (upd H a (.dT (putK kvs k v))):=.inr ⟨kvs,k,b,e,rfl,eb,hl,rfl⟩
section
variable {X:Cx} {pins:List (Addr×Obj)} {σ:St} {H:Hp} {s:Shared} {a:Addr} {y v:V} {u r:Value} {o:Option V} {A:Around} {E:Value→Shared→Prop}
theorem Inv.big (I:Inv X pins σ H s):sysModules<s.heap.objs.size:=by
 have h:mainGlobals<s.heap.objs.size:=(I.mod.glob.keeps I.bk).lt
 exact Nat.lt_trans (by decide) h
theorem AW {Q:Value→Shared→Prop} (hu:A.units+1<cLine) (I:Inv X pins σ H s) (g:jj H a y (some v)) (ry:RelV y u) (h:∀w' s',Inv X pins σ H s'→RelV v w'→Q w' s'):
  wpAny (model X.prog X.w) A (getItem (.ref a) u) Q E s:=by
 rcases g with⟨kvs,k,e,ey,l⟩ | ⟨kvs,k,b,e,ey,eb,l⟩
 ·subst ey
  obtain⟨z,hd,vs,rel,dd⟩:=nP I.hok e
  obtain⟨w',hw,mG⟩:=jc.some_of (v:=v) (o:=valueAt vs k) (by rw[l];exact rel.val k)
  exact wpAny_getItem_of (kT ry) dd.mapOf hw (h w' _ (I.tok _) mG)
 ·subst ey
  cases(show u=Value.ref b from ry)
  obtain⟨z,hd,xs,rel,dd⟩:=pO I.hok e
  obtain⟨w',hw,mG⟩:=jc.some_of (v:=v) (o:=(atKey xs k).map (·.2)) (by rw[l];exact rel.val k)
  obtain⟨p,hp,hp2⟩:=Option.map_eq_some_iff.mp hw
  refine wpAny_getItem_heap (tupleKind_room_in1 hu) (mL I.hok eb) dd hp ?_
  rw[hp2]
  exact h w' _ (I.tok _) mG
theorem Fj {Q:Value→Shared→Prop} (hu:A.units+1<cLine) (I:Inv X pins σ H s) (g:jj H a y o) (ry:RelV y u) (h:∀s',Inv X pins σ H s'→Q (.bool (!o.isSome)) s'):
  wpAny (model X.prog X.w) A (compareOp .NotIn u (.ref a)) Q E s:=by
 rcases g with⟨kvs,k,e,ey,l⟩ | ⟨kvs,k,b,e,ey,eb,l⟩
 ·subst ey
  obtain⟨z,hd,vs,rel,dd⟩:=nP I.hok e
  refine wpAny_notIn_of (kT ry) hd dd.mapOf ?_
  rw[←(rel.val k).mK,←l]
  exact h _ (I.tok _)
 ·subst ey
  cases(show u=Value.ref b from ry)
  obtain⟨z,hd,xs,rel,dd⟩:=pO I.hok e
  refine wpAny_notIn_heap (tupleKind_room_in1 hu) (mL I.hok eb) hd dd ?_
  have q:=(rel.val k).mK
  rw[Option.isSome_map] at q
  rw[←q,←l]
  exact h _ (I.tok _)
theorem kh {h':Heap} {t':Nat} {ob:HO} (I:Inv X pins σ H s) (mu:Au (H a)) (hs:Heap.SameBut a s.heap h') (he:∃q,h'.get? a=some q) (new:bp X.prog X.w (upd H a ob) h' a ob):
  Inv X pins σ (upd H a ob) {s with heap:=h',toks:=t'}:=
 I.write (x:=a) (e:=a) mu (.inl rfl) (fun b q hb z=>(hs.2 b hb).trans z) he new
theorem uL {P:Program} {w:World} {H':Hp} {h':Heap} {kvs:List (Key×V)} {vs:List (Key×Value)} (z:kvs.length≤sizeLine) (hd:(a == sysModules)=false) (rel:KV kvs vs) (dd:h'.DictOf (aV P w) a vs):
  bp P w H' h' a (.dK kvs):=⟨z,hd,vs,rel,dd⟩
theorem AX {H':Hp} {Q:Unit→Shared→Prop} (hu:A.units+1<cLine) (I:Inv X pins σ H s) (g:kU H a y v H') (ry:RelV y u) (rv:RelV v r) (h:∀s',Inv X pins σ H' s'→Q () s'):
  wpAny (model X.prog X.w) A (setItem (.ref a) u r) Q E s:=by
 rcases g with⟨kvs,k,e,ey,l,eH⟩ | ⟨kvs,k,b,e,ey,eb,l,eH⟩
 ·subst ey eH
  obtain⟨z,hd,vs,rel,dd⟩:=zA I.hok e
  have hz:vs.length≤sizeLine:=by rw[←rel.length];exact z
  have hl:(putK kvs k v).length≤sizeLine:=by have:=ip kvs k v;omega
  refine wpAny_setItem_pairs (hsz:=hz) (kT ry) dd fun h' md hs=>h _ ?_
  have he:∃q,h'.get? a=some q:=let ⟨q,_,_,hq,_⟩:=md;⟨q,hq⟩
  exact kh I (by rw[e];exact True.intro) hs he (uL hl hd (rel.put k rv) md)
 ·subst ey eH
  cases(show u=Value.ref b from ry)
  obtain⟨z,hd,xs,rel,dd⟩:=DZ I.hok e
  have hz:xs.length≤sizeLine:=by rw[←Paired.length rel];exact z
  have hl:(putK kvs k v).length≤sizeLine:=by have:=ip kvs k v;omega
  refine wpAny_setItem_heap (hsz:=hz) (tupleKind_room_in1 hu) (mL I.hok eb) dd fun h' md hs=>h _ ?_
  obtain⟨q,es,ep,hq,h2,h3,h4,_,h5⟩:=md
  refine kh I (by rw[e];exact True.intro) hs ⟨q,hq⟩ ⟨hl,hd,_,(rel.put k eb rv).keeps fun c ys ec=>?_,q,es,ep,hq,h2,h3,h4,h5⟩
  rw[aq (jF ec e (fun z=>nomatch z))]
  exact ec
end
def GW (i:Expr):Prop:=∀ov iv,subscripted i false ov iv=operate [ov,iv] (getItem ov iv)
theorem Fl {prog:Program} {w:World} {A:Around} {E:Value→Shared→Prop} {s:Shared} {env:Env} {value slice:Expr} {pos:Pos} {T id:String} {Q:Value→Shared→Prop}
  (hl:typeLookup (.type T) "__getitem__"=pure (some (.builtin id))) (hs:GW slice)
  (h:wpAny (model prog w) A (eval value env) (fun o s₁=>wpAny (model prog w) A (eval slice env) (fun i s₂=>s₂.TypeIs o T∧wpAny (model prog w) A (getItem o i) Q E s₂) E s₁) E s):
  wpAny (model prog w) A (eval (.Subscript value slice pos) env) Q E s:=by
 refine Subscript_ (wpAny_mono h (fun o s₁ h₁=>wpAny_mono h₁ (fun i s₂ h₂=>?_) fun _ _ x=>x) fun _ _ x=>x)
 obtain⟨hT,h₂⟩:=h₂
 unfold subscriptTail
 refine wpAny_bind ?_
 rw[getitemInPython_of_ne hT.not_modules]
 refine wpAny_bind (wpAny_specialOf hT hl ?_)
 have fin:wpAny (model prog w) A (subscripted slice false o i) (fun r s₃=>wpAny (model prog w) A (letTemporaryGo value o r >>= fun _=>pure r) Q E s₃) E s₂:=by
  rw[hs o i]
  exact wpAny_operating (wpAny_mono h₂ (fun r s₃ h₃=>wpAny_bind (wpAny_letTemporaryGo (wpAny_pure h₃))) fun _ _ x=>x)
 first
  | exact wpAny_pure (wpAny_bind fin)
  | exact wpAny_bind (wpAny_pure (wpAny_bind fin))
  | exact wpAny_bind fin
theorem xh {X:Cx} {pins:List (Addr×Obj)} {σ:St} {H:Hp} {s:Shared} {a:Addr} {y:V} {o:Option V} (I:Inv X pins σ H s) (g:jj H a y o):s.TypeIs (.ref a) "dict":=by
 rcases g with⟨kvs,k,e,_,_⟩ | ⟨kvs,k,b,e,_,_,_⟩
 ·obtain⟨_,_,vs,_,dd⟩:=nP I.hok e
  exact dd.typeIs
 ·obtain⟨_,_,xs,_,dd⟩:=pO I.hok e
  exact dd.typeIs
def Km (td ty:TE):TE:=fun σ H Q=>td σ H fun x H1=>ty σ H1 fun y H2=>∃a v,x=.ref a∧jj H2 a y (some v)∧Q v H2
def Fm (ty td:TE):TE:=fun σ H Q=>ty σ H fun y H1=>td σ H1 fun x H2=>∃a o,x=.ref a∧jj H2 a y o∧Q (.bl (!o.isSome)) H2
def Kn (td ty tv:TE):TS:=fun D σ H=>tv σ H fun v H1=>td σ H1 fun x H2=>ty σ H2 fun y H3=>∃a H4,x=.ref a∧kU H3 a y v H4∧D.nx σ H4
section
variable {X:Cx} {o i e value:Expr} {pos pos' tpos:Pos} {td ty tv:TE}
theorem ki (hu:X.A.units+1<cLine) (ho:PE X o td) (hi:PE X i ty) (hs:GW i):PE X (.Subscript o i pos) (Km td ty):=by
 intro pins s σ H Q I h
 refine Fl PySem.F.slot_dict_getitem.lookup hs (aG (ho pins s σ H _ I h) fun u s1 ⟨x,H1,I1,rx,q1⟩=>aG (hi pins s1 σ H1 _ I1 q1) fun iv s2 ⟨y,H2,I2,ry,a,v,ex,g,q2⟩=>?_)
 subst ex
 obtain rfl:u=Value.ref a:=rx
 exact⟨xh I2 g,AW hu I2 g ry fun w' s3 I3 mG=>⟨v,H2,I3,mG,q2⟩⟩
theorem rN (hu:X.A.units+1<cLine) (hi:PE X i ty) (ho:PE X o td):PC X .NotIn i o (Fm ty td):=by
 intro pins s σ H Q I h
 refine aG (hi pins s σ H _ I h) fun iv s1 ⟨y,H1,I1,ry,q1⟩=>aG (ho pins s1 σ H1 _ I1 q1) fun u s2 ⟨x,H2,I2,rx,a,ov,ex,g,q2⟩=>?_
 subst ex
 obtain rfl:u=Value.ref a:=rx
 exact Fj hu I2 g ry fun s3 I3=>⟨.bl (!ov.isSome),H2,I3,rfl,q2⟩
theorem Fn (hu:X.A.units+1<cLine) (ho:PE X o td) (hi:PE X i ty) (hv:PE X value tv) (hs:swapsWith value (some (.Subscript o i pos')) pos.line X.env=pure false):
  PS X (.Assign [.Subscript o i pos'] value pos) (Kn td ty tv):=by
 intro pins s σ H D I h
 refine wpAny_Assign_Subscript (aG (hv pins s σ H _ I h) fun r s1 ⟨v,H1,I1,rv,q1⟩=>aG (ho pins s1 σ H1 _ I1 q1) fun u s2 ⟨x,H2,I2,rx,q2⟩=>aG (hi pins s2 σ H2 _ I2 q2) fun iv s3 ⟨y,H3,I3,ry,a,H4,ex,g,q3⟩=>?_) hs
 subst ex
 obtain rfl:u=Value.ref a:=rx
 exact AX hu I3 g ry rv fun s4 I4=>⟨σ,H4,I4,q3⟩
end
theorem uM {P:Program} {w:World} {H:Hp} (h:Heap) (hb:sysModules<h.objs.size):bp P w H (h.push {cls:=.type "dict",data:=.dict #[]}) h.objs.size (.dK []):=
 ⟨Nat.zero_le _,beq_eq_false_iff_ne.mpr (Ne.symm (Nat.ne_of_lt hb)),[],.nil,Heap.DictOf.new h⟩
theorem Cz {P:Program} {w:World} {H:Hp} (h:Heap) (hb:sysModules<h.objs.size):bp P w H (h.push {cls:=.type "dict",data:=.dict #[]}) h.objs.size (.dT []):=
 ⟨Nat.zero_le _,beq_eq_false_iff_ne.mpr (Ne.symm (Nat.ne_of_lt hb)),[],.nil,_, #[],0,Heap.get?_push_size _ rfl,⟨rfl,rfl,rfl⟩,rfl,rfl,List.nodup_nil⟩
def GX:TE:=fun _ H Q=>∀p,H p=none→Q (.ref p) (upd H p (.dK []))
section
variable {X:Cx} {pos:Pos}
theorem CA:PE X (.Dict [] [] pos) GX:=fun pins s σ H Q I h=>
 wpAny_Dict_empty ⟨.ref s.heap.objs.size,_,I.laid (a:=s.heap.objs.size) (o:=.dK []) (t':=s.toks) (fun _ _ q=>Heap.get?_push_of_some _ q) (Nat.le_refl _) (uM s.heap I.big),rfl,h _ (I.hok.fresh (Nat.le_refl _))⟩
end
def uN:List (TE×TE)→St→Hp→(List (V×V)→Hp→Prop)→Prop
 | [],_,H,Q=>Q [] H
 | (tk,tv)::r,σ,H,Q=>tk σ H fun x H1=>tv σ H1 fun y H2=>uN r σ H2 fun ps H3=>Q ((x,y)::ps) H3
abbrev VV:List (V×V)→List (Value×Value)→Prop:=Paired fun p q=>RelV p.1 q.1∧RelV p.2 q.2
def AY (X:Cx) (pos:Pos) (keys:List (Option Expr)) (values:List Expr) (pP:List (TE×TE)):Prop:=
 ∀(pins:List (Addr×Obj)) (s:Shared) (σ:St) (H:Hp) (Q:List (V×V)→Hp→Prop),Inv X pins σ H s→uN pP σ H Q→
  wpAny (model X.prog X.w) X.A (evalPairs (pairTrees keys values X.env pos)) (fun vs s'=>∃ps H',Inv X pins σ H' s'∧VV ps vs∧Q ps H') X.xe s
theorem yq {X:Cx} {pos:Pos}:AY X pos [] [] []:=fun pins s σ H Q I h=>pairTrees_nil_walk ⟨[],H,I,.nil,h⟩
theorem uO {X:Cx} {pos:Pos} {k v:Expr} {ks:List (Option Expr)} {vs:List Expr} {tk tv:TE} {pP:List (TE×TE)} (hk:PE X k tk) (hv:PE X v tv) (hr:AY X pos ks vs pP):
  AY X pos (some k::ks) (v::vs) ((tk,tv)::pP):=fun pins s σ H Q I h=>
 pairTrees_cons_walk (aG (hk pins s σ H _ I h) fun u s1 ⟨x,H1,I1,rx,q1⟩=>aG (hv pins s1 σ H1 _ I1 q1) fun w2 s2 ⟨y,H2,I2,ry,q2⟩=>
  aG (hr pins s2 σ H2 _ I2 q2) fun ws s3 ⟨ps,H3,I3,rel,q3⟩=>⟨(x,y)::ps,H3,I3,.cons ⟨rx,ry⟩ rel,q3⟩)
def cu (kvs more:List (Key×V)):List (Key×V):=more.foldl (fun acc kv=>putK acc kv.1 kv.2) kvs
theorem KV.merge:∀{more:List (Key×V)} {rs:List (Key×Value)} {kvs:List (Key×V)} {vs:List (Key×Value)},KV more rs→KV kvs vs→KV (cu kvs more) (merged vs rs):=by
 intro more rs kvs vs r
 unfold KV at r
 induction r generalizing kvs vs with
 | nil=>intro q;exact q
 | @cons p q ps qs h t ih=>
  intro r0
  have e:KV (putK kvs p.1 p.2) (stored vs q.1 q.2):=by
   have:=r0.put p.1 h.2
   rw[←h.1];exact this
  exact ih e
theorem iI:∀(more kvs:List (Key×V)),(cu kvs more).length≤kvs.length+more.length
 | [],kvs=>by show kvs.length≤kvs.length+0;omega
 | p::r,kvs=>by
  have h1:=iI r (putK kvs p.1 p.2)
  have h2:=ip kvs p.1 p.2
  show(cu (putK kvs p.1 p.2) r).length≤_
  rw[List.length_cons];omega
theorem pQ {P:Program} {w:World}:∀{kvs:List (Key×V)} {ws:List (Value×Value)},VV (kvs.map fun kv=>(kV kv.1,kv.2)) ws→∃rs,Carries (aV P w) ws rs∧KV kvs rs
 | [],_,r=>by rw[List.map_nil] at r;cases r;exact⟨[],True.intro,.nil⟩
 | p::kvs,_,r=>by
  rw[List.map_cons] at r
  cases r with
  | @cons a b as bs h t=>
   obtain⟨rs,c,q⟩:=pQ (P:=P) (w:=w) t
   obtain⟨b1,b2⟩:=b
   exact⟨(p.1,b2)::rs,⟨kT h.1,rfl,c⟩,.cons ⟨rfl,h.2⟩ q⟩
def Ko (pP:List (TE×TE)):TE:=fun σ H Q=>∀p,H p=none→uN pP σ (upd H p (.dK [])) fun ps H2=>H2 p=some (.dK [])∧∃kvs:List (Key×V),ps=kvs.map (fun kv=>(kV kv.1,kv.2))∧kvs.length≤15∧Q (.ref p) (upd H2 p (.dK (cu [] kvs)))
theorem Fo {X:Cx} {pos:Pos} {keys:List (Option Expr)} {values:List Expr} {pP:List (TE×TE)} (h:AY X pos keys values pP) (hall:keys.all (·.isSome)=true) (hl:keys.length=values.length) (h0:keys≠[])
  (h15:keys.length≤15):PE X (.Dict keys values pos) (Ko pP):=by
 intro pins s σ H Q I q
 have hn:=I.hok.fresh (Nat.le_refl s.heap.objs.size)
 have I1:=I.laid (a:=s.heap.objs.size) (o:=.dK []) (h':=s.heap.push {cls:=.type "dict",data:=.dict #[]}) (t':=s.toks) (fun _ _ q=>Heap.get?_push_of_some _ q) (Nat.le_refl _) (uM s.heap I.big)
 refine wpAny_Dict_walk (knd:=aV X.prog X.w) hall hl h0 h15 (aG (h pins _ σ _ _ I1 (q _ hn)) fun ws s2 ⟨ps,H2,I2,rel,e,kvs,ep,lk,q2⟩=>?_)
 subst ep
 obtain⟨rs,c,rk⟩:=pQ (P:=X.prog) (w:=X.w) rel
 obtain⟨z,hd,UE,r0,dd⟩:=zA I2.hok e
 cases r0
 refine⟨rs,c,dd,fun h' md hs=>⟨.ref s.heap.objs.size,_,?_,rfl,q2⟩⟩
 have hz:(cu [] kvs).length≤sizeLine:=by
  have h1:=iI kvs []
  rw[List.length_nil] at h1
  rw[sizeLine_eq];omega
 have he:∃q,h'.get? s.heap.objs.size=some q:=let ⟨q,_,_,hq,_⟩:=md;⟨q,hq⟩
 exact kh I2 (by rw[e];exact True.intro) hs he (uL hz hd (rk.merge .nil) md)
structure M2 (X:Cx) (o:Expr) (m:Str) (apos:Pos) (e f:Expr) (cpos:Pos):Prop where
 base:attributeBase o m X.env (eval o X.env)=eval o X.env
 few:((backTo cpos (starEach [e,f] X.env)).all (fun x=> !x.1)&&(backToKw cpos (keywordEach [] X.env)).all (fun x=>x.1.isSome)
  &&decide (([e,f]:List Expr).length+([]:List Keyword).length+(if([]:List Keyword).isEmpty then 0 else 1)<30))=true
 line:(apos.endLine == cpos.line)=true
 trees:backTo cpos (starEach [e,f] X.env)=[(false,eval e X.env),(false,eval f X.env)]
def K4 (H:Hp) (a:Addr):Prop:=(∃kvs,Rd H a (.dK kvs))∨∃kvs,Rd H a (.dT kvs)
theorem GY {X:Cx} {pins:List (Addr×Obj)} {σ:St} {H:Hp} {s:Shared} {a:Addr} (I:Inv X pins σ H s) (d:K4 H a):
  s.TypeIs (.ref a) "dict"∧(∀b,Value.ref a=.ref b→∃ob,s.heap.get? b=some ob∧ob.dict=none)∧(a == sysModules)=false:=by
 rcases d with⟨kvs,e⟩ | ⟨kvs,e⟩
 ·obtain⟨_,hd,vs,_,dd⟩:=nP I.hok e
  refine⟨dd.typeIs,fun b q=>?_,hd⟩
  cases q
  obtain⟨ob,_,_,h1,h2,_⟩:=dd
  exact⟨ob,h1,h2.2.1⟩
 ·obtain⟨_,hd,xs,_,dd⟩:=pO I.hok e
  refine⟨dd.typeIs,fun b q=>?_,hd⟩
  cases q
  obtain⟨ob,_,_,h1,h2,_⟩:=dd
  exact⟨ob,h1,h2.2.1⟩
section
variable {X:Cx} {pins:List (Addr×Obj)} {σ:List (Option V)} {H H':Hp} {s:Shared} {h':Heap}
theorem Inv.uP {t':Nat} {ch:List Addr} {p:Addr} {o:HO} (I:Inv X pins σ H s) (hf:∀b∈ch,jf X pins H b)
  (k:∀b u,b ∉ ch→s.heap.get? b=some u→h'.get? b=some u) (hp:s.heap.objs.size≤p) (new:bp X.prog X.w (upd H p o) h' p o):
  Inv X pins σ (upd H p o) {s with heap:=h',toks:=t'}:=by
 have hn:H p=none:=I.hok.fresh hp
 have rq:∀b u,H b=some u→b ∉ ch:=fun b u e z=>by have q:=(hf b z).1;rw[e] at q;cases q
 have old:∀b u,s.heap.get? b=some u→b≠p:=fun b u e=>Nat.ne_of_lt (Nat.lt_of_lt_of_le (Heap.lt_size e) hp)
 have pR:∀b u,H b=some u→upd H p o b=some u:=fun b u e=>by rw[aq (aj e hn)];exact e
 refine I.step (g':=s.gens) (d':=s.drawn) (ch:=ch) (fun b hb=>?_) (fun b o _ _ hc e _=>k b o hc e) (fun b o _ _ hc e _=>⟨o.slots,k b o hc e⟩) (fun b o _ e n=>by rw[aq (old b o e)];exact n)
  (fun b o hc e=>⟨o,k b o hc e⟩) (fun b xs e=>pR b _ e) (fun b _ _ e=>pR b _ e) (fun b ps e=>⟨#[],by rw[pR b _ e];simp⟩) (fun m hm=>?_) (fun b u e=>?_) I.bare
 ·obtain⟨f0,f1,f2,f3,f4,f5⟩:=hf b hb
  exact⟨f3,f1,f4,f5⟩
 ·obtain⟨ob,es,ep,ho,r⟩:=hm
  exact⟨ob,es,ep,k _ ob (fun z=>(hf _ z).2.1 rfl) ho,r⟩
 ·by_cases hb:b=p
  ·subst hb;rw[af] at e;cases e;exact new
  ·rw[aq hb] at e
   refine(I.hok b u e).stay (fun c v hc q=>k c v ?_ q) (fun c q=>pR c _ q) fun c xs q=>pR c _ q
   rcases hc with z | z
   ·rw[z];exact rq b u e
   ·exact rq c _ z
end
def yr (K:PySem.W.Frag) (a:Addr):It:=
 ⟨fun i H=>∃xs x,bJ K H a xs∧xs[i]? =some x,
  fun i H x H'=>∃y p,(∀xs,bJ K H a xs→xs[i]? =some y)∧H p=none∧x=.ref p∧H'=upd H p (.tup [.int i,y]),
  fun i H=>∃xs,bJ K H a xs∧xs.length≤i⟩
theorem AZ {P:Program} {w:World} {K:PySem.W.Frag} {elts:List Expr} {x1} {tpos:Pos} (a e it:Addr) (hne:e≠it):
  Turn P w K (.Tuple elts x1 tpos) (yr K a) [e,it] e (fun i h=>(∃old,IsEnum h e it i old)∧h.IsListIter it a i) where
 mem:=by simp
 obj:=fun i h st b hb=>by
  obtain⟨⟨old,st1⟩,st2⟩:=st
  rcases List.mem_cons.mp hb with z | z
  ·subst z;exact⟨_,st1,fun v z=>by cases z⟩
  ·have z':b=it:=by simpa using z
   subst z'
   obtain⟨o,e,c,d⟩:=st2
   exact⟨o,e,fun v z=>by rw[d] at z;cases z⟩
 keep:=fun i h h' st k=>by
  obtain⟨⟨old,st1⟩,st2⟩:=st
  exact⟨⟨old,k e (by simp) _ st1⟩,st2.at fun o q=>k it (by simp) o q⟩
 item:=by
  intro X hP hw hK hc i pins s σ H E I hf st hg
  subst hP hw hK
  obtain⟨⟨old,st1⟩,st2⟩:=st
  obtain⟨xs,x,hq,hx⟩:=hg
  obtain⟨its,rv,p,hz⟩:=I.list hq
  obtain⟨u,hu,ru⟩:=rv.get hx
  refine wpAny_pyNext_enum_item st1 st2 p.isList (x:=u) (by simpa using hu) hne fun h1 eo GZ ht hsz kk=>?_
  have nn:H s.heap.objs.size=none:=I.hok.fresh (Nat.le_refl _)
  have I1:Inv X pins σ (upd H s.heap.objs.size (.tup [.int i,x])) {s with heap:=h1,toks:=s.toks+1}:=
   I.uP (ch:=[e,it]) hf (fun b o hb q=>kk b o (fun z=>hb (by simp[z])) (fun z=>hb (by simp[z])) q) (Nat.le_refl _)
    ⟨⟨by show 2≤sizeLine;decide,_,ht,rfl⟩,[.int i s.toks,u],.cons ⟨_,rfl⟩ (.cons ru .nil),⟨_,ht,rfl,_,rfl⟩⟩
  have le:e<s.heap.objs.size:=Heap.lt_size st1
  have li:it<s.heap.objs.size:=by obtain⟨o,q,_⟩:=id st2;exact Heap.lt_size q
  refine⟨_,rfl,wpAny_letOwnedTupleGo_enum eo fun h2 e2 sb=>?_⟩
  obtain⟨f0,f1,f2,f3,f4,f5⟩:=hf e (by simp)
  have I2:=I1.turned (h':=h2) (t':=s.toks+1) (it:=e) (fun b o hb q=>(sb.2 b hb).trans q) (by rw[aq (Nat.ne_of_lt le)];exact f0) f1 f3 f4 f5
  refine⟨.ref s.heap.objs.size,_,I2,rfl,⟨x,s.heap.objs.size,fun ys hy=>by rw[I.oR hy hq];exact hx,nn,rfl,rfl⟩,⟨⟨u,by simpa using e2⟩,GZ.at fun o q=>(sb.2 it (Ne.symm hne)).trans q⟩,fun b hb=>?_⟩
  rcases List.mem_cons.mp hb with z | z
  ·subst z;rw[aq (Nat.ne_of_lt le)];exact f0
  ·have z':b=it:=by simpa using z
   subst z';rw[aq (Nat.ne_of_lt li)];exact(hf b (by simp)).1
 done:=by
  intro X hP hw hK hc i pins s σ H E I hf st hg
  subst hP hw hK
  obtain⟨⟨old,st1⟩,st2⟩:=st
  obtain⟨xs,hq,hx⟩:=hg
  obtain⟨its,rv,p,hz⟩:=I.list hq
  obtain⟨f0,f1,f2,f3,f4,f5⟩:=hf it (by simp)
  have hl:=rv.length
  exact wpAny_pyNext_enum_end (I.ok.hd hc) st1 st2 p.isList (by simp;omega) fun h' eb=>⟨rfl,I.turned (t':=s.toks) (fun b o hb e=>eb b o hb e) f0 f1 f3 f4 f5⟩
 self:=fun _ _ _ _ _ st h=>by
  obtain⟨⟨old,st1⟩,st2⟩:=st
  exact wpAny_pyIter_enum st1 h
def Kq (K:PySem.W.Frag) (ta:TA):TI:=fun σ H R=>ta σ H fun vs H1=>∃a,vs=[.ref a]∧(∃xs,bJ K H1 a xs)∧R (yr K a) H1
theorem yu {X:Cx} {elts:List Expr} {x1} {tpos:Pos} {a:Expr} {ta:TA} {p pos:Pos} (hg:Gl X "enumerate") (hm:X.mg "enumerate"=none) (ha:PA X [a] ta) (hs:starEach [a] X.env=[(false,eval a X.env)]:=by rfl):
  PI X (.Tuple elts x1 tpos) (.Call (.Name "enumerate" p) [a] [] pos) (Kq X.K ta):=by
 intro pins s σ H R I h
 refine Call_ (fh I hg hm boot_enumerate (PyProof.Rows.callWith_type1 (aG (ha pos pins s σ H _ I h) fun us s1 ⟨vs,H1,I1,r1,q1⟩=>?_) hs rfl))
 obtain⟨l,e,⟨xs,hq⟩,q⟩:=q1
 subst e
 cases r1 with
 | cons r rr=>
  cases rr
  cases r
  obtain⟨its,rv,pl,hz⟩:=I1.list hq
  refine call_enumerate_list pl.isList fun h' he hit hsz kk=>?_
  have I2:Inv X pins σ H1 {s1 with heap:=h'}:=I1.kept (t':=s1.toks) kk
  refine wpAny_pyIter_enum he ?_
  refine⟨s1.heap.objs.size+1,[s1.heap.objs.size+1,s1.heap.objs.size],_,_,H1,rfl,I2,AZ l _ _ (Nat.succ_ne_self _),⟨⟨_,by simpa using he⟩,hit⟩,fun b hb=>?_,q⟩
  rcases List.mem_cons.mp hb with z | z
  ·subst z;exact I1.jZ (Nat.le_succ _) (I1.hok.fresh (Nat.le_succ _))
  ·have z':b=s1.heap.objs.size:=by simpa using z
   subst z';exact I1.jZ (Nat.le_refl _) (I1.hok.fresh (Nat.le_refl _))
theorem CB {K:PySem.W.Frag} {a:Addr} {xs:List V} {g:TG} {tb:TS} {D:Ends} {σ:St} {H:Hp} (Pv:Nat→St→Hp→Prop) (h0:Pv 0 σ H) (hl:∀i σ H,i≤xs.length→Pv i σ H→bJ K H a xs)
  (hs:∀i x p σ H,xs[i]? =some x→Pv i σ H→H p=none→g (.ref p) σ (upd H p (.tup [.int i,x])) fun σ2 H2=>tb {D with nx:=Pv (i+1),ct:=Pv (i+1),bk:=D.nx} σ2 H2) (hd:∀σ H,Pv xs.length σ H→D.nx σ H):
  ∃W:Nat→Nat→St→Hp→Prop,(∃m,W 0 m σ H)∧∀i m σ H,W i m σ H→
   ((yr K a).stop i H∧D.nx σ H)∨((yr K a).go i H∧∃N:St→Hp→Prop,(∀σ' H',N σ' H'→∃m',m'<m∧W (i+1) m' σ' H')∧∀x H',(yr K a).ot i H x H'→g x σ H' fun σ2 H2=>tb {D with nx:=N,ct:=N,bk:=D.nx} σ2 H2):=by
 refine⟨fun i m σ H=>m=xs.length-i∧i≤xs.length∧Pv i σ H,⟨xs.length,by simp,Nat.zero_le _,h0⟩,?_⟩
 rintro i m σ H ⟨rfl,hi,p⟩
 have q:=hl i σ H hi p
 by_cases hlt:i<xs.length
 ·refine .inr ⟨⟨xs,xs[i],q,by simp[hlt]⟩,Pv (i+1),fun σ' H' p'=>⟨xs.length-(i+1),by omega,rfl,hlt,p'⟩,fun x H' y=>?_⟩
  obtain⟨z,pa,hz,hn,e1,e2⟩:=y
  subst e1 e2
  exact hs i z pa σ H (hz xs q) p hn
 ·have e:i=xs.length:=by omega
  subst e
  exact .inl ⟨⟨xs,q,Nat.le_refl _⟩,hd σ H p⟩
def fX (env:Env):List (Str×NameKind)→List (Str×Addr)→List (Str×Addr)
 | [],cs=>cs
 | (n,k)::r,cs=>fX env r (if k == .free then(n,(env.cells.lookup n).getD 0)::cs else cs)
theorem pS {env:Env}:∀(names:List (Str×NameKind)) (cs:List (Str×Addr)),(∀y∈names,y.2=.free→∃c,env.cells.lookup y.1=some c)→
  (forIn names cs fun(x:Str×NameKind) (r:List (Str×Addr))=>(match x with
   | (name,kind)=>if(kind == NameKind.free)=true then(cellOf env name >>= fun a=>pure (ForInStep.yield ((name,a)::r)):Sem (ForInStep (List (Str×Addr)))) else pure (ForInStep.yield r)))=pure (fX env names cs)
 | [],cs,_=>rfl
 | (n,k)::r,cs,h=>by
  have ih:=fun cs'=>pS r cs' fun y hy=>h y (List.mem_cons_of_mem _ hy)
  rw[List.forIn_cons]
  by_cases hk:k=.free
  ·subst hk
   obtain⟨c,hc⟩:=h (n,.free) List.mem_cons_self rfl
   have e:cellOf env n=pure c:=by unfold cellOf;rw[hc]
   simp only[beq_self_eq_true,if_true,e,pure_bind]
   rw[ih]
   show _=pure (fX env r (if(NameKind.free == NameKind.free)=true then _ else _))
   rw[hc];rfl
  ·have hb:(k == NameKind.free)=false:=by simpa using hk
   simp only[hb,Bool.false_eq_true,if_false,pure_bind]
   rw[ih]
   show _=pure (fX env r (if(k == NameKind.free)=true then _ else _))
   rw[hb];rfl
theorem jK {env:Env} {scope:Scope} (h:∀y∈scope.names,y.2=.free→∃c,env.cells.lookup y.1=some c):closureFor scope env=pure (fX env scope.names []):=by
 unfold closureFor
 have e:=pS (env:=env) scope.names [] h
 show((forIn scope.names [] _:Sem (List (Str×Addr))) >>= fun cs=>pure cs)=_
 rw[bind_pure]
 refine Eq.trans ?_ e
 first
  | rfl
  | (congr 1;funext x r;obtain⟨n,k⟩:=x;dsimp only;split<;>simp)
theorem uQ {env:Env} {x:Str} {c:Addr}:∀(names:List (Str×NameKind)) (cs:List (Str×Addr)),(x,c)∈fX env names cs→(x,c)∈cs∨((x,NameKind.free)∈names∧c=(env.cells.lookup x).getD 0)
 | [],cs,h=>.inl h
 | (n,k)::r,cs,h=>by
  have h':(x,c)∈fX env r (if(k == NameKind.free)=true then(n,(env.cells.lookup n).getD 0)::cs else cs):=h
  rcases uQ r _ h' with z | ⟨z1,z2⟩
  ·by_cases hk:k=.free
   ·subst hk
    simp only[beq_self_eq_true,if_true,List.mem_cons] at z
    rcases z with z | z
    ·cases z;exact .inr ⟨List.mem_cons_self,rfl⟩
    ·exact .inl z
   ·have hb:(k == NameKind.free)=false:=by simpa using hk
    rw[hb] at z
    exact .inl z
  ·exact .inr ⟨List.mem_cons_of_mem _ z1,z2⟩
theorem rO {env:Env} {p:Str×Addr}:∀(names:List (Str×NameKind)) (cs:List (Str×Addr)),p∈cs→p∈fX env names cs
 | [],cs,h=>h
 | (n,k)::r,cs,h=>by
  show p∈fX env r (if(k == NameKind.free)=true then(n,(env.cells.lookup n).getD 0)::cs else cs)
  refine rO r _ ?_
  split
  ·exact List.mem_cons_of_mem _ h
  ·exact h
theorem uR {env:Env} {x:Str}:∀(names:List (Str×NameKind)) (cs:List (Str×Addr)),(x,NameKind.free)∈names→(x,(env.cells.lookup x).getD 0)∈fX env names cs
 | [],_,h=>by cases h
 | (n,k)::r,cs,h=>by
  show _∈fX env r (if(k == NameKind.free)=true then(n,(env.cells.lookup n).getD 0)::cs else cs)
  rcases List.mem_cons.mp h with z | z
  ·cases z
   exact rO r _ (by simp)
  ·exact uR r _ z
theorem kj {α β:Type} [BEq α] [LawfulBEq α] {x:α} {c:β}:∀{l:List (α×β)},l.lookup x=some c→(x,c)∈l
 | [],h=>by simp at h
 | (n,k)::r,h=>by
  rw[List.lookup_cons] at h
  by_cases e:x=n
  ·subst e;simp at h;subst h;exact List.mem_cons_self
  ·have:(x == n)=false:=by simpa using e
   rw[this] at h
   exact List.mem_cons_of_mem _ (kj h)
theorem kl {α β:Type} [BEq α] [LawfulBEq α] {x:α} {c:β}:∀{l:List (α×β)},(x,c)∈l→∃c',l.lookup x=some c'
 | [],h=>by cases h
 | (n,k)::r,h=>by
  rw[List.lookup_cons]
  by_cases e:x=n
  ·subst e;simp
  ·have q:(x == n)=false:=by simpa using e
   rw[q]
   rcases List.mem_cons.mp h with z | z
   ·cases z;exact absurd rfl e
   ·exact kl z
theorem dJ {env:Env} {x:Str} {k':NameKind}:∀{names:List (Str×NameKind)},
  (names.map fun(n,k)=>if(k == NameKind.free&&env.scope.kind == .function&&env.kindOf n == some .cell) then(n,NameKind.cell) else(n,k)).lookup x=some k'→
  (x,k')∈names∨(k'=.cell∧(x,NameKind.free)∈names)
 | [],h=>by simp at h
 | (n,k)::r,h=>by
  rw[List.map_cons,List.lookup_cons] at h
  dsimp only at h
  by_cases e:x=n
  ·subst e
   by_cases hc:(k == NameKind.free&&env.scope.kind == .function&&env.kindOf x == some .cell)=true
   ·rw[if_pos hc] at h
    simp at h
    have hk:k=.free:=by
     simp only[Bool.and_eq_true,beq_iff_eq] at hc
     exact hc.1.1
    subst hk
    exact .inr ⟨h.symm,List.mem_cons_self⟩
   ·rw[if_neg hc] at h
    simp at h
    subst h
    exact .inl List.mem_cons_self
  ·have q:(x == (if(k == NameKind.free&&env.scope.kind == .function&&env.kindOf n == some .cell)=true then(n,NameKind.cell) else(n,k)).1)=false:=by
    split<;>simpa using e
   rw[q] at h
   rcases dJ h with z | ⟨z1,z2⟩
   ·exact .inl (List.mem_cons_of_mem _ z)
   ·exact .inr ⟨z1,List.mem_cons_of_mem _ z2⟩
structure aD (X:Cx) (scope:Scope) (own aJ:List Str) (bx:List Nat):Prop where
 cell:∀y∈scope.names,y.2≠.cell
 kind:scope.kind=.function
 names:∀y∈scope.names,y.2=.local→scope.names.lookup y.1=some .local
 free:∀y∈scope.names,y.2=.free→X.env.scope.names.lookup y.1=some .cell∨X.env.scope.names.lookup y.1=some .free
 Qi:bx.length=aJ.length
 Qj:∀(i j:Nat),bx[i]? =some j→X.N[j]? =aJ[i]?
 Qk:∀x∈aJ,(x,NameKind.free)∈scope.names∧scope.names.lookup x=some .free
def fA (X:Cx) (own aJ:List Str) (scope:Scope) (C:Addr) (s₃:Shared) (H₃:Hp) (fp:List Addr):Cx:=
 {X with N:=own++aJ,s₀:=s₃,H₀:=H₃,env:=compEnvC scope (fX X.env scope.names []) C X.env,outer:=X.stack,stack:=X.stack,ex:=fp,fn:=fun _=>false,pn:=[],xe:=fun _ _=>False}
def uS (own:List Str) (bx:List Nat) (σ:St):St:=List.replicate own.length none++bx.map fun j=>(σ[j]?).join
section
variable {X:Cx} {pins:List (Addr×Obj)} {σ:List (Option V)} {H:Hp} {s:Shared} {scope:Scope} {own aJ:List Str} {bx:List Nat}
theorem aD.cells (sc:aD X scope own aJ bx) (ok:X.Ok):∀y∈scope.names,y.2=.free→∃c,X.env.cells.lookup y.1=some c:=fun y hy hf=>by
 rcases sc.free y hy hf with z | z
 ·exact ok.has y.1 (.inl z)
 ·exact ok.has y.1 (.inr z)
theorem aD.look (sc:aD X scope own aJ bx) (ok:X.Ok) {x:Str} {c:Addr} (h:(fX X.env scope.names []).lookup x=some c):X.env.cells.lookup x=some c∧(x,NameKind.free)∈scope.names:=by
 rcases uQ _ _ (kj h) with z | ⟨z1,z2⟩
 ·cases z
 ·obtain⟨c',hc⟩:=sc.cells ok (x,.free) z1 rfl
  have hc':X.env.cells.lookup x=some c':=hc
  rw[hc'] at z2
  have z3:c=c':=z2
  subst z3
  exact⟨hc',z1⟩
theorem aD.D_ (sc:aD X scope own aJ bx) (ok:X.Ok) {x:Str} (h:(x,NameKind.free)∈scope.names):∃c,(fX X.env scope.names []).lookup x=some c∧X.env.cells.lookup x=some c:=by
 obtain⟨c,hc⟩:=kl (uR (env:=X.env) scope.names [] h)
 exact⟨c,hc,(sc.look ok hc).1⟩
theorem Inv.block {fp:List Addr} {h₄:Heap} {tk:Nat} (I:Inv X pins σ H s) (sc:aD X scope own aJ bx) (hfp:∀b∈fp,jf X pins H b) (hfl:∀b∈fp,b<s.heap.objs.size)
  (k:∀b o,s.heap.get? b=some o→h₄.get? b=some o) (hn:h₄.Ns s.heap.objs.size fun _=>none):
  Inv (fA X own aJ scope s.heap.objs.size s H fp) [] (uS own bx σ) H {s with heap:=h₄,toks:=tk}:=by
 have ok:=I.ok
 refine⟨⟨ok.mod,by show(relabel scope X.env).kind=_;exact sc.kind,ok.glob,ok.blt,Nat.le_refl _,?_,?_,fun x c h=>(nomatch h),ok.hd,ok.frames,.inl rfl,?_,fun b o e=>I.bs b o e,Nat.le_trans ok.lZ I.sz,?_,?_,I.stack,I.j7⟩,rfl,I.bare,Un.kept k,?_,?_,I.fresh,?_,fun p hp=>(nomatch hp),I.hok.kept k,?_⟩
 ·intro x y c e1 e2
  exact ok.inj x y c (sc.look ok e1).1 (sc.look ok e2).1
 ·intro x h
  have mem:(x,NameKind.free)∈scope.names:=by
   rcases h with h | h
   ·rcases dJ h with z | ⟨_,z⟩
    ·exact absurd rfl (sc.cell _ z)
    ·exact z
   ·rcases dJ h with z | ⟨z,_⟩
    ·exact z
    ·cases z
  obtain⟨c,hc,_⟩:=sc.D_ ok mem
  exact⟨c,hc⟩
 ·intro b hb
  obtain⟨f0,f1,f2,f3,f4,f5⟩:=hfp b hb
  exact⟨Nat.ne_of_lt (hfl b hb),fun x c e=>f4 x c (sc.look ok e).1⟩
 ·intro b o e hb
  rcases(hfp b hb).2.2.2.1 with z | z
  ·exact ok.uo b o e z
  ·exact absurd (Nat.lt_of_lt_of_le (Heap.lt_size e) (Nat.le_trans ok.lZ z)) (Nat.lt_irrefl _)
 ·intro b hb hfs
  obtain⟨f0,f1,f2,_⟩:=hfp b hb
  rcases List.mem_cons.mp (I.mn b hfs) with z | z
  ·exact f1 z
  ·exact f2 z
 ·refine⟨_,hn,fun i x v e1 e2 e3=>?_⟩
  have e1':(own++aJ)[i]? =some x:=e1
  have e2':(List.replicate own.length none++bx.map fun j=>(σ[j]?).join)[i]? =some (some v):=e2
  by_cases hi:i<own.length
  ·rw[List.getElem?_append_left (by simpa using hi)] at e2'
   rw[List.getElem?_replicate] at e2'
   split at e2'<;>cases e2'
  ·rw[List.getElem?_append_right (by simp;omega),List.length_replicate] at e2'
   rw[List.getElem?_append_right (by omega)] at e1'
   rw[List.getElem?_map] at e2'
   cases ej:bx[i-own.length]? with
   | none=>rw[ej] at e2';cases e2'
   | some j=>
    rw[ej] at e2'
    have zB:(σ[j]?).join=some v:=by simpa using e2'
    have e4:σ[j]? =some (some v):=by
     cases q:σ[j]? with
     | none=>rw[q] at zB;cases zB
     | some o=>rw[q] at zB;simpa using zB
    have e5:=(sc.Qj _ j ej).trans e1'
    obtain⟨hm,hlk⟩:=sc.Qk x (List.mem_of_getElem? e1')
    obtain⟨m,UG,hl⟩:=I.loc
    have hv:x' X.env.scope x:=by
     rcases sc.free (x,.free) hm rfl with z | z
     ·exact .inr (.inl z)
     ·exact .inr (.inr z)
    obtain⟨u,r,lk⟩:=hl j x v e5 e4 hv
    refine⟨u,r,.inr ?_⟩
    obtain⟨c,hc,hc'⟩:=sc.D_ ok hm
    have G_:h₄.IsCell c (some u):=by
     rcases lk with⟨z,_⟩ | ⟨_,c',hx,⟨o,ho,hd⟩⟩
     ·exfalso
      have z':X.env.scope.names.lookup x=some .local:=z
      rcases sc.free (x,.free) hm rfl with q | q
      ·rw[show X.env.scope.names.lookup x=some .cell from q] at z';cases z'
      ·rw[show X.env.scope.names.lookup x=some .free from q] at z';cases z'
     ·rw[hc'] at hx;cases hx
      exact⟨o,k _ o ho,hd⟩
    refine⟨?_,c,hc,G_⟩
    have e3':x' (relabel scope X.env) x:=e3
    rcases e3' with z | z | z
    ·exfalso
     rcases dJ z with q | ⟨q,_⟩
     ·have:=sc.names _ q rfl
      rw[show scope.names.lookup x=some .local from this] at hlk
      cases hlk
     ·cases q
    ·exact .inl z
    ·exact .inr z
 ·intro x c e
  obtain⟨v,o,ho,hd⟩:=I.cell x c (sc.look ok e).1
  exact⟨v,o,k _ o ho,hd⟩
 ·intro x c e
  exact I.gg x c (sc.look ok e).1
 ·show(List.replicate own.length none++bx.map fun j=>(σ[j]?).join).length=(own++aJ).length
  simp[sc.Qi]
end
theorem kX {prog:Program} {w:World} {A:Around} {R:Result→Shared→Prop} {s:Shared} {elt target iter:Expr} {ifs:List Expr} {scope:Scope} {pos:Pos} {it acc:Value} {env:Env} (I:Nat→Shared→Prop)
  (turn:∀n s,I n s→wpAny (model prog w) A (pyNext it) (fun r s₁=>match r with
   | none=>R (.ok .next) s₁
   | some v=>wpAny (model prog w) A (letOwnedTupleGo target it v) (fun _ s₁'=>wpAny (model prog w) A (assign target env v) (fun _ s₂=>
     wpAny (model prog w) A (forIn ifs true fun c r=>if r=true then do let ok ←isTrue c env (eval c env);pure (ForInStep.yield ok) else pure (ForInStep.yield r)) (fun ok s₃=>
      if ok=true then wpAny (model prog w) A (eval elt env) (fun x s₄=>
       wpAny (model prog w) A (call (.builtin "list.append") [acc,x]) (fun _ s₅=>∃m,m<n∧I m s₅) (fun _ _=>False) s₄) (fun _ _=>False) s₃
      else ∃m,m<n∧I m s₃) (fun _ _=>False) s₂) (fun _ _=>False) s₁') (fun _ _=>False) s₁) (fun _ _=>False) s)
  (n:Nat) (h:I n s):
  codeAny (model prog w) A (.compLoop (.ListComp elt [⟨target,iter,ifs,0⟩] scope pos) 0 it acc env) R s:=by
 refine codeAny_loop rfl I (fun n s hI=>?_) n h
 show wpAny _ A ((compTurn (.ListComp elt [⟨target,iter,ifs,0⟩] scope pos) 0 it acc env).onRaise (fun x=>do noteFrame x env;theTreesLotGoes x)) _ _ s
 refine wpAny_noted ?_
 rw[compTurn_list]
 refine wpAny_bind (wpAny_standAt (wpAny_bind (wpAny_mono (turn n s hI) (fun r s₁ h₁=>?_) fun _ _ h'=>h'.elim)))
 cases r with
 | none=>exact wpAny_pure h₁
 | some v=>
  refine wpAny_bind (wpAny_mono h₁ (fun _ s₁' h₁'=>?_) fun _ _ h'=>h'.elim)
  refine wpAny_bind (wpAny_mono h₁' (fun _ s₂ h₂=>wpAny_bind (wpAny_mono h₂ (fun ok s₃ h₃=>?_) fun _ _ h'=>h'.elim)) fun _ _ h'=>h'.elim)
  cases ok with
  | false=>exact wpAny_pure ⟨rfl,h₃⟩
  | true=>
   exact wpAny_bind (wpAny_bind (wpAny_mono h₃ (fun x s₄ h₄=>wpAny_bind (wpAny_mono h₄ (fun _ s₅ h₅=>wpAny_pure (wpAny_pure ⟨rfl,h₅⟩)) fun _ _ h'=>h'.elim)) fun _ _ h'=>h'.elim))
def qD (X:Cx) (ifs:List Expr) (t:TT):Prop:=
 ∀(pins:List (Addr×Obj)) (s:Shared) (σ:St) (H:Hp) (Q:Bool→Hp→Prop),Inv X pins σ H s→t σ H Q→
  wpAny (model X.prog X.w) X.A (forIn ifs true fun c r=>if r=true then do let ok ←isTrue c X.env (eval c X.env);pure (ForInStep.yield ok) else pure (ForInStep.yield r)) (TP X pins σ Q) X.xe s
def Kr:TT:=fun _ H Q=>Q true H
theorem bG {X:Cx}:qD X [] Kr:=fun _ _ _ H _ I h=>wpAny_tests_nil ⟨H,I,h⟩
theorem jk {X:Cx} {c:Expr} {t:TT} (h:PT X c t):qD X [c] t:=fun pins s σ H Q I hq=>wpAny_tests_one (h pins s σ H Q I hq)
def jL (J:It) (g:TG) (tt:TT) (te:TE) (D:Addr) (σ:St) (H:Hp) (R:Hp→Prop):Prop:=
 ∃W:Nat→Nat→St→Hp→Prop,(∃m,W 0 m σ H)∧∀i m σ H,W i m σ H→(J.stop i H∧R H)∨(J.go i H∧∃N:St→Hp→Prop,(∀σ' H',N σ' H'→∃m',m'<m∧W (i+1) m' σ' H')∧
  ∀x H',J.ot i H x H'→g x σ H' fun σ2 H2=>tt σ2 H2 fun b H3=>if b=true then te σ2 H3 fun y H4=>∃ys,H4 D=some (.lst ys)∧ys.length<sizeLine∧N σ2 (upd H4 D (.lst (ys++[y]))) else N σ2 H3)
section
variable {X:Cx} {scope:Scope} {own aJ:List Str} {bx:List Nat} {elt tg iter:Expr} {ifs:List Expr} {pos:Pos} {g:TG} {tt:TT} {te:TE}
theorem pT {pins:List (Addr×Obj)} {σ:St} {H:Hp} {s:Shared} {J:It} {fp:List Addr} {it:Addr} {tn:Nat→Heap→Prop} {R:Addr→Hp→Prop} {RR:Value→Addr→Result→Shared→Prop} {E:Value→Shared→Prop}
  (sc:aD X scope own aJ bx) (hc:X.calm=true)
  (hg:∀C s₃ H₃ fp,PG (fA X own aJ scope C s₃ H₃ fp) tg g) (ht:∀C s₃ H₃ fp,qD (fA X own aJ scope C s₃ H₃ fp) ifs tt) (he:∀C s₃ H₃ fp,PE (fA X own aJ scope C s₃ H₃ fp) elt te)
  (I:Inv X pins σ H s) (T:Turn X.prog X.w X.K tg J fp it tn) (st:tn 0 s.heap) (hfp:∀b∈fp,jf X pins H b)
  (h:∀D,H D=none→jL J g tt te D (uS own bx σ) (upd H D (.lst [])) (R D))
  (hRR:∀D C H' s' m,Inv X pins σ H' s'→s.heap.objs.size≤C→s'.heap.Ns C m→H' C=none→R D H'→RR (.ref D) C (.ok .next) s'):
  wpAny (model X.prog X.w) X.A (newList []) (fun acc s₃=>wpAny (model X.prog X.w) X.A (newFunctionEnv scope X.env.globals (fX X.env scope.names []) [] X.env.qual none .none (some X.env)) (fun cenv s₄=>
   codeAny (model X.prog X.w) X.A (.compStart (.ListComp elt [⟨tg,iter,ifs,0⟩] scope pos) 0 (.ref it) acc {cenv with scope:=relabel scope X.env}) (RR acc cenv.locals) s₄) E s₃) E s:=by
 refine wpAny_newObj_type (wpAny_newFunctionEnv sc.cell (by intro y hy;simp at hy) (fun h₁ hns₁ hsb₁=>?_) sc.kind)
 dsimp only at hns₁ hsb₁ ⊢
 have hD:=I.fresh
 have I3:Inv X pins σ (upd H s.heap.objs.size (.lst [])) {s with heap:=s.heap.push {cls:=.type "list",dict:=none,data:=.seq ([]:List Value).toArray}}:=I.Cw (its:=[]) (t':=s.toks) .nil (Nat.zero_le _)
 have hsz:(s.heap.push {cls:=.type "list",dict:=none,data:=.seq ([]:List Value).toArray}).objs.size=s.heap.objs.size+1:=Heap.size_push ..
 generalize hs3:({s with heap:=s.heap.push {cls:=.type "list",dict:=none,data:=.seq ([]:List Value).toArray}}:Shared)=s₃ at I3
 have hh3:s.heap.push {cls:=.type "list",dict:=none,data:=.seq ([]:List Value).toArray}=s₃.heap:=by rw[←hs3]
 rw[hh3] at hns₁ hsb₁ hsz ⊢
 have hfl:∀b∈fp,b<s.heap.objs.size:=fun b hb=>by
  obtain⟨o,e,_⟩:=T.obj 0 _ st b hb
  exact Heap.lt_size e
 have CD:∀b∈fp,jf X pins (upd H s.heap.objs.size (.lst [])) b:=fun b hb=>by
  obtain⟨f0,f⟩:=hfp b hb
  exact⟨by rw[aq (Nat.ne_of_lt (hfl b hb))];exact f0,f⟩
 have M5:∀b∈fp,b<s₃.heap.objs.size:=fun b hb=>by rw[hsz];exact Nat.lt_succ_of_lt (hfl b hb)
 have k4:∀b o,s₃.heap.get? b=some o→h₁.get? b=some o:=fun b o e=>(hsb₁.2 b (Nat.ne_of_lt (Heap.lt_size e))).trans (Heap.get?_push_of_some _ e)
 have k3:∀b o,s.heap.get? b=some o→s₃.heap.get? b=some o:=fun b o e=>by rw[←hh3];exact Heap.get?_push_of_some _ e
 have hnone:(fun x:Str=>List.lookup x ([]:List (Str×Value)).reverse)=fun _=>none:=by funext x;rfl
 have Ks:h₁.Ns s₃.heap.objs.size fun _=>none:=by
  have q:=hns₁
  first
   | exact q
   | (rw[hnone] at q;exact q)
 have I4:=I3.block (own:=own) (tk:=s.toks+([]:List (Str×Value)).length) sc CD M5 k4 Ks
 have rP:tn 0 h₁:=T.keep _ _ _ st fun b hb o e=>k4 b o (k3 b o e)
 generalize hX:fA X own aJ scope s₃.heap.objs.size s₃ (upd H s.heap.objs.size (.lst [])) fp=X' at I4
 have K5:X'.prog=X.prog:=by rw[←hX];rfl
 have K6:X'.w=X.w:=by rw[←hX];rfl
 have Ql:X'.K=X.K:=by rw[←hX];rfl
 have Qm:X'.A=X.A:=by rw[←hX];rfl
 have K8:X'.calm=true:=by rw[←hX];exact hc
 have Qn:X'.xe=fun _ _=>False:=by rw[←hX];rfl
 have Qo:X'.env=compEnvC scope (fX X.env scope.names []) s₃.heap.objs.size X.env:=by rw[←hX];rfl
 have hg':PG X' tg g:=by rw[←hX];exact hg _ _ _ _
 have ht':qD X' ifs tt:=by rw[←hX];exact ht _ _ _ _
 have he':PE X' elt te:=by rw[←hX];exact he _ _ _ _
 have Qp:∀{H':Hp} {s':Shared} {σ':St},Inv X' [] σ' H' s'→Inv X pins σ H' s'∧(∃m,s'.heap.Ns s₃.heap.objs.size m)∧H' s₃.heap.objs.size=none:=by
  intro H' s' σ' I'
  subst hX
  refine⟨I3.call' (ch:=fp) I'.os I'.base I'.hok I'.bare fun b hb=>?_,let ⟨m,hn,_⟩:=I'.loc;⟨m,hn⟩,I'.free⟩
  obtain⟨f0,f1,f2,f3,f4,f5⟩:=CD b hb
  exact⟨f3,f1,f4,f5⟩
 have stat:∀{H':Hp},(∀b∈fp,H' b=none)→∀b∈fp,jf X' [] H' b:=by
  intro H' hn b hb
  subst hX
  obtain⟨a1,a2⟩:=I4.ok.Gk b hb
  exact⟨hn b hb,a1,I4.ok.uq b hb,.inl hb,a2,fun p hp=>by cases hp⟩
 obtain⟨W,⟨m0,w0⟩,turn⟩:=h s.heap.objs.size hD
 have loop:codeAny (model X.prog X.w) X.A (.compLoop (.ListComp elt [⟨tg,iter,ifs,0⟩] scope pos) 0 (.ref it) (.ref s.heap.objs.size) X'.env) (RR (.ref s.heap.objs.size) s₃.heap.objs.size)
   {s₃ with heap:=h₁,toks:=s.toks+([]:List (Str×Value)).length}:=by
  refine kX (fun n s'=>∃i σ' H',Inv X' [] σ' H' s'∧tn i s'.heap∧(∀b∈fp,H' b=none)∧W i n σ' H') ?_ m0 ⟨0,_,_,I4,rP,fun b hb=>(CD b hb).1,w0⟩
  rintro n s5 ⟨i,σ5,H5,I5,fu,DN,w5⟩
  rw[←K5,←K6,←Qm]
  have D0:∀{α:Type} {t:Sem α} {Q:α→Shared→Prop} {s:Shared},wpAny (model X'.prog X'.w) X'.A t Q X'.xe s→wpAny (model X'.prog X'.w) X'.A t Q (fun _ _=>False) s:=fun h=>by rw[Qn] at h;exact h
  have T':Turn X'.prog X'.w X'.K tg J fp it tn:=by rw[K5,K6,Ql];exact T
  rcases turn i n σ5 H5 w5 with⟨stop,q⟩ | ⟨go,N,hN,step⟩
  ·refine aG (T'.done X' rfl rfl rfl K8 i [] s5 σ5 H5 _ I5 (stat DN) fu stop) fun r s6 ⟨hr,I6⟩=>?_
   subst hr
   obtain⟨J1,⟨m,J2⟩,J3⟩:=Qp I6
   exact hRR _ _ H5 s6 m J1 (by rw[hsz];exact Nat.le_succ _) J2 J3 q
  ·refine aG (T'.item X' rfl rfl rfl K8 i [] s5 σ5 H5 _ I5 (stat DN) fu go) fun r s6 ⟨u,hr,h6⟩=>?_
   subst hr
   refine aG h6 fun _ s7 ⟨x,H7,I7,r7,y7,G0,Qq⟩=>?_
   have Qr:=I7.pinned (stat Qq) (T'.obj _ _ G0)
   have again:∀{s9:Shared} {σ9:St} {H9:Hp},Inv X' ([]++mz fp s7.heap) σ9 H9 s9→N σ9 H9→∃m,m<n∧∃i σ' H',Inv X' [] σ' H' s9∧tn i s9.heap∧(∀b∈fp,H' b=none)∧W i m σ' H':=fun {s9 σ9 H9} I9 n9=>by
    obtain⟨m',hm,w9⟩:=hN σ9 H9 n9
    refine⟨m',hm,i+1,σ9,H9,I9.kQ,T'.keep _ _ _ G0 fun b hb o e=>(I9.pin (b,o) (List.mem_append_right _ (List.mem_append_right _ (iW hb e)))).1,fun b hb=>?_,w9⟩
    obtain⟨o,e,d⟩:=T'.obj _ _ G0 b hb
    exact(I9.pin (b,o) (List.mem_append_right _ (List.mem_append_right _ (iW hb e)))).2.1
   refine aG (D0 (hg' _ s7 σ5 H7 x u _ Qr r7 (step x H7 y7))) fun _ s8 ⟨σ8,H8,I8,q8⟩=>?_
   refine aG (D0 (ht' _ s8 σ8 H8 _ I8 q8)) fun b s9 ⟨H9,I9,q9⟩=>?_
   cases b with
   | false=>exact again I9 (by simpa using q9)
   | true=>
    rw[if_pos rfl] at q9
    refine aG (D0 (he' _ s9 σ8 H9 _ I9 q9)) fun y Qs ⟨v,K9,Qt,r10,Qu⟩=>?_
    obtain⟨ys,e10,z10,n10⟩:=Qu
    refine aG (D0 (bS _ Qs σ8 K9 (.ref s.heap.objs.size) [v] (.ref s.heap.objs.size) [y] (fun _ H'=>H'=upd K9 s.heap.objs.size (.lst (ys++[v]))) Qt rfl (.cons r10 .nil) ⟨_,ys,v,rfl,rfl,e10,z10,rfl⟩)) fun u UH ⟨v',UI,Qv,_,G3⟩=>?_
    subst G3
    exact again Qv n10
 rw[Qo] at loop
 have e4:({s with heap:=h₁,toks:=s.toks+([]:List (Str×Value)).length}:Shared)={s₃ with heap:=h₁,toks:=s.toks+([]:List (Str×Value)).length}:=by rw[←hs3]
 rw[e4]
 exact codeAny_compStart_list loop (T.self _ 0 _ _ _ rP loop)
end
def D1 (own:List Str) (bx:List Nat) (wi:TI) (g:TG) (tt:TT) (te:TE):TE:=fun σ H Q=>wi σ H fun J H1=>∀D,H1 D=none→jL J g tt te D (uS own bx σ) (upd H1 D (.lst [])) fun H'=>Q (.ref D) H'
section
variable {X:Cx} {scope:Scope} {own aJ:List Str} {bx:List Nat} {elt tg iter:Expr} {ifs:List Expr} {pos:Pos} {wi:TI} {g:TG} {tt:TT} {te:TE}
theorem cA (sc:aD X scope own aJ bx) (hc:X.calm=true) (hi:PI X tg iter wi)
  (hg:∀C s₃ H₃ fp,PG (fA X own aJ scope C s₃ H₃ fp) tg g) (ht:∀C s₃ H₃ fp,qD (fA X own aJ scope C s₃ H₃ fp) ifs tt) (he:∀C s₃ H₃ fp,PE (fA X own aJ scope C s₃ H₃ fp) elt te)
  (hs:∀x,foldedSetIterable iter X.env x=pure x:=by intro _;rfl):PE X (.ListComp elt [⟨tg,iter,ifs,0⟩] scope pos) (D1 own bx wi g tt te):=by
 intro pins s σ H Q I h
 rw[eval_ListComp]
 refine wpAny_comprehension_free (use:=none) rfl hs (jK (sc.cells I.ok)) sc.kind sc.names (aG (hi pins s σ H _ I h) fun v s1 h1=>aG h1 fun itv s2 h2=>?_)
 obtain⟨it,fp,tn,J,H2,e,I2,T,st2,f2,q⟩:=h2
 subst e
 refine pT (RR:=fun acc C=>compPost (model X.prog X.w) X.A X.xe none (EP X pins σ Q) acc C) (R:=fun D H'=>Q (.ref D) H') sc hc hg ht he I2 T st2 f2 q ?_
 intro D C H' s' m I' hC hn hf hq
 refine⟨m,hn,fun h' sb=>?_⟩
 obtain⟨f0,f1,f2,f3,f4,f5⟩:=I2.jZ (H':=H') hC hf
 exact⟨.ref D,H',I'.turned (t':=s'.toks) (it:=C) (fun b o hb e=>(sb.2 b hb).trans e) f0 f1 f3 f4 f5,rfl,hq⟩
theorem eZ {i:Nat} {y:Str} {py spos:Pos} (sc:aD X scope own aJ bx) (hc:X.calm=true) (hi:PI X tg iter wi)
  (hg:∀C s₃ H₃ fp,PG (fA X own aJ scope C s₃ H₃ fp) tg g) (ht:∀C s₃ H₃ fp,qD (fA X own aJ scope C s₃ H₃ fp) ifs tt) (he:∀C s₃ H₃ fp,PE (fA X own aJ scope C s₃ H₃ fp) elt te)
  (hN:X.N.Nodup) (hi':X.N[i]? =some y) (hx:X.env.scope.names.lookup y=some .local)
  (hsw:swapsWith (.ListComp elt [⟨tg,iter,ifs,0⟩] scope pos) (some (.Name y py)) spos.line X.env=pure true:=by rfl)
  (hs:∀x,foldedSetIterable iter X.env x=pure x:=by intro _;rfl):PS X (.Assign [.Name y py] (.ListComp elt [⟨tg,iter,ifs,0⟩] scope pos) spos) (qw (D1 own bx wi g tt te) (aC i)):=by
 intro pins s σ H D I h
 rw[exec_Assign_Name_used _ _ _ _ hsw]
 refine wpAny_bind (wpAny_standAt (wpAny_bind ?_))
 show wpAny _ X.A (do let _ ←comprehension (.ListComp elt [⟨tg,iter,ifs,0⟩] scope pos) scope X.env _ (newList []) false (eval iter X.env) (some (assign (.Name y py) X.env))) _ _ s
 refine wpAny_bind (wpAny_mono (wpAny_comprehension_free (use:=some (assign (.Name y py) X.env)) (Q:=fun _ s'=>SP X pins D .next s') rfl hs (jK (sc.cells I.ok)) sc.kind sc.names
  (aG (hi pins s σ H _ I h) fun v s1 h1=>aG h1 fun itv s2 h2=>?_)) (fun _ s' hq=>wpAny_pure (wpAny_pure hq)) fun _ _ e=>e)
 obtain⟨it,fp,tn,J,H2,e,I2,T,st2,f2,q⟩:=h2
 subst e
 refine pT (RR:=fun acc C=>compPost (model X.prog X.w) X.A X.xe (some (assign (.Name y py) X.env)) (fun _ s'=>SP X pins D .next s') acc C) (R:=fun E H'=>D.nx (σ.set i (some (.ref E))) H') sc hc hg ht he I2 T st2 f2 q ?_
 intro E C H' s' m I' hC hn hf hq
 show wpAny _ X.A (assign (.Name y py) X.env (.ref E)) _ _ _
 obtain⟨f0,f1,f2,f3,f4,f5⟩:=I2.jZ (H':=H') hC hf
 refine wpAny_assign_Name (rA I' hN hi' (.inl hx) (v:=.ref E) (u:=.ref E) rfl (fun s3 I3 ⟨a,sb,ha⟩=>?_) (.inr hx))
 have Qw:C≠a:=by
  rcases ha with z | z
  ·rw[z];exact f1
  ·exact(f4 y a z).symm
 refine⟨m,hn.sameBut sb Qw,fun h' Qx=>?_⟩
 exact⟨_,H',I3.turned (t':=s3.toks) (it:=C) (fun b o hb e=>(Qx.2 b hb).trans e) f0 f1 f3 f4 f5,hq⟩
end
theorem dM {lo:Int} {n:Nat} {g:TG} {tt:TT} {te:TE} {D:Addr} {σ:St} {H:Hp} {R:Hp→Prop} (Pv:Nat→St→Hp→Prop) (h0:Pv 0 σ H)
  (hs:∀i σ H,i<n→Pv i σ H→g (.int (lo+i)) σ H fun σ2 H2=>tt σ2 H2 fun b H3=>if b=true then te σ2 H3 fun y H4=>∃ys,H4 D=some (.lst ys)∧ys.length<sizeLine∧Pv (i+1) σ2 (upd H4 D (.lst (ys++[y]))) else Pv (i+1) σ2 H3)
  (hd:∀σ H,Pv n σ H→R H):jL (pJ lo n) g tt te D σ H R:=by
 refine⟨fun i m σ H=>m=n-i∧i≤n∧Pv i σ H,⟨n,by simp,Nat.zero_le _,h0⟩,?_⟩
 rintro i m σ H ⟨rfl,hi,p⟩
 by_cases hlt:i<n
 ·refine .inr ⟨hlt,Pv (i+1),fun σ' H' p'=>⟨n-(i+1),by omega,rfl,hlt,p'⟩,fun x H' y=>?_⟩
  obtain⟨e,y⟩:=y
  subst e y
  exact hs i σ _ hlt p
 ·have e:i=n:=by omega
  subst e
  exact .inl ⟨Nat.le_refl _,hd σ H p⟩
theorem gC {K:PySem.W.Frag} {a:Addr} {xs:List V} {g:TG} {tt:TT} {te:TE} {D:Addr} {σ:St} {H:Hp} {R:Hp→Prop} (Pv:Nat→St→Hp→Prop) (h0:Pv 0 σ H) (hl:∀i σ H,i≤xs.length→Pv i σ H→bJ K H a xs)
  (hs:∀i x σ H,xs[i]? =some x→Pv i σ H→g x σ H fun σ2 H2=>tt σ2 H2 fun b H3=>if b=true then te σ2 H3 fun y H4=>∃ys,H4 D=some (.lst ys)∧ys.length<sizeLine∧Pv (i+1) σ2 (upd H4 D (.lst (ys++[y]))) else Pv (i+1) σ2 H3)
  (hd:∀σ H,Pv xs.length σ H→R H):jL (ye K a) g tt te D σ H R:=by
 refine⟨fun i m σ H=>m=xs.length-i∧i≤xs.length∧Pv i σ H,⟨xs.length,by simp,Nat.zero_le _,h0⟩,?_⟩
 rintro i m σ H ⟨rfl,hi,p⟩
 have q:=hl i σ H hi p
 by_cases hlt:i<xs.length
 ·refine .inr ⟨⟨xs,xs[i],q,by simp[hlt]⟩,Pv (i+1),fun σ' H' p'=>⟨xs.length-(i+1),by omega,rfl,hlt,p'⟩,fun x H' y=>?_⟩
  obtain⟨e,y⟩:=y
  subst e
  exact hs i x σ _ (y xs q) p
 ·have e:i=xs.length:=by omega
  subst e
  exact .inl ⟨⟨xs,q,Nat.le_refl _⟩,hd σ H p⟩
theorem g_ {K:PySem.W.Frag} {a:Addr} {xs:List V} {g:TG} {tt:TT} {te:TE} {D:Addr} {σ:St} {H:Hp} {R:Hp→Prop} (Pv:Nat→St→Hp→Prop) (h0:Pv 0 σ H) (hl:∀i σ H,i≤xs.length→Pv i σ H→cH K H a xs)
  (hs:∀i x σ H,xs[i]? =some x→Pv i σ H→g x σ H fun σ2 H2=>tt σ2 H2 fun b H3=>if b=true then te σ2 H3 fun y H4=>∃ys,H4 D=some (.lst ys)∧ys.length<sizeLine∧Pv (i+1) σ2 (upd H4 D (.lst (ys++[y]))) else Pv (i+1) σ2 H3)
  (hd:∀σ H,Pv xs.length σ H→R H):jL (uA K a) g tt te D σ H R:=by
 refine⟨fun i m σ H=>m=xs.length-i∧i≤xs.length∧Pv i σ H,⟨xs.length,by simp,Nat.zero_le _,h0⟩,?_⟩
 rintro i m σ H ⟨rfl,hi,p⟩
 have q:=hl i σ H hi p
 by_cases hlt:i<xs.length
 ·refine .inr ⟨⟨xs,xs[i],q,by simp[hlt]⟩,Pv (i+1),fun σ' H' p'=>⟨xs.length-(i+1),by omega,rfl,hlt,p'⟩,fun x H' y=>?_⟩
  obtain⟨e,y⟩:=y
  subst e
  exact hs i x σ _ (y xs q) p
 ·have e:i=xs.length:=by omega
  subst e
  exact .inl ⟨⟨xs,q,Nat.le_refl _⟩,hd σ H p⟩
section
variable {X:Cx}
def Kt (i j:Int):Prop:=0<j∧j.natAbs.log2<9000
theorem oU:dk X (binaryOp .FloorDiv) (rI Kt fun i j=>.int (i / j)):=AA fun i j _ _ _ _ _ hc q=>by
 obtain⟨h0,h1⟩:=hc
 refine floordiv_int (by omega) ?_ (.inl (PyProof.noPylong_of_log2 h1))
 rw[Int.fdiv_eq_ediv_of_nonneg _ (by omega)]
 exact q
theorem A_ (hc:X.calm=true):cS X (.builtin "sum") (fun xs H Q=>∃(a:Addr) (ns:List Int),xs=[.ref a]∧bJ X.K H a (ns.map V.int)∧Q (.int ns.sum) H):=by
 intro pins s σ H xs us Q I r h
 obtain⟨a,ns,rfl,hq,q⟩:=h
 obtain⟨u,rfl,ru⟩:=vals1 r
 cases ru
 obtain⟨its,rv,p,_⟩:=I.list hq
 have hi:IntsAre its ns:=intsAre_of rv
 have all:=hi.allInts
 obtain⟨ys,hy⟩:=all.items
 have e:(numsOf its.toArray.toList).sum=ns.sum:=by rw[show its.toArray.toList=its from rfl,hi.numsOf]
 have hl:=p.isList
 rw[hy] at hl e
 rw[nums_intItems] at e
 refine sum_intListG (I.ok.hd hc) hl fun h' tk t' k=>⟨.int (preSum (numAt ys) ys.size),H,I.kept k,⟨t',rfl⟩,?_⟩
 rw[preSum_eq,List.take_of_length_le (by simp)]
 first
  | (rw[e];exact q)
  | (simp only[e];exact q)
theorem xi:cS X (.builtin "isinstance") (fun xs H Q=>∃(x:V) (t:Value) (T:String) (b:Bool),xs=[x,.ty T]∧fz X.K H x t∧PySem.W.kitOne X.K t (.type T)=some b∧Q (.bl b) H):=by
 intro pins s σ H xs us Q I r h
 obtain⟨x,t,T,b,rfl,ty,e,q⟩:=h
 obtain⟨u,w',rfl,rx,rT⟩:=vals2 r
 cases(show w'=Value.type T from rT)
 exact AG I rx ty e fun tk=>⟨.bl b,H,I.tok tk,rfl,q⟩
end
def rQ (scope esc:Scope) (N own aJ:List Str) (bx:List Nat):Bool:=
 scope.names.all (fun y=>y.2 != .cell)&&scope.kind == .function&&scope.names.all (fun y=>y.2 != .local||scope.names.lookup y.1 == some .local)
 &&scope.names.all (fun y=>y.2 != .free||(esc.names.lookup y.1 == some .cell||esc.names.lookup y.1 == some .free))
 &&bx.length == aJ.length&&(List.range bx.length).all (fun i=>(bx[i]?).bind (fun j=>N[j]?) == aJ[i]?)
 &&aJ.all (fun x=>scope.names.contains (x,NameKind.free)&&scope.names.lookup x == some .free)
theorem aD.mk' {X:Cx} {scope esc:Scope} {N own aJ:List Str} {bx:List Nat} (hs:X.env.scope=esc) (hN:X.N=N) (h:rQ scope esc N own aJ bx=true):aD X scope own aJ bx:=by
 unfold rQ at h
 simp only[Bool.and_eq_true,List.all_eq_true,bne_iff_ne,beq_iff_eq,Bool.or_eq_true,List.contains_iff_mem] at h
 obtain⟨⟨⟨⟨⟨⟨h1,h2⟩,h3⟩,h4⟩,h5⟩,h6⟩,h7⟩:=h
 refine⟨h1,h2,fun y hy hl=>?_,fun y hy hf=>?_,h5,fun i j e=>?_,fun x hx=>h7 x hx⟩
 ·rcases h3 y hy with z | z
  ·exact absurd hl z
  ·exact z
 ·rw[hs]
  rcases h4 y hy with z | z
  ·exact absurd hf z
  ·exact z
 ·have hi:i<bx.length:=(List.getElem?_eq_some_iff.mp e).1
  have q:=h6 i (List.mem_range.mpr hi)
  rw[e] at q
  rw[hN]
  exact q
def KB (d:Addr) (H H':Hp):Prop:=∀b o,H b=some o→b≠d→H' b=some o
theorem KB.refl (d:Addr) (H:Hp):KB d H H:=fun _ _ h _=>h
theorem KB.trans {d:Addr} {H H1 H2:Hp} (a:KB d H H1) (b:KB d H1 H2):KB d H H2:=fun c o h n=>b c o (a c o h n) n
theorem KB.write {d:Addr} {H:Hp} {o:HO}:KB d H (upd H d o):=fun b o h n=>by rw[aq n];exact h
theorem Same.kb {d:Addr} {H H':Hp} (s:Same H H'):KB d H H':=fun b o h _=>s b o h
theorem Same.new {H:Hp} {p:Addr} {o:HO} (h:H p=none):Same H (upd H p o):=fun b u e=>by rw[aq (aj e h)];exact e
theorem Same.kbn {d:Addr} {H H1 H2:Hp} (s:Same H H1) (h:H d=none) (k:KB d H1 H2):Same H H2:=fun b o e=>k b o (s b o e) (aj e h)
theorem Same.M' {K:PySem.W.Frag} {H H':Hp} {a:Addr} {xs:List V} (e:Same H H') (h:cH K H a xs):cH K H' a xs:=by
 rcases h with(h | ⟨o,h⟩) | h
 ·exact .inl (.inl (e _ _ h))
 ·exact .inl (.inr ⟨o,e _ _ h⟩)
 ·exact .inr h
def cm (H H':Hp):Prop:=∀b xs,H b=some (.tup xs)→H' b=some (.tup xs)
theorem cm.trans {H H1 H2:Hp} (a:cm H H1) (b:cm H1 H2):cm H H2:=fun c o h=>b c o (a c o h)
theorem Same.kt {H H':Hp} (s:Same H H'):cm H H':=fun b xs h=>s b _ h
theorem cm.lst {H:Hp} {d:Addr} {xs:List V} {o:HO} (h:H d=some (.lst xs)):cm H (upd H d o):=fun b ys e=>by
 rw[aq (jF e h (fun z=>nomatch z))];exact e
theorem cm.kb {d:Addr} {xs:List V} {H H':Hp} (h:H d=some (.lst xs)) (k:KB d H H'):cm H H':=fun b ys e=>k b _ e (jF e h (fun z=>nomatch z))
def fB (H:Hp) (ps:List Addr) (ls:List (List Int)):Prop:=Paired (fun p (l:List Int)=>H p=some (.tup (l.map V.int))) ps ls
theorem fB.keep {H H':Hp} {ps:List Addr} {ls:List (List Int)} (t:fB H ps ls) (k:cm H H'):fB H' ps ls:=Paired.ml t fun _ _ h=>k _ _ h
theorem fB.get {H:Hp}:∀{ps:List Addr} {ls:List (List Int)} {i:Nat} {p:Addr},fB H ps ls→ps[i]? =some p→∃l,ls[i]? =some l∧H p=some (.tup (l.map V.int))
 | _,_,_,_,.nil,e=>by simp at e
 | _,_,0,_,.cons r _,e=>by simp at e;subst e;exact⟨_,rfl,r⟩
 | _,_,i+1,p,.cons _ t,e=>by
  obtain⟨u,h1,h2⟩:=fB.get (i:=i) (p:=p) t (by simpa using e)
  exact⟨u,by simpa using h1,h2⟩
theorem gj {α β:Type} {F:α→β→Prop}:∀{xs ys:List α} {us ws:List β},Paired F xs us→Paired F ys ws→Paired F (xs++ys) (us++ws)
 | _,_,_,_,.nil,s=>s
 | _,_,_,_,.cons r t,s=>.cons r (gj t s)
end L2
namespace L2
open PySem
theorem bo:bootBuiltins "len"=some (.builtin "len"):=by decide+kernel
theorem G4:bootBuiltins "abs"=some (.builtin "abs"):=by decide+kernel
theorem G5:bootBuiltins "sum"=some (.builtin "sum"):=by decide+kernel
theorem G6:bootBuiltins "max"=some (.builtin "max"):=by decide+kernel
theorem iJ:bootBuiltins "isinstance"=some (.builtin "isinstance"):=by decide+kernel
theorem mM:bootBuiltins "sorted"=some (.builtin "sorted"):=by decide+kernel
theorem qE:bootBuiltins "list"=some (.type "list"):=by decide+kernel
theorem cX:bootBuiltins "tuple"=some (.type "tuple"):=by decide+kernel
theorem A0:bootBuiltins "int"=some (.type "int"):=by decide+kernel
theorem qF:bootBuiltins "bool"=some (.type "bool"):=by decide+kernel
theorem yw:bootBuiltins "dict"=some (.type "dict"):=by decide+kernel
theorem G7:bootBuiltins "set"=some (.type "set"):=by decide+kernel
theorem xj:bootBuiltins "reversed"=some (.type "reversed"):=by decide+kernel
end L2
namespace L2
open PySem PySem.Spec PyProof.Rows
def Na (K:PySem.W.Frag):List V→Hp→VK→Prop:=fun xs H Q=>∃x n,xs=[x]∧GD K x H n∧Q (.int n) H
def Nb (K:PySem.W.Frag):List V→Hp→VK→Prop:=fun xs H Q=>∃(a:Addr) (ns:List Int),xs=[.ref a]∧bJ K H a (ns.map V.int)∧Q (.int ns.sum) H
def Nc (K:PySem.W.Frag):List V→Hp→VK→Prop:=fun xs H Q=>∃(x:V) (t:Value) (T:String) (b:Bool),xs=[x,.ty T]∧fz K H x t∧PySem.W.kitOne K t (.type T)=some b∧Q (.bl b) H
section
variable {X:Cx}
theorem aK (K:PySem.W.Frag) (hK:X.K=K:=by rfl):cS X (.builtin "len") (Na K):=by subst hK;exact Ct
theorem A1 (K:PySem.W.Frag) (hc:X.calm=true:=by rfl) (hK:X.K=K:=by rfl):cS X (.builtin "sum") (Nb K):=by subst hK;exact A_ hc
theorem mN (K:PySem.W.Frag) (hK:X.K=K:=by rfl):cS X (.builtin "isinstance") (Nc K):=by subst hK;exact xi
theorem bq (K:PySem.W.Frag) (hK:X.K=K:=by rfl):yo X (GJ K):=by subst hK;exact Ff
theorem aM (K:PySem.W.Frag) (hK:X.K=K:=by rfl):yo X (GK K):=by subst hK;exact GL
theorem oV (K:PySem.W.Frag) (hK:X.K=K:=by rfl):DW X (GO K):=by subst hK;exact Fg
theorem uT (K:PySem.W.Frag) (hK:X.K=K:=by rfl):dk X (compareOp .In) (DX K false):=by subst hK;exact AO
theorem A2 (K:PySem.W.Frag) (hK:X.K=K:=by rfl):dk X (compareOp .NotIn) (DX K true):=by subst hK;exact uG
def G8 (_ j:Int):Prop:=0<j
theorem cpos {i j:Int} (h:0<j):G8 i j:=h
theorem hU:dk X (binaryOp .Mod) (rI G8 fun i j=>.int (i % j)):=mB
end
end L2
namespace L2
theorem jl {t u:TS} {D:Ends} {σ:St} {H:Hp} (Pv:St→Hp→Prop) (h1:∀σ H,Pv σ H→u D σ H) (h2:(∀σ H,Pv σ H→u D σ H)→t {D with nx:=u D} σ H):mx t u D σ H:=h2 h1
end L2
namespace L2
open PySem PySem.Spec PyProof.Rows
inductive Dt where
 | non | bl (b:Bool) | int (i:Int) | str (x:Str) | tup (xs:List Dt) | lst (xs:List Dt)
mutual
def Dt.beq:Dt→Dt→Bool
 | .non,.non=>true
 | .bl a,.bl b=>a == b
 | .bl a,.int b=>(if a then 1 else 0) == b
 | .int a,.bl b=>a == (if b then 1 else 0)
 | .int a,.int b=>a == b
 | .str a,.str b=>a == b
 | .tup xs,.tup ys=>Dt.fC xs ys
 | .lst xs,.lst ys=>Dt.fC xs ys
 | _,_=>false
def Dt.fC:List Dt→List Dt→Bool
 | [],[]=>true
 | x::xs,y::ys=>x.beq y&&Dt.fC xs ys
 | _,_=>false
end
mutual
def Dt.dep:Dt→Nat
 | .tup xs=>Dt.deps xs+1
 | .lst xs=>Dt.deps xs+1
 | _=>0
def Dt.deps:List Dt→Nat
 | []=>0
 | x::xs=>max x.dep (Dt.deps xs)
end
mutual
def az (K:PySem.W.Frag) (H:Hp):V→Dt→Prop
 | x,.non=>x=.non
 | x,.bl b=>x=.bl b
 | x,.int i=>x=.int i
 | x,.str z=>x=.str z
 | x,.tup ds=>∃a xs,x=.ref a∧cH K H a xs∧aP K H xs ds
 | x,.lst ds=>∃a xs,x=.ref a∧bJ K H a xs∧aP K H xs ds
def aP (K:PySem.W.Frag) (H:Hp):List V→List Dt→Prop
 | [],[]=>True
 | x::xs,d::ds=>az K H x d∧aP K H xs ds
 | _,_=>False
end
theorem Dt.beq_refl (d:Dt):d.beq d=true:=by
 induction d using Dt.rec (motive_2:=fun xs=>Dt.fC xs xs=true) with
 | non=>simp[Dt.beq]
 | bl b=>simp[Dt.beq]
 | int b=>simp[Dt.beq]
 | str b=>simp[Dt.beq]
 | tup xs ih=>simp[Dt.beq,ih]
 | lst xs ih=>simp[Dt.beq,ih]
 | nil=>simp[Dt.fC]
 | cons x xs h1 h2=>simp[Dt.fC,h1,h2]
theorem aP.length {K:PySem.W.Frag} {H:Hp}:∀{xs:List V} {ds:List Dt},aP K H xs ds→xs.length=ds.length
 | [],[],_=>rfl
 | [],_::_,h=>by simp[aP] at h
 | _::_,[],h=>by simp[aP] at h
 | x::xs,d::ds,h=>by
  rw[aP] at h
  rw[List.length_cons,List.length_cons,aP.length h.2]
theorem aP.get {K:PySem.W.Frag} {H:Hp}:∀{xs:List V} {ds:List Dt} {i:Nat} {x:V},aP K H xs ds→xs[i]? =some x→∃d,ds[i]? =some d∧az K H x d
 | [],_,_,_,_,e=>by simp at e
 | _::_,[],_,_,h,_=>by simp[aP] at h
 | x::xs,d::ds,0,y,h,e=>by
  rw[aP] at h
  simp at e;subst e
  exact⟨d,rfl,h.1⟩
 | x::xs,d::ds,i+1,y,h,e=>by
  rw[aP] at h
  obtain⟨d',h1,h2⟩:=aP.get (i:=i) (x:=y) h.2 (by simpa using e)
  exact⟨d',by simpa using h1,h2⟩
theorem Dt.gu {d:Dt}:∀{ds:List Dt},d∈ds→d.dep≤Dt.deps ds
 | [],h=>by cases h
 | x::xs,h=>by
  rw[Dt.deps]
  rcases List.mem_cons.mp h with rfl | h
  ·exact Nat.le_max_left ..
  ·exact Nat.le_trans (Dt.gu h) (Nat.le_max_right ..)
def ui (xs ys:List Dt) (j:Nat):Bool:=match xs[j]?,ys[j]? with
 | some x,some y=>x.beq y
 | _,_=>false
theorem qG (n:Nat) (e:Nat→Bool):(List.range (n+1)).all e=(e 0&&(List.range n).all fun j=>e (j+1)):=by
 rw[List.range_succ_eq_map,List.all_cons,List.all_map];rfl
theorem jm:∀(xs ys:List Dt),xs.length=ys.length→(List.range xs.length).all (ui xs ys)=Dt.fC xs ys
 | [],[],_=>by simp[Dt.fC]
 | x::xs,y::ys,h=>by
  have h':xs.length=ys.length:=by simpa using h
  rw[List.length_cons,qG,Dt.fC,←jm xs ys h']
  rfl
theorem jn:∀(xs ys:List Dt),xs.length≠ys.length→Dt.fC xs ys=false
 | [],[],h=>absurd rfl h
 | [],_::_,_=>by simp[Dt.fC]
 | _::_,[],_=>by simp[Dt.fC]
 | x::xs,y::ys,h=>by
  have h':xs.length≠ys.length:=fun z=>h (by simp[z])
  rw[Dt.fC,jn xs ys h',Bool.and_false]
section
variable {X:Cx} {pins:List (Addr×Obj)} {σ:St} {H:Hp} {s:Shared}
theorem km {a:Addr} {xs ys:List V} (I:Inv X pins σ H s) (h1:bJ X.K H a xs) (h2:cH X.K H a ys):False:=by
 obtain⟨its,_,p,_⟩:=I.list h1
 obtain⟨its2,_,q,_⟩:=I.tuple h2
 exact SeqAt.ne_of_list_tuple p.isList (show s.heap.IsTuple a its2.toArray from q) rfl
theorem qH (I:Inv X pins σ H s) (d:Dt):∀(x:V) (d':Dt),az X.K H x d→az X.K H x d'→d=d':=by
 induction d using Dt.rec (motive_2:=fun ds=>∀(xs:List V) (ds':List Dt),aP X.K H xs ds→aP X.K H xs ds'→ds=ds') with
 | non=>intro x d' h h';cases d'<;>simp_all [az]
 | bl b=>intro x d' h h';cases d'<;>simp_all [az]
 | int b=>intro x d' h h';cases d'<;>simp_all [az]
 | str b=>intro x d' h h';cases d'<;>simp_all [az]
 | tup ds ih=>
  intro x d' h h'
  rw[az] at h
  obtain⟨a,xs,rfl,hq,hd⟩:=h
  cases d' with
  | tup ds'=>
   rw[az] at h'
   obtain⟨a',xs',e,hq',hd'⟩:=h'
   cases e
   rw[I.mw hq' hq] at hd'
   rw[ih xs ds' hd hd']
  | lst ds'=>
   rw[az] at h'
   obtain⟨a',xs',e,hq',hd'⟩:=h'
   cases e
   exact(km I hq' hq).elim
  | _=>simp[az] at h'
 | lst ds ih=>
  intro x d' h h'
  rw[az] at h
  obtain⟨a,xs,rfl,hq,hd⟩:=h
  cases d' with
  | lst ds'=>
   rw[az] at h'
   obtain⟨a',xs',e,hq',hd'⟩:=h'
   cases e
   rw[I.oR hq' hq] at hd'
   rw[ih xs ds' hd hd']
  | tup ds'=>
   rw[az] at h'
   obtain⟨a',xs',e,hq',hd'⟩:=h'
   cases e
   exact(km I hq hq').elim
  | _=>simp[az] at h'
 | nil=>
  rename_i xs ds' h h'
  cases xs with
  | nil=>cases ds' with
   | nil=>rfl
   | cons _ _=>simp[aP] at h'
  | cons _ _=>simp[aP] at h
 | cons d ds h1 h2=>
  rename_i xs ds' h h'
  cases xs with
  | nil=>simp[aP] at h
  | cons x xs=>cases ds' with
   | nil=>simp[aP] at h'
   | cons d' ds'=>
    rw[aP] at h h'
    rw[h1 x d' h.1 h'.1,h2 xs ds' h.2 h'.2]
theorem kY {A:Around} {xs ys:List V} {ds ds':List Dt} {its its2:List Value} (r1:Vals xs its) (r2:Vals ys its2) (h1:aP X.K H xs ds) (h2:aP X.K H ys ds')
  (ih:∀d∈ds,∀(d':Dt) (x y:V) (u v:Value),az X.K H x d→az X.K H y d'→RelV x u→RelV y v→SeqAt.EqAt A s u v (d.beq d')):
  ∀j (a:j<its.toArray.size) (b:j<its2.toArray.size),SeqAt.EqAt A s its.toArray[j] its2.toArray[j] (ui ds ds' j):=fun j a b=>by
 have a':j<its.length:=by simpa using a
 have b':j<its2.length:=by simpa using b
 have la:=r1.length
 have lb:=r2.length
 have ex:xs[j]? =some (xs[j]'(by omega)):=List.getElem?_eq_getElem (by omega)
 have ey:ys[j]? =some (ys[j]'(by omega)):=List.getElem?_eq_getElem (by omega)
 obtain⟨u,eu,ru⟩:=r1.get ex
 obtain⟨v,ev,rv⟩:=r2.get ey
 obtain⟨d,ed,hd⟩:=h1.get ex
 obtain⟨d',ed',hd'⟩:=h2.get ey
 have e1:its.toArray[j]=u:=by
  rw[List.getElem?_eq_getElem a'] at eu
  simpa using Option.some.inj eu
 have e2:its2.toArray[j]=v:=by
  rw[List.getElem?_eq_getElem b'] at ev
  simpa using Option.some.inj ev
 rw[e1,e2]
 have e3:ui ds ds' j=d.beq d':=by unfold ui;rw[ed,ed']
 rw[e3]
 exact ih d (List.mem_of_getElem? ed) d' _ _ u v hd hd' ru rv
theorem uV {A:Around} {a b:Addr} {xs ys:List V} {ds ds':List Dt} (I:Inv X pins σ H s) (q1:bJ X.K H a xs) (q2:bJ X.K H b ys) (h1:aP X.K H xs ds) (h2:aP X.K H ys ds') (hu:A.units<cLine)
  (ih:∀d∈ds,∀(d':Dt) (x y:V) (u v:Value),az X.K H x d→az X.K H y d'→RelV x u→RelV y v→SeqAt.EqAt A.in1 s u v (d.beq d')):SeqAt.RcAt A s (.ref a) (.ref b) (Dt.fC ds ds'):=by
 obtain⟨its,r1,p1,_⟩:=I.list q1
 obtain⟨its2,r2,p2,_⟩:=I.list q2
 have l1:=r1.length
 have l2:=r2.length
 have l3:=h1.length
 have l4:=h2.length
 by_cases hl:ds.length=ds'.length
 ·have:=SeqAt.RcAt.lists p1.isList p2.isList (by simp;omega) hu (kY r1 r2 h1 h2 ih)
  rw[show its.toArray.size=ds.length by simp;omega,jm ds ds' hl] at this
  exact this
 ·rw[jn ds ds' hl]
  exact SeqAt.RcAt.lists_lengths p1.isList p2.isList (by simp;omega) hu
theorem rR {A:Around} {a b:Addr} {xs ys:List V} {ds ds':List Dt} (I:Inv X pins σ H s) (q1:cH X.K H a xs) (q2:cH X.K H b ys) (h1:aP X.K H xs ds) (h2:aP X.K H ys ds') (hu:A.units<cLine)
  (ih:∀d∈ds,∀(d':Dt) (x y:V) (u v:Value),az X.K H x d→az X.K H y d'→RelV x u→RelV y v→SeqAt.EqAt A.in1 s u v (d.beq d')):SeqAt.RcAt A s (.ref a) (.ref b) (Dt.fC ds ds'):=by
 obtain⟨its,r1,p1,_⟩:=I.tuple q1
 obtain⟨its2,r2,p2,_⟩:=I.tuple q2
 have l1:=r1.length
 have l2:=r2.length
 have l3:=h1.length
 have l4:=h2.length
 have:=SeqAt.RcAt.tuples (show s.heap.IsTuple a its.toArray from p1) (show s.heap.IsTuple b its2.toArray from p2) hu (kY r1 r2 h1 h2 ih)
 by_cases hl:ds.length=ds'.length
 ·rw[show min its.toArray.size its2.toArray.size=ds.length by simp;omega,jm ds ds' hl,show(its.toArray.size == its2.toArray.size)=true by simp;omega,Bool.and_true] at this
  exact this
 ·rw[show(its.toArray.size == its2.toArray.size)=false by simp;omega,Bool.and_false] at this
  rw[jn ds ds' hl]
  exact this
theorem kZ (I:Inv X pins σ H s) (d:Dt):∀(A:Around) (d':Dt) (x y:V) (u v:Value),A.units+d.dep<cLine→az X.K H x d→az X.K H y d'→RelV x u→RelV y v→SeqAt.EqAt A s u v (d.beq d'):=by
 have flat:∀{A:Around} {d d':Dt} {x y:V} {u v:Value},gi x=true→gi y=true→jI x y=d.beq d'→RelV x u→RelV y v→SeqAt.EqAt A s u v (d.beq d'):=fun fx fy e ru rv=>e▸AL ru rv fx fy
 have yx:∀{a:Addr} {xs:List V},bJ X.K H a xs→∃its:Array Value,s.heap.IsList a its:=fun q=>let ⟨its,_,p,_⟩:=I.list q;⟨_,p.isList⟩
 have yy:∀{a:Addr} {xs:List V},cH X.K H a xs→∃its:Array Value,s.heap.IsTuple a its:=fun q=>let ⟨its,_,p,_⟩:=I.tuple q;⟨_,p⟩
 have refs:∀{A:Around} {a b:Addr} {d d':Dt},az X.K H (.ref a) d→az X.K H (.ref b) d'→SeqAt.RcAt A s (.ref a) (.ref b) (d.beq d')→SeqAt.EqAt A s (.ref a) (.ref b) (d.beq d'):=by
  intro A a b d d' h h' r
  by_cases e:a=b
  ·subst e
   rw[←qH I d _ _ h h',Dt.beq_refl]
   exact SeqAt.EqAt.same _
  ·exact SeqAt.EqAt.of_refs e r
 induction d using Dt.rec (motive_2:=fun ds=>∀d∈ds,∀(A:Around) (d':Dt) (x y:V) (u v:Value),A.units+d.dep<cLine→az X.K H x d→az X.K H y d'→RelV x u→RelV y v→SeqAt.EqAt A s u v (d.beq d')) with
 | non=>
  intro A d' x y u v hu h h' ru rv
  rw[az] at h
  subst h
  have hu':A.units<cLine:=by omega
  cases d' with
  | tup ds'=>
   rw[az] at h';obtain⟨b,ys,rfl,q,_⟩:=h'
   cases ru;cases rv
   obtain⟨its,p⟩:=yy q
   exact SeqAt.EqAt.none_tuple p hu'
  | lst ds'=>
   rw[az] at h';obtain⟨b,ys,rfl,q,_⟩:=h'
   cases ru;cases rv
   obtain⟨its,p⟩:=yx q
   exact SeqAt.EqAt.none_list p hu'
  | _=>rw[az] at h';subst h';exact flat rfl rfl (by simp[Dt.beq,jI]) ru rv
 | bl b0=>
  intro A d' x y u v hu h h' ru rv
  rw[az] at h
  subst h
  have hu':A.units<cLine:=by omega
  cases d' with
  | tup ds'=>
   rw[az] at h';obtain⟨b,ys,rfl,q,_⟩:=h'
   cases ru;cases rv
   obtain⟨its,p⟩:=yy q
   exact SeqAt.EqAt.bool_tuple _ p hu'
  | lst ds'=>
   rw[az] at h';obtain⟨b,ys,rfl,q,_⟩:=h'
   cases ru;cases rv
   obtain⟨its,p⟩:=yx q
   exact SeqAt.EqAt.bool_list _ p hu'
  | _=>rw[az] at h';subst h';exact flat rfl rfl (by simp[Dt.beq,jI]) ru rv
 | int i0=>
  intro A d' x y u v hu h h' ru rv
  rw[az] at h
  subst h
  have hu':A.units<cLine:=by omega
  cases d' with
  | tup ds'=>
   rw[az] at h';obtain⟨b,ys,rfl,q,_⟩:=h'
   obtain⟨t,rfl⟩:=ru;cases rv
   obtain⟨its,p⟩:=yy q
   exact SeqAt.EqAt.int_tuple _ _ p hu'
  | lst ds'=>
   rw[az] at h';obtain⟨b,ys,rfl,q,_⟩:=h'
   obtain⟨t,rfl⟩:=ru;cases rv
   obtain⟨its,p⟩:=yx q
   exact SeqAt.EqAt.int_list _ _ p hu'
  | _=>rw[az] at h';subst h';exact flat rfl rfl (by simp[Dt.beq,jI]) ru rv
 | str z0=>
  intro A d' x y u v hu h h' ru rv
  rw[az] at h
  subst h
  have hu':A.units<cLine:=by omega
  cases d' with
  | tup ds'=>
   rw[az] at h';obtain⟨b,ys,rfl,q,_⟩:=h'
   obtain⟨t,rfl⟩:=ru;cases rv
   obtain⟨its,p⟩:=yy q
   exact SeqAt.EqAt.str_tuple _ _ p hu'
  | lst ds'=>
   rw[az] at h';obtain⟨b,ys,rfl,q,_⟩:=h'
   obtain⟨t,rfl⟩:=ru;cases rv
   obtain⟨its,p⟩:=yx q
   exact SeqAt.EqAt.str_list _ _ p hu'
  | _=>rw[az] at h';subst h';exact flat rfl rfl (by simp[Dt.beq,jI]) ru rv
 | tup ds ih=>
  intro A d' x y u v hu h h' ru rv
  have hD:=h
  have hD':=h'
  rw[az] at h
  obtain⟨a,xs,rfl,q,hd⟩:=h
  cases ru
  obtain⟨its,p⟩:=yy q
  have hu':A.units<cLine:=by omega
  cases d' with
  | non=>rw[az] at h';subst h';cases rv;exact SeqAt.EqAt.tuple_none p hu'
  | bl b=>rw[az] at h';subst h';cases rv;exact SeqAt.EqAt.tuple_bool _ p hu'
  | int b=>rw[az] at h';subst h';obtain⟨t,rfl⟩:=rv;exact SeqAt.EqAt.tuple_int _ _ p hu'
  | str b=>rw[az] at h';subst h';obtain⟨t,rfl⟩:=rv;exact SeqAt.EqAt.tuple_str _ _ p hu'
  | lst ds'=>
   rw[az] at h';obtain⟨b,ys,rfl,q',_⟩:=h'
   cases rv
   obtain⟨its2,p2⟩:=yx q'
   exact SeqAt.EqAt.tuple_list p p2 hu'
  | tup ds'=>
   rw[az] at h';obtain⟨b,ys,rfl,q',hd'⟩:=h'
   cases rv
   refine refs hD hD' ?_
   have:=rR (A:=A) I q q' hd hd' hu' fun d hm d' x y u v h1 h2 r1 r2=>ih d hm A.in1 d' x y u v (by
    have:=Dt.gu hm
    rw[Dt.dep] at hu
    show A.units+1+d.dep<cLine
    omega) h1 h2 r1 r2
   simpa[Dt.beq] using this
 | lst ds ih=>
  intro A d' x y u v hu h h' ru rv
  have hD:=h
  have hD':=h'
  rw[az] at h
  obtain⟨a,xs,rfl,q,hd⟩:=h
  cases ru
  obtain⟨its,p⟩:=yx q
  have hu':A.units<cLine:=by omega
  cases d' with
  | non=>rw[az] at h';subst h';cases rv;exact SeqAt.EqAt.list_none p hu'
  | bl b=>rw[az] at h';subst h';cases rv;exact SeqAt.EqAt.list_bool _ p hu'
  | int b=>rw[az] at h';subst h';obtain⟨t,rfl⟩:=rv;exact SeqAt.EqAt.list_int _ _ p hu'
  | str b=>rw[az] at h';subst h';obtain⟨t,rfl⟩:=rv;exact SeqAt.EqAt.list_str _ _ p hu'
  | tup ds'=>
   rw[az] at h';obtain⟨b,ys,rfl,q',_⟩:=h'
   cases rv
   obtain⟨its2,p2⟩:=yy q'
   exact SeqAt.EqAt.list_tuple p p2 hu'
  | lst ds'=>
   rw[az] at h';obtain⟨b,ys,rfl,q',hd'⟩:=h'
   cases rv
   refine refs hD hD' ?_
   have:=uV (A:=A) I q q' hd hd' hu' fun d hm d' x y u v h1 h2 r1 r2=>ih d hm A.in1 d' x y u v (by
    have:=Dt.gu hm
    rw[Dt.dep] at hu
    show A.units+1+d.dep<cLine
    omega) h1 h2 r1 r2
   simpa[Dt.beq] using this
 | nil=>
  rename_i d hd A d' x y u v a1 a2 a3 a4 a5
  cases hd
 | cons d ds h1 h2=>
  rename_i d0 hd A d' x y u v a1 a2 a3 a4 a5
  rcases List.mem_cons.mp hd with e | hd
  ·subst e;exact h1 A d' x y u v a1 a2 a3 a4 a5
  ·exact h2 d0 hd A d' x y u v a1 a2 a3 a4 a5
def Dt.G9:Dt→Bool
 | .tup _=>true
 | .lst _=>true
 | _=>false
def G' (K:PySem.W.Frag) (neg:Bool):R2:=fun x y H Q=>∃d d':Dt,az K H x d∧az K H y d'∧d.G9=true∧d'.G9=true∧d.dep≤40∧Q (.bl (if neg then !d.beq d' else d.beq d')) H
theorem Hh (K:PySem.W.Frag) (hu:X.A.units+64<cLine) (hK:X.K=K:=by rfl):dk X (compareOp .Eq) (G' K false):=by
 subst hK
 intro pins s σ H x y v u Q I rx ry h
 obtain⟨d,d',h,h',sq,Hj,hd,q⟩:=h
 have hA:∀e:Dt,e.dep≤40→X.A.in1.units+e.dep<cLine:=fun e he=>by show X.A.units+1+e.dep<cLine;omega
 have hu':X.A.units<cLine:=by omega
 cases d with
 | tup ds=>
  rw[az] at h
  obtain⟨a,xs,rfl,q1,hd1⟩:=h
  cases rx
  have ih:∀d∈ds,∀(d':Dt) (x y:V) (u v:Value),az X.K H x d→az X.K H y d'→RelV x u→RelV y v→SeqAt.EqAt X.A.in1 s u v (d.beq d'):=fun d hm d' x y u v h1 h2 r1 r2=>
   kZ I d X.A.in1 d' x y u v (hA d (by have:=Dt.gu hm;rw[Dt.dep] at hd;omega)) h1 h2 r1 r2
  cases d' with
  | tup ds'=>
   rw[az] at h'
   obtain⟨b,ys,rfl,q2,hd2⟩:=h'
   cases ry
   exact rR I q1 q2 hd1 hd2 hu' ih _ _ _ _ ⟨.bl _,H,I,rfl,by simpa[Dt.beq] using q⟩
  | lst ds'=>
   rw[az] at h'
   obtain⟨b,ys,rfl,q2,hd2⟩:=h'
   cases ry
   obtain⟨its,_,p,_⟩:=I.tuple q1
   obtain⟨its2,_,p2,_⟩:=I.list q2
   exact SeqAt.RcAt.tuple_list (show s.heap.IsTuple a its.toArray from p) p2.isList hu' _ _ _ _ ⟨.bl _,H,I,rfl,by simpa[Dt.beq] using q⟩
  | _=>cases Hj
 | lst ds=>
  rw[az] at h
  obtain⟨a,xs,rfl,q1,hd1⟩:=h
  cases rx
  have ih:∀d∈ds,∀(d':Dt) (x y:V) (u v:Value),az X.K H x d→az X.K H y d'→RelV x u→RelV y v→SeqAt.EqAt X.A.in1 s u v (d.beq d'):=fun d hm d' x y u v h1 h2 r1 r2=>
   kZ I d X.A.in1 d' x y u v (hA d (by have:=Dt.gu hm;rw[Dt.dep] at hd;omega)) h1 h2 r1 r2
  cases d' with
  | lst ds'=>
   rw[az] at h'
   obtain⟨b,ys,rfl,q2,hd2⟩:=h'
   cases ry
   exact uV I q1 q2 hd1 hd2 hu' ih _ _ _ _ ⟨.bl _,H,I,rfl,by simpa[Dt.beq] using q⟩
  | tup ds'=>
   rw[az] at h'
   obtain⟨b,ys,rfl,q2,hd2⟩:=h'
   cases ry
   obtain⟨its,_,p,_⟩:=I.list q1
   obtain⟨its2,_,p2,_⟩:=I.tuple q2
   exact SeqAt.RcAt.list_tuple p.isList (show s.heap.IsTuple b its2.toArray from p2) hu' _ _ _ _ ⟨.bl _,H,I,rfl,by simpa[Dt.beq] using q⟩
  | _=>cases Hj
 | _=>cases sq
theorem Hk (K:PySem.W.Frag) (hu:X.A.units+64<cLine) (hK:X.K=K:=by rfl):dk X (compareOp .NotEq) (fun x y H Q=>G' K true x y H Q∧∃d d':Dt,az K H x d∧az K H y d'∧((∃ds ds',d=.tup ds∧d'=.tup ds')∨∃ds ds',d=.lst ds∧d'=.lst ds')):=by
 subst hK
 intro pins s σ H x y v u Q I rx ry h
 obtain⟨⟨d,d',h,h',sq,Hj,hd,q⟩,e,e',g,g',hk⟩:=h
 have e1:=qH I d x e h g
 have e2:=qH I d' y e' h' g'
 subst e1 e2
 have hA:∀e:Dt,e.dep≤40→X.A.in1.units+e.dep<cLine:=fun e he=>by show X.A.units+1+e.dep<cLine;omega
 have hu':X.A.units<cLine:=by omega
 rcases hk with⟨ds,ds',rfl,rfl⟩ | ⟨ds,ds',rfl,rfl⟩
 ·rw[az] at h h'
  obtain⟨a,xs,rfl,q1,h1⟩:=h
  obtain⟨b,ys,rfl,q2,h2⟩:=h'
  cases rx
  cases ry
  have ih:∀d∈ds,∀(d':Dt) (x y:V) (u v:Value),az X.K H x d→az X.K H y d'→RelV x u→RelV y v→SeqAt.EqAt X.A.in1 s u v (d.beq d'):=fun d hm d' x y u v h1 h2 r1 r2=>
   kZ I d X.A.in1 d' x y u v (hA d (by have:=Dt.gu hm;rw[Dt.dep] at hd;omega)) h1 h2 r1 r2
  obtain⟨its,r1,p1,_⟩:=I.tuple q1
  obtain⟨its2,r2,p2,_⟩:=I.tuple q2
  have l1:=r1.length
  have l2:=r2.length
  have l3:=h1.length
  have l4:=h2.length
  have z:=SeqAt.RcNeAt.tuples (show s.heap.IsTuple a its.toArray from p1) (show s.heap.IsTuple b its2.toArray from p2) hu' (kY r1 r2 h1 h2 ih)
  have fin:SeqAt.RcNeAt X.A s (.ref a) (.ref b) (!Dt.fC ds ds'):=by
   by_cases hl:ds.length=ds'.length
   ·rw[show min its.toArray.size its2.toArray.size=ds.length by simp;omega,jm ds ds' hl,show(its.toArray.size == its2.toArray.size)=true by simp;omega,Bool.and_true] at z
    exact z
   ·rw[show(its.toArray.size == its2.toArray.size)=false by simp;omega,Bool.and_false] at z
    rw[jn ds ds' hl]
    exact z
  exact fin _ _ _ _ ⟨.bl _,H,I,rfl,by simpa[Dt.beq] using q⟩
 ·rw[az] at h h'
  obtain⟨a,xs,rfl,q1,h1⟩:=h
  obtain⟨b,ys,rfl,q2,h2⟩:=h'
  cases rx
  cases ry
  have ih:∀d∈ds,∀(d':Dt) (x y:V) (u v:Value),az X.K H x d→az X.K H y d'→RelV x u→RelV y v→SeqAt.EqAt X.A.in1 s u v (d.beq d'):=fun d hm d' x y u v h1 h2 r1 r2=>
   kZ I d X.A.in1 d' x y u v (hA d (by have:=Dt.gu hm;rw[Dt.dep] at hd;omega)) h1 h2 r1 r2
  obtain⟨its,r1,p1,_⟩:=I.list q1
  obtain⟨its2,r2,p2,_⟩:=I.list q2
  have l1:=r1.length
  have l2:=r2.length
  have l3:=h1.length
  have l4:=h2.length
  have fin:SeqAt.RcNeAt X.A s (.ref a) (.ref b) (!Dt.fC ds ds'):=by
   by_cases hl:ds.length=ds'.length
   ·have z:=SeqAt.RcNeAt.lists p1.isList p2.isList (by simp;omega) hu' (kY r1 r2 h1 h2 ih)
    rw[show its.toArray.size=ds.length by simp;omega,jm ds ds' hl] at z
    exact z
   ·rw[jn ds ds' hl]
    exact SeqAt.RcNeAt.lists_lengths p1.isList p2.isList (by simp;omega) hu'
  exact fin _ _ _ _ ⟨.bl _,H,I,rfl,by simpa[Dt.beq] using q⟩
end
theorem rV {K:PySem.W.Frag} {H:Hp}:∀(ns:List Int),aP K H (ns.map V.int) (ns.map Dt.int)
 | []=>by simp[aP]
 | n::ns=>by rw[List.map_cons,List.map_cons,aP];exact⟨by rw[az],rV ns⟩
theorem rW:∀(ns:List Int),Dt.deps (ns.map Dt.int)=0
 | []=>by simp[Dt.deps]
 | n::ns=>by rw[List.map_cons,Dt.deps,rW ns];simp[Dt.dep]
section
variable {X:Cx}
def Ku (K:PySem.W.Frag):List V→Hp→VK→Prop:=fun xs H Q=>∃(p:Addr) (ys:List V),xs=[.ref p]∧(bJ K H p ys∨cH K H p ys)∧∀l,H l=none→Q (.ref l) (upd H l (.lst ys))
theorem zC (K:PySem.W.Frag) (hK:X.K=K:=by rfl):cS X (.type "list") (Ku K):=by subst hK;exact uH
def Hl (K:PySem.W.Frag):List V→Hp→VK→Prop:=fun xs H Q=>∃(p:Addr) (ys:List V),xs=[.ref p]∧((bJ K H p ys∧∀l,H l=none→Q (.ref l) (upd H l (.tup ys)))∨(cH K H p ys∧Q (.ref p) H))
theorem cv (K:PySem.W.Frag) (hK:X.K=K:=by rfl):cS X (.type "tuple") (Hl K):=by subst hK;exact tP
def bT (H:Hp) (d:Addr):Prop:=∃ms:List Int,H d=some (.lst (ms.map V.int))∧ms≠[]∧∀m∈ms,0≤m
theorem bT.same {H H':Hp} {d:Addr} (h:bT H d) (s:Same H H'):bT H' d:=let ⟨ms,a,b,c⟩:=h;⟨ms,s _ _ a,b,c⟩
end
end L2
namespace L2
open PySem
theorem Fp {ns:List Int} {i:Nat} {x:V} (h:(ns.map V.int)[i]? =some x):∃f,x=.int f∧ns[i]? =some f:=by
 rw[List.getElem?_map] at h
 cases e:ns[i]? with
 | none=>rw[e] at h;cases h
 | some f=>rw[e] at h;exact⟨f,(Option.some.inj h).symm,rfl⟩
end L2
namespace L2
open PySem PySem.Spec PyProof.Rows
theorem pU {ys:List Str}:∀{us:List Value},Vals (ys.map V.str) us→StrsAre us ys:=by
 induction ys with
 | nil=>intro us r;cases r;exact .nil
 | cons y ys ih=>
  intro us r
  rw[List.map_cons] at r
  cases r with
  | cons a b=>
   obtain⟨t,rfl⟩:=a
   exact .cons y t (ih b)
theorem rX:∀{us:List Value} {ys:List Str},StrsAre us ys→Vals (ys.map V.str) us
 | _,_,.nil=>.nil
 | _,_,.cons y t r=>.cons ⟨t,rfl⟩ (rX r)
theorem CF (sep:Str) (ys:List Str) (h:(ys.map (·.length)).sum+ys.length*sep.length≤16777216):(Txt.join sep ys).length≤sizeLine:=by
 have hok:=joinOk_of h
 unfold JoinOk at hok
 rw[Bool.not_eq_true'] at hok
 have e:ys=(ys.map fun y=>(y,(0:Tok))).map (·.1):=by rw[List.map_map];exact(List.map_id ys).symm
 rw[e] at hok ⊢
 exact joinFit_length hok
section
variable {X:Cx}
def rJoin (K:PySem.W.Frag):V→List V→Hp→VK→Prop:=fun x vs H Q=>∃(sep:Str) (a:Addr) (ys:List Str),x=.str sep∧vs=[.ref a]∧bJ K H a (ys.map V.str)∧(ys.map (·.length)).sum+ys.length*sep.length≤16777216∧∀z:Str,z.length≤sizeLine→z=Txt.join sep ys→Q (.str z) H
theorem CG (K:PySem.W.Frag) (hK:X.K=K:=by rfl):yp X "str.join" (rJoin K):=by
 subst hK
 intro pins s σ H x vs v us Q I rx rv h
 obtain⟨sep,a,ys,rfl,rfl,hq,hz,q⟩:=h
 obtain⟨t,rfl⟩:=rx
 obtain⟨u,rfl,ru⟩:=rv.one
 cases ru
 obtain⟨its,r,p,_⟩:=I.list hq
 exact join_list p.isList (show StrsAre its.toArray.toList ys from pU r) hz fun t' k=>⟨.str _,H,I.tok k,⟨t',rfl⟩,q _ (CF sep ys hz) rfl⟩
def Hm (K:PySem.W.Frag):List V→Hp→VK→Prop:=fun xs H Q=>∃(a:Addr) (ss:List Str),xs=[.ref a]∧bJ K H a (ss.map V.str)∧ss.length<64∧
 ∀(p:Addr) (ss':List Str),H p=none→ss'.Perm ss→PyProof.Rows.sortedS ss'=true→Q (.ref p) (upd H p (.lst (ss'.map V.str)))
theorem xk (K:PySem.W.Frag) (hK:X.K=K:=by rfl):cS X (.builtin "sorted") (Hm K):=by
 subst hK
 intro pins s σ H xs us Q I r h
 obtain⟨a,ss,rfl,hq,hl,q⟩:=h
 obtain⟨u,rfl,ru⟩:=vals1 r
 cases ru
 obtain⟨its,rv,p,hz⟩:=I.list hq
 have hlen:=rv.length
 rw[List.length_map] at hlen
 refine sorted_strs p.isList (pU rv) (by omega) fun out ss' a1 a2 a3=>?_
 obtain⟨e,he⟩:=sortedAll_at s.heap its out
 have hp:s.heap.objs.size≤s.heap.objs.size+1:=Nat.le_succ _
 refine⟨.ref (s.heap.objs.size+1),upd H (s.heap.objs.size+1) (.lst (ss'.map V.str)),?_,rfl,q _ ss' (I.hok.fresh hp) a2 a3⟩
 refine I.laid (t':=s.toks) (h':=sortedAll s.heap its out) (fun _ _=>sortedAll_old) hp ⟨?_,out.toList,e,rX a1,?_⟩
 ·rw[List.length_map,a2.length_eq]
  rw[List.length_map] at hz
  exact hz
 ·rw[he]
  first
   | done
   | rfl
def Nd:V→Option Int→Option Int→Hp→VK→Prop:=fun x lo hi H Q=>∃z:Str,x=.str z∧z.length≤sizeLine∧Q (.str (Txt.slice z lo hi)) H
theorem oy {v:Value} {o:Option Int} (p:IsPart v o):∃l:Option (Int×Tok),v=partValue l∧l.map (·.1)=o:=by
 cases p with
 | none=>exact⟨none,rfl,rfl⟩
 | int i t=>exact⟨some (i,t),rfl,rfl⟩
theorem Hn:DW X Nd:=by
 intro pins s σ H x v vl vu lo hi sl Q I rx hs pl pu h
 obtain⟨z,rfl,hz,q⟩:=h
 obtain⟨t,rfl⟩:=rx
 obtain⟨l,rfl,hl⟩:=oy pl
 obtain⟨u,rfl,hu⟩:=oy pu
 subst hl hu
 obtain⟨o,ho,hc,hd⟩:=hs
 refine⟨"str",_,PySem.F.slot_str_getitem.lookup,typeIs_str _ _ _,wpAny_getItem_str_slice (l:=l) (u:=u) (st:=none) ⟨o,ho,hc,hd⟩ rfl ?_⟩
 exact post_val_or_str ⟨Nat.le_trans (Txt.slice_le z _ _) hz,fun t' k=>⟨.str _,H,I.tok k,⟨t',rfl⟩,q⟩⟩
theorem ko (K:PySem.W.Frag) {es:List Expr} {k:Nat} {t:rC} {n:Nat} {pos:Pos} (hc:X.calm=true) (h:Aw X es t)
  (hn:(assignEach es X.env).length=n:=by rfl) (hst:(assignEach es X.env).findIdx? (·.1)=none:=by rfl) (hK:X.K=K:=by rfl):PG X (.Tuple es k pos) (Cm K n t):=by
 subst hK;exact my hc h hn hst
end
mutual
def Dt.Qy:Dt→Bool
 | .lst _=>false
 | .tup xs=>Dt.Ho xs
 | _=>true
def Dt.Ho:List Dt→Bool
 | []=>true
 | x::xs=>x.Qy&&Dt.Ho xs
end
theorem Fq {K:PySem.W.Frag} {H:Hp} {z:Str}:az K H (.str z) (.str z):=by rw[az]
theorem fP {K:PySem.W.Frag} {H:Hp} {a:Addr} {xs:List V} {ds:List Dt} (h:cH K H a xs) (d:aP K H xs ds):az K H (.ref a) (.tup ds):=by rw[az];exact⟨a,xs,rfl,h,d⟩
theorem k_ {K:PySem.W.Frag} {H:Hp}:aP K H [] []:=by simp[aP]
theorem gD {K:PySem.W.Frag} {H:Hp} {x:V} {xs:List V} {d:Dt} {ds:List Dt} (h:az K H x d) (t:aP K H xs ds):aP K H (x::xs) (d::ds):=by rw[aP];exact⟨h,t⟩
end L2
namespace L2
open PySem
def mO (d e:Addr) (H H':Hp):Prop:=∀b o,H b=some o→b≠d→b≠e→H' b=some o
theorem mO.trans {d e:Addr} {H H1 H2:Hp} (a:mO d e H H1) (b:mO d e H1 H2):mO d e H H2:=fun c o h n m=>b c o (a c o h n m) n m
end L2
namespace L2
open PySem PySem.Spec PyProof.Rows
theorem CH:typeLookup (.type "list_reverseiterator") "__len__"=pure none:=by rw[typeLookup_type,builtinLookup_eq_fast];kernel_rfl
theorem Fs:typeLookup (.type "list_reverseiterator") "__length_hint__"=pure (some (.builtin "list_reverseiterator.__length_hint__")):=by rw[typeLookup_type,builtinLookup_eq_fast];kernel_rfl
section
variable {prog:Program} {w:World} {A:Around} {s:Shared} {R:Result→Shared→Prop}
theorem zD {I l S:Addr} {its:Array Value} {res:Value} {c0:Nat} (hh:A.handled=none) (hlI:l≠I) (hSI:S≠I) (hSl:S≠l) (hit:s.heap.IsRevIter I l ((its.size:Int)-1)) (hl:s.heap.IsList l its) (hz:its.size≤sizeLine)
  (hS:s.heap.get? S=some {cls:=.type "list",data:=.seq #[] c0})
  (hR:∀h' tk acc c,(∀b o,b≠S→b≠I→s.heap.get? b=some o→h'.get? b=some o)→h'.get? S=some {cls:=.type "list",dict:=none,data:=.seq acc c,slots:= #[]}→ItemsOf (fun i v=>its[its.size-1-i]? =some v) acc its.size→
   R (.ok (.ret res)) {s with heap:=h',toks:=tk}):
  wpAny (model prog w) A.in1 (Builtin.List.listExtendWith (.ref S) (.ref I) res) (fun fin s'=>match fin with | .done f=>R (.ok f) s' | .again c'=>c'.quiet=true∧codeAny (model prog w) A c' R s') (fun e s'=>R (.error e) s') s:=by
 have hSf:S ∉ [I,l]:=fun hm=>by
  rcases List.mem_cons.mp hm with z | z
  ·exact hSI z
  ·exact hSl (List.mem_singleton.mp z)
 have W:=(Walks.listRev (prog:=prog) (w:=w) (A:=A.in1) hh I l hlI its).toS
 unfold Builtin.List.listExtendWith
 (refine wpAny_bind (wpAny_typeOf hit.typeIs ?_))
 have g1:Builtin.List.listSameRef (.ref S) (.ref I)=false:=by simp[Builtin.List.listSameRef,hSI]
 rw[if_neg (by rw[g1];decide)];refine wpAny_bind (wpAny_pyIter_revIter hit ?_)
 (refine wpAny_bind (wpAny_holding ?_));unfold Builtin.List.listLengthHint
 refine wpAny_bind (wpAny_specialOf hit.typeIs CH ?_)
 show wpAny _ A.in1 (specialOf (Value.ref I) (Str.ofString "__length_hint__") >>= _) _ _ s
 refine wpAny_bind (wpAny_specialOf hit.typeIs Fs ?_)
 generalize hid:("list_reverseiterator.__length_hint__":String)=id0
 wp_delta
 rw[show splitId id0=some ("list_reverseiterator","__length_hint__") from by subst hid;decide+kernel];subst hid
 refine wpAny_bind (wpAny_isInstance (T:="list_reverseiterator") (b:=true) hit.typeIs (by rw[isSubtype_type];kernel_rfl) ?_)
 (refine wpAny_pure ?_);rw[if_neg (by decide)]
 refine wpAny_pure ⟨plainId_quiet F.plain_extend_loop _,codeAny_extend_loopS W hz S hSf res its.size 0 s _ c0 rfl (Nat.zero_le _) ⟨Nat.zero_le _,by simpa using hit,hl⟩ hS (ItemsOf.nil _) fun s' acc c hm hS' ha=>?_⟩
 rw[Moved.eq_with hm]
 refine hR s'.heap s'.toks acc c (fun b o hb hb' e=>hm.heap b o (fun z=>?_) e) hS' ha
 rcases List.mem_cons.mp z with z | z
 ·exact hb z
 ·exact hb' (List.mem_singleton.mp z)
end
section
variable {prog:Program} {w:World} {A:Around} {E:Value→Shared→Prop} {s:Shared}
theorem tQ {Q:Value→Shared→Prop} {I l:Addr} {its:Array Value} (hh:A.handled=none) (hlI:l≠I) (hit:s.heap.IsRevIter I l ((its.size:Int)-1)) (hl:s.heap.IsList l its) (hz:its.size≤sizeLine)
  (hQ:∀h' tk acc c,(∀b o,b≠I→s.heap.get? b=some o→h'.get? b=some o)→h'.get? s.heap.objs.size=some {cls:=.type "list",dict:=none,data:=.seq acc c,slots:= #[]}→ItemsOf (fun i v=>its[its.size-1-i]? =some v) acc its.size→
   Q (.ref s.heap.objs.size) {s with heap:=h',toks:=tk}):wpAny (model prog w) A (call (.type "list") [.ref I]) Q E s:=by
 have bI:I<s.heap.objs.size:=by obtain⟨o,e,_⟩:=hit;exact Heap.lt_size e
 have bl:l<s.heap.objs.size:=by obtain⟨o,e,_⟩:=hl;exact Heap.lt_size e
 refine callType_codes (Q₁:=fun obj s1=>obj=.ref s.heap.objs.size∧s1={s with heap:=s.heap.push {cls:=.type "list",data:=.seq #[]}}) F.called_list (F.typeCall_list_1 _) F.entry_list_init (code_list_new _ ⟨rfl,rfl⟩) fun obj s1 e1=>?_
 obtain⟨rfl,rfl⟩:=e1
 have hS:(s.heap.push {cls:=.type "list",data:=.seq #[]}).get? s.heap.objs.size=some {cls:=.type "list",data:=.seq #[]}:=Heap.get?_push_size _ rfl
 have old:∀b o,s.heap.get? b=some o→b≠s.heap.objs.size:=fun b o e=>Nat.ne_of_lt (Heap.lt_size e)
 refine⟨⟨_,hS,rfl⟩,F.args_list_init_2 _ _,?_⟩
 show wpAny _ _ (do let old ←Builtin.List.listItems (.ref s.heap.objs.size);Builtin.List.listUpdate (.ref s.heap.objs.size) (fun _=> #[]);letGo old.toList.reverse;Builtin.List.listExtendWith (.ref s.heap.objs.size) (.ref I) .none) _ _ _
 (refine wpAny_bind ?_);unfold Builtin.List.listItems;refine wpAny_bind (wpAny_seqItems hS rfl (wpAny_pure ?_))
 show wpAny _ _ (updateSeq s.heap.objs.size (fun _=> #[]) >>= fun _=>letGo (#[]:Array Value).toList.reverse >>= fun _=>Builtin.List.listExtendWith (.ref s.heap.objs.size) (.ref I) .none) _ _ _
 refine wpAny_bind (wpAny_updateSeq hS rfl ?_)
 have hS2:=Heap.get?_update_self (Obj.mapSeq (fun _=>(#[]:Array Value))) hS rfl
 have oth:∀b o,s.heap.get? b=some o→((s.heap.push {cls:=.type "list",data:=.seq #[]}).update s.heap.objs.size (Obj.mapSeq (fun _=>(#[]:Array Value)))).get? b=some o:=
  fun b o e=>(Heap.get?_update_other _ _ (Ne.symm (old b o e))).trans (Heap.get?_push_of_some _ e)
 (refine wpAny_bind (wpAny_letGo ?_));refine zD (A:=A.in1) hh hlI (Nat.ne_of_gt bI) (Nat.ne_of_gt bl) (hit.at fun o e=>oth _ o e) (hl.at fun o e=>oth _ o e) hz hS2 fun h' tk acc c k e a=>?_
 exact⟨rfl,hQ h' tk acc c (fun b o hb e=>k b o (old b o e) hb (oth b o e)) e a⟩
end
theorem kq {α β:Type} {r:α→β→Prop} {xs:List α} {ys:List β} (h:Paired r xs ys):Paired r xs.reverse ys.reverse:=by
 induction h with
 | nil=>exact .nil
 | cons a _ ih=>rw[List.reverse_cons,List.reverse_cons];exact gj ih (.cons a .nil)
theorem A3 {its:List Value} {acc:Array Value} (h:ItemsOf (fun i v=>its.toArray[its.toArray.size-1-i]? =some v) acc its.toArray.size):acc.toList=its.reverse:=by
 obtain⟨hs,hv⟩:=h
 simp only[List.size_toArray,List.getElem?_toArray] at hs hv
 apply List.ext_getElem?
 intro j
 by_cases hj:j<its.length
 ·have e1:acc[j]? =some acc[j]:=Array.getElem?_eq_getElem (by omega)
  have e2:=hv j _ e1
  rw[List.getElem?_reverse hj,e2,Array.getElem?_toList,e1]
 ·rw[List.getElem?_eq_none (by rw[Array.length_toList];omega),List.getElem?_eq_none (by rw[List.length_reverse];omega)]
section
variable {X:Cx}
def Qz (K:PySem.W.Frag) (ta:TA):TE:=fun σ H Q=>ta σ H fun vs H1=>∃(a:Addr) (xs:List V),vs=[.ref a]∧bJ K H1 a xs∧∀l,H1 l=none→Q (.ref l) (upd H1 l (.lst xs.reverse))
theorem zE (K:PySem.W.Frag) {a:Expr} {ta:TA} {p p' pos pos':Pos} (hc:X.calm=true) (hg:Gl X "list") (hm:X.mg "list"=none) (hg':Gl X "reversed") (hm':X.mg "reversed"=none) (ha:PA X [a] ta) (hK:X.K=K:=by rfl)
  (hs:starEach [a] X.env=[(false,eval a X.env)]:=by rfl):PE X (.Call (.Name "list" p) [.Call (.Name "reversed" p') [a] [] pos'] [] pos) (Qz K ta):=by
 subst hK
 intro pins s σ H Q I h
 refine wpAny_Call_Name_kw (fh I hg hm qE ?_)
 refine PyProof.Rows.callWith_type1 ?_ rfl rfl
 rw[show starEach [.Call (.Name "reversed" p') [a] [] pos'] X.env=[(false,eval (.Call (.Name "reversed" p') [a] [] pos') X.env)] from rfl]
 show wpAny _ _ (spliced [(false,eval (.Call (.Name "reversed" p') [a] [] pos') X.env)]) _ _ s
 refine Calls.spliced_cons ?_
 refine Call_ (fh I hg' hm' xj (PyProof.Rows.callWith_type1 (aG (ha pos' pins s σ H _ I h) fun us s1 ⟨vs,H1,I1,r1,q1⟩=>?_) hs rfl))
 obtain⟨l,xs,e,hq,q⟩:=q1
 subst e
 cases r1 with
 | cons r rr=>
  cases rr
  cases r
  obtain⟨its,rv,pl,hz⟩:=I1.list hq
  have hl:=rv.length
  refine call_reversed_list pl.isList (Calls.spliced_nil ?_)
  have bl:l<s1.heap.objs.size:=by obtain⟨o,e,_⟩:=pl.isList;exact Heap.lt_size e
  refine tQ (I1.ok.hd hc) (I:=s1.heap.objs.size) (its:=its.toArray) (Nat.ne_of_lt bl) ⟨_,Heap.get?_push_size _ rfl,rfl,rfl⟩ (pl.isList.push _) (by simp only[List.size_toArray];omega) fun h' tk acc c k e it=>?_
  have ei:=A3 it
  have kp:∀b u,s1.heap.get? b=some u→h'.get? b=some u:=fun b u e=>k b u (Nat.ne_of_lt (Heap.lt_size e)) (Heap.get?_push_of_some _ e)
  rw[Heap.size_push] at e
  have hp:s1.heap.objs.size≤s1.heap.objs.size+1:=Nat.le_succ _
  refine⟨.ref (s1.heap.objs.size+1),_,I1.laid (t':=tk) kp hp (show bp X.prog X.w _ h' _ (.lst xs.reverse) from⟨by rw[List.length_reverse];exact hz,acc.toList,c,by rw[ei];exact kq rv,e⟩),?_,q _ (I1.hok.fresh hp)⟩
  show RelV (.ref _) _
  rw[show(s1.heap.push (revObj l ((its.toArray.size:Int)-1))).objs.size=s1.heap.objs.size+1 from Heap.size_push ..]
  rfl
end
theorem Ft (a d:Value):argsOk "max" ⟨[a],[(Str.ofString "default",d)]⟩:=by unfold argsOk;kernel_rfl
section
variable {prog:Program} {w:World} {A:Around} {R:Result→Shared→Prop} {I:Addr} {fp wr:List Addr} {St:Nat→Heap→Prop} {its:Array Value} {val:Nat→Int} {kw:List (Str×Value)}
theorem Fu (W:Walks prog w A.in1 I fp wr its.size (fun i v=>its[i]? =some v) St) (hv:∀(i:Nat) v,its[i]? =some v→∃t,v=.int (val i) t) (S:Addr) (hSf:S ∉ fp):
  ∀(k j:Nat) (s:Shared) (M:Int) (t:Tok) (c:Nat),its.size-j=k→j≤its.size→St j s.heap→s.heap.get? S=some {cls:=.type "list",dict:=none,data:=.seq #[.int M t,.int M t] c,slots:= #[]}→
  (∃i,i<j∧M=val i)→(∀i,i<j→val i≤M)→
  (∀(m:Int) t' h' tk,(∃i,i<its.size∧m=val i)→(∀i,i<its.size→val i≤m)→(∀b o,b ∉ wr→b≠S→s.heap.get? b=some o→h'.get? b=some o)→R (.ok (.ret (.int m t'))) {s with heap:=h',toks:=tk})→
  codeAny (model prog w) A (.builtin "max.loop" ⟨[.ref I,.none,.ref S],kw⟩) R s:=by
 have hSw:S ∉ wr:=fun z=>hSf (W.sub _ z)
 have nm:(toString "max"++toString ".loop":String)="max.loop":=by decide
 intro k
 induction k with
 | zero=>
  intro j s M t c hk hj st hS hM hx hR
  obtain rfl:j=its.size:=by omega
  (refine codeAny_builtin F.entry_max_loop ?_);rw[Around.under_plainId F.plain_max_loop _]
  (show wpAny _ A.in1 (seqItems? (.ref S) >>= _) _ _ s);refine wpAny_bind (wpAny_seqItems hS rfl ?_)
  (show wpAny _ A.in1 (tryCatch (pyNext (.ref I)) _ >>= _) _ _ s);refine wpAny_bind (wpAny_tryCatch (W.done s _ _ st fun h' tk hk'=>?_))
  have hS':=hk' S _ hSw hS
  (show wpAny _ A.in1 (updateSeq S (fun _=> #[]) >>= _) _ _ _);(refine wpAny_bind ?_)
  refine wpAny_updateSeq hS' rfl (wpAny_bind (wpAny_letGo (wpAny_pure ?_)))
  exact hR M t _ tk hM hx fun b o hb hb' e=>(Heap.get?_update_other _ _ (Ne.symm hb')).trans (hk' b o hb e)
 | succ k ih=>
  intro j s M t c hk hj st hS hM hx hR
  have lt:j<its.size:=by omega
  (refine codeAny_builtin F.entry_max_loop ?_);rw[Around.under_plainId F.plain_max_loop _]
  (show wpAny _ A.in1 (seqItems? (.ref S) >>= _) _ _ s);refine wpAny_bind (wpAny_seqItems hS rfl ?_)
  (show wpAny _ A.in1 (tryCatch (pyNext (.ref I)) _ >>= _) _ _ s);refine wpAny_bind (wpAny_tryCatch (W.item j s _ _ lt st fun v h' tk hP st' hk'=>?_))
  have hS':=hk' S _ hSw hS
  obtain⟨u,rfl⟩:=hv j v hP
  show wpAny _ A.in1 (tryCatch (holding [_,_] (richCompare .Gt (.int (val j) u) (.int M t) >>= _)) _ >>= _) _ _ _
  refine wpAny_bind (wpAny_tryCatch (wpAny_holding (wpAny_bind (richCompare_gives (op:=.Gt) (typeIs_int _ _ u) (typeIs_int _ _ t) F.slot_int_gt F.entry_int_gt (F.args_int_gt_2 _ _) (gives_int_gt _ _ u t) (fun x=>nomatch x) ?_))))
  (refine wpAny_bind (wpAny_holding (wpAny_truthy_bool ?_)));refine wpAny_bind (wpAny_letGo (wpAny_pure ?_))
  by_cases hb:val j>M
  ·rw[if_pos (by simpa using hb)]
   (refine wpAny_bind ?_);refine wpAny_updateSeq hS' rfl (wpAny_bind (wpAny_letGo ?_))
   rw[nm]
   refine wpAny_pure ⟨plainId_quiet F.plain_max_loop _,ih (j+1) _ (val j) u _ (by omega) lt (W.frame _ _ _ st' fun b hbf o e=>(Heap.get?_update_other _ _ (fun z:S=b=>hSf (z▸hbf))).trans e) (Heap.get?_update_self _ hS' rfl) ⟨j,Nat.lt_succ_self _,rfl⟩ (fun i hi=>?_) fun m t' h2 tk2 a1 a2 k2=>?_⟩
   ·by_cases e:i=j
    ·rw[e];exact Int.le_refl _
    ·exact Int.le_trans (hx i (by omega)) (Int.le_of_lt hb)
   ·exact hR m t' h2 tk2 a1 a2 fun b o hb1 hb2 e=>k2 b o hb1 hb2 ((Heap.get?_update_other _ _ (Ne.symm hb2)).trans (hk' b o hb1 e))
  ·rw[if_neg (by simpa using hb)]
   (refine wpAny_bind (wpAny_letGo ?_));rw[nm]
   obtain⟨i0,hi0,e0⟩:=hM
   refine wpAny_pure ⟨plainId_quiet F.plain_max_loop _,ih (j+1) _ M t c (by omega) lt st' hS' ⟨i0,by omega,e0⟩ (fun i hi=>?_) fun m t' h2 tk2 a1 a2 k2=>hR m t' h2 tk2 a1 a2 fun b o hb1 hb2 e=>k2 b o hb1 hb2 (hk' b o hb1 e)⟩
   by_cases e:i=j
   ·rw[e];exact Int.not_lt.mp hb
   ·exact hx i (by omega)
theorem CI (W:Walks prog w A.in1 I fp wr its.size (fun i v=>its[i]? =some v) St) (hv:∀(i:Nat) v,its[i]? =some v→∃t,v=.int (val i) t) (S:Addr) (hSf:S ∉ fp) {s:Shared} {c:Nat} {y:Str} {d:Value} (st:St 0 s.heap)
  (hS:s.heap.get? S=some {cls:=.type "list",dict:=none,data:=.seq #[] c,slots:= #[]})
  (D3:its.size=0→∀h' tk,(∀b o,b ∉ wr→b≠S→s.heap.get? b=some o→h'.get? b=some o)→R (.ok (.ret d)) {s with heap:=h',toks:=tk})
  (hR:∀(m:Int) t' h' tk,(∃i,i<its.size∧m=val i)→(∀i,i<its.size→val i≤m)→(∀b o,b ∉ wr→b≠S→s.heap.get? b=some o→h'.get? b=some o)→R (.ok (.ret (.int m t'))) {s with heap:=h',toks:=tk}):
  codeAny (model prog w) A (.builtin "max.loop" ⟨[.ref I,.none,.ref S],[(y,d)]⟩) R s:=by
 have hSw:S ∉ wr:=fun z=>hSf (W.sub _ z)
 have nm:(toString "max"++toString ".loop":String)="max.loop":=by decide
 (refine codeAny_builtin F.entry_max_loop ?_);rw[Around.under_plainId F.plain_max_loop _]
 (show wpAny _ A.in1 (seqItems? (.ref S) >>= _) _ _ s);refine wpAny_bind (wpAny_seqItems hS rfl ?_)
 (show wpAny _ A.in1 (tryCatch (pyNext (.ref I)) _ >>= _) _ _ s)
 by_cases h0:its.size=0
 ·refine wpAny_bind (wpAny_tryCatch (W.done s _ _ (by rw[h0];exact st) fun h' tk hk'=>?_))
  show wpAny _ A.in1 (rule _ >>= fun _=>ret d) _ _ _
  refine wpAny_bind (wpAny_rule (wpAny_pure ?_))
  exact D3 h0 h' tk fun b o hb _ e=>hk' b o hb e
 ·have lt:0<its.size:=by omega
  refine wpAny_bind (wpAny_tryCatch (W.item 0 s _ _ lt st fun v h' tk hP st' hk'=>?_))
  have hS':=hk' S _ hSw hS
  obtain⟨u,rfl⟩:=hv 0 v hP
  (show wpAny _ A.in1 (updateSeq S (fun _=> #[.int (val 0) u,.int (val 0) u]) >>= _) _ _ _);(refine wpAny_bind ?_)
  (refine wpAny_updateSeq hS' rfl ?_);rw[nm]
  refine wpAny_pure ⟨plainId_quiet F.plain_max_loop _,Fu W hv S hSf _ 1 _ (val 0) u _ rfl lt (W.frame _ _ _ st' fun b hbf o e=>(Heap.get?_update_other _ _ (fun z:S=b=>hSf (z▸hbf))).trans e) (Heap.get?_update_self _ hS' rfl) ⟨0,Nat.one_pos,rfl⟩ (fun i hi=>by rw[show i=0 by omega];exact Int.le_refl _) fun m t' h2 tk2 a1 a2 k2=>?_⟩
  exact hR m t' h2 tk2 a1 a2 fun b o hb1 hb2 e=>k2 b o hb1 hb2 ((Heap.get?_update_other _ _ (Ne.symm hb2)).trans (hk' b o hb1 e))
end
section
variable {prog:Program} {w:World} {A:Around} {E:Value→Shared→Prop} {s:Shared}
theorem Fv {id:String} {b:Builtin} {args:List Value} {kw:List (Str×Value)} {Q:Value→Shared→Prop} (hk:builtinKind id=none) (hp:plainId id=true) (hb:entryFor table id=some b) (ha:argsOk id ⟨args,kw⟩)
  (hc:wpAny (model prog w) A.in1 (b ⟨args,kw⟩) (fun fin s'=>match fin with
   | .done f=>(match (Except.ok f:Result) with | .ok (.ret v)=>Q v s' | .ok _=>False | .error e=>E e s')
   | .again c=>c.quiet=true∧codeAny (model prog w) A c (fun r s'=>match r with | .ok (.ret v)=>Q v s' | .ok _=>False | .error e=>E e s') s') E s):
  wpAny (model prog w) A (call (.builtin id) args kw) Q E s:=by
 (refine wpAny_call (codeAny_call_builtin hp hb ?_));simp only[checkBuiltinCall,hk]
 cases hg:Manifest.signature? id with
 | none=>exact wpAny_pure hc
 | some sig=>
  have h2:Bind.checkArgs id sig ⟨args,kw⟩=pure ():=by simpa only[argsOk,hg] using ha
  simp only[h2]
  exact wpAny_pure hc
theorem tR {l:Addr} {its:Array Value} {val:Nat→Int} {d:Value} {Q:Value→Shared→Prop} (hh:A.handled=none) (hl:s.heap.IsList l its) (hv:∀(i:Nat) v,its[i]? =some v→∃t,v=.int (val i) t)
  (h0:its.size=0→∀h' tk,(∀b o,s.heap.get? b=some o→h'.get? b=some o)→Q d {s with heap:=h',toks:=tk})
  (h1:∀(m:Int) t' h' tk,(∃i,i<its.size∧m=val i)→(∀i,i<its.size→val i≤m)→(∀b o,s.heap.get? b=some o→h'.get? b=some o)→Q (.int m t') {s with heap:=h',toks:=tk}):
  wpAny (model prog w) A (call (.builtin "max") [.ref l] [(Str.ofString "default",d)]) Q E s:=by
 have nm:(toString "max"++toString ".loop":String)="max.loop":=by decide
 refine Fv F.kind_max F.plain_max F.entry_max (Ft _ d) ?_
 show wpAny _ A.in1 (Builtin.Builtins.bindParams "max" ["key","default"] 0 ⟨[],[(Str.ofString "default",d)]⟩ >>= _) _ _ s
 refine wpAny_bind (wpAny_of_eq (show Builtin.Builtins.bindParams "max" ["key","default"] 0 ⟨[],[(Str.ofString "default",d)]⟩=pure [none,some d] from by with_unfolding_all rfl) ?_)
 (refine wpAny_bind (wpAny_pure ?_));(refine wpAny_bind ?_)
 have bl:l<s.heap.objs.size:=by obtain⟨o,e,_⟩:=hl;exact Heap.lt_size e
 refine wpAny_pyIter_list hl ?_
 (refine wpAny_bind (wpAny_newObj_type ?_));rw[nm]
 have W:=Walks.list (prog:=prog) (w:=w) (A:=A.in1) hh s.heap.objs.size l (Nat.ne_of_lt bl) its
 have old:∀(h1 h':Heap) (hs:∀b o,s.heap.get? b=some o→h1.get? b=some o),(∀b o,b ∉ [s.heap.objs.size]→b≠s.heap.objs.size+1→h1.get? b=some o→h'.get? b=some o)→∀b o,s.heap.get? b=some o→h'.get? b=some o:=fun h1 h' hs k b o e=>
  k b o (fun z=>Nat.ne_of_lt (Heap.lt_size e) (List.mem_singleton.mp z)) (Nat.ne_of_lt (Nat.lt_succ_of_lt (Heap.lt_size e))) (hs b o e)
 refine wpAny_pure ⟨plainId_quiet F.plain_max_loop _,CI (val:=val) W hv _ (fun hm=>?_) ⟨⟨_,Heap.get?_push_of_some _ (Heap.get?_push_size _ rfl),rfl,rfl⟩,(hl.push _).push _⟩ (Heap.get?_push_size _ rfl) (fun z h' tk k=>h0 z h' tk ?_) fun m t' h' tk a1 a2 k=>h1 m t' h' tk a1 a2 ?_⟩
 ·rw[Heap.size_push] at hm
  rcases List.mem_cons.mp hm with z | z
  ·exact Nat.succ_ne_self _ z
  ·exact Nat.ne_of_lt (Nat.lt_succ_of_lt bl) (List.mem_singleton.mp z).symm
 ·rw[Heap.size_push] at k
  exact old _ h' (fun b o e=>Heap.get?_push_of_some _ (Heap.get?_push_of_some _ e)) k
 ·rw[Heap.size_push] at k
  exact old _ h' (fun b o e=>Heap.get?_push_of_some _ (Heap.get?_push_of_some _ e)) k
end
section
variable {X:Cx}
theorem Fw {ns:List Int} {its:List Value} (r:Vals (ns.map V.int) its) (i:Nat) (v:Value) (e:its.toArray[i]? =some v):∃t,v=.int (ns.getD i 0) t:=by
 rw[List.getElem?_toArray] at e
 have hl:=r.length
 rw[List.length_map] at hl
 have hi:i<its.length:=(List.getElem?_eq_some_iff.mp e).1
 have en:(ns.map V.int)[i]? =some (.int (ns.getD i 0)):=by
  rw[List.getElem?_map,List.getD_eq_getElem?_getD,List.getElem?_eq_getElem (by omega:i<ns.length)]
  rfl
 obtain⟨u,eu,ru⟩:=r.get en
 rw[e] at eu
 cases eu
 exact ru
def Kv (K:PySem.W.Frag) (ta td:TA):TE:=fun σ H Q=>ta σ H fun vs H1=>td σ H1 fun ds H2=>∃(a:Addr) (ns:List Int) (d:V),vs=[.ref a]∧ds=[d]∧bJ K H2 a (ns.map V.int)∧(ns=[]→Q d H2)∧∀m:Int,m∈ns→(∀x∈ns,x≤m)→Q (.int m) H2
theorem yz (K:PySem.W.Frag) {a e:Expr} {ta td:TA} {p pos kp:Pos} (hc:X.calm=true) (hg:Gl X "max") (hm:X.mg "max"=none) (ha:PA X [a] ta) (hd:PK X [⟨some (Str.ofString "default"),e,kp⟩] td) (hK:X.K=K:=by rfl)
  (hs:backTo pos (starEach [a] X.env)=(false,eval a X.env)::backTo pos (starEach [] X.env):=by rfl):PE X (.Call (.Name "max" p) [a] [⟨some (Str.ofString "default"),e,kp⟩] pos) (Kv K ta td):=by
 subst hK
 intro pins s σ H Q I h
 refine wpAny_Call_Name_kw (fh I hg hm G6 ?_)
 refine PyProof.Rows.callWith_kw (aG (ha pos pins s σ H _ I h) fun us s1 ⟨vs,H1,I1,r1,q1⟩=>aG (hd pos pins s1 σ H1 _ I1 q1) fun ws s2 ⟨ds,H2,I2,r2,q2⟩=>?_) hs (by rw[hs];rfl) rfl rfl
 obtain⟨l,ns,d,rfl,rfl,hq,q0,q⟩:=q2
 obtain⟨u,rfl,ru⟩:=vals1 r1
 cases ru
 obtain⟨u,rfl,rd⟩:=vals1 r2
 obtain⟨its,rv,pl,hz⟩:=I2.list hq
 have hl:=rv.length
 rw[List.length_map] at hl
 refine tR (val:=fun i=>ns.getD i 0) (I2.ok.hd hc) pl.isList (Fw rv) (fun z h' tk k=>?_) fun m t' h' tk a1 a2 k=>?_
 ·refine⟨d,H2,I2.kept k,rd,q0 (List.eq_nil_of_length_eq_zero ?_)⟩
  simp only[List.size_toArray] at z
  omega
 ·simp only[List.size_toArray] at a1 a2
  refine⟨.int m,H2,I2.kept k,⟨t',rfl⟩,q m ?_ fun x hx=>?_⟩
  ·obtain⟨i,hi,e⟩:=a1
   rw[e,List.getD_eq_getElem?_getD,List.getElem?_eq_getElem (by omega:i<ns.length)]
   exact List.getElem_mem _
  ·obtain⟨i,hi,e⟩:=List.getElem_of_mem hx
   have:=a2 i (by omega)
   rw[List.getD_eq_getElem?_getD,List.getElem?_eq_getElem hi] at this
   rw[←e]
   exact this
end
end L2
namespace L2
open PySem PySem.Spec PyProof.Rows
open AutoSeq1 (wpAny_loadPart')
section
variable {prog:Program} {w:World} {A:Around} {E:Value→Shared→Prop} {s:Shared}
theorem xl {it t:Addr} {i:Nat} {items:Array Value} {x:Value} {Q:Value→Shared→Prop} (hit:s.heap.IsTupleIter it t i) (ht:s.heap.IsTuple t items) (hx:items[i]? =some x)
  (hQ:∀h',h'.IsTupleIter it t (i+1)→Heap.SameBut it s.heap h'→Q x {s with heap:=h'}):wpAny (model prog w) A (Builtin.SmallTypes.nextOf (.ref it)) Q E s:=by
 obtain⟨o,ho,hc,hd⟩:=id hit
 obtain⟨ol,hol,_,nl,hdl⟩:=ht
 unfold Builtin.SmallTypes.nextOf
 refine wpAny_bind (wpAny_callSpecial?_slot (name:=Str.ofString "__next__") hit.typeIs F.slot_tuple_iterator_next (wpAny_call_entry F.slot_tuple_iterator_next hit.typeIs F.entry_tuple_iterator_next ?_ (F.args_tuple_iterator_next_1 _)))
 (show wpAny _ _ (field (.ref it) 0 >>= _) _ _ s);(refine wpAny_bind (wpAny_field ho hd (x:=.ref t) rfl ?_))
 (show wpAny _ _ (if(Value.ref t == Value.none)=true then _ else _) _ _ s);rw[if_neg (show ¬((Value.ref t == Value.none)=true) from Bool.false_ne_true)]
 (show wpAny _ _ (field (.ref it) 1 >>= _) _ _ s);(refine wpAny_bind (wpAny_field ho hd (x:=.int i 0) rfl ?_))
 (show wpAny _ _ (seqItems? (.ref t) >>= _) _ _ s);(refine wpAny_bind (wpAny_seqItems hol hdl ?_))
 simp only[Int.toNat_natCast,hx];refine wpAny_bind (wpAny_setField ho hd (by simp) (wpAny_pure ⟨x,rfl,wpAny_pure (hQ _ ?_ (Heap.SameBut.update ..))⟩))
 exact⟨_,Heap.get?_update_self _ ho (Obj.isFreed_of_fields (Obj.data_mapFields hd _)),(Obj.cls_mapFields ..).trans hc,(by rw[Obj.data_mapFields hd];simp[rawInt])⟩
theorem oz {it t:Addr} {i:Nat} {items:Array Value} {Q:Value→Shared→Prop} (hh:A.handled=none) (hit:s.heap.IsTupleIter it t i) (ht:s.heap.IsTuple t items) (hx:items[i]? =none)
  (hE:∀h' e,Heap.ExtBut it s.heap h'→(∃o,h'.get? e=some o∧o.cls=.type "StopIteration")→E (.ref e) {s with heap:=h'}):wpAny (model prog w) A (Builtin.SmallTypes.nextOf (.ref it)) Q E s:=by
 obtain⟨o,ho,hc,hd⟩:=id hit
 obtain⟨ol,hol,_,nl,hdl⟩:=ht
 unfold Builtin.SmallTypes.nextOf
 refine wpAny_bind (wpAny_callSpecial?_slot (name:=Str.ofString "__next__") hit.typeIs F.slot_tuple_iterator_next (wpAny_call_entry F.slot_tuple_iterator_next hit.typeIs F.entry_tuple_iterator_next ?_ (F.args_tuple_iterator_next_1 _)))
 (show wpAny _ _ (field (.ref it) 0 >>= _) _ _ s);(refine wpAny_bind (wpAny_field ho hd (x:=.ref t) rfl ?_))
 (show wpAny _ _ (if(Value.ref t == Value.none)=true then _ else _) _ _ s);rw[if_neg (show ¬((Value.ref t == Value.none)=true) from Bool.false_ne_true)]
 (show wpAny _ _ (field (.ref it) 1 >>= _) _ _ s);(refine wpAny_bind (wpAny_field ho hd (x:=.int i 0) rfl ?_))
 (show wpAny _ _ (seqItems? (.ref t) >>= _) _ _ s);(refine wpAny_bind (wpAny_seqItems hol hdl ?_))
 simp only[Int.toNat_natCast,hx];refine wpAny_bind (wpAny_rule (wpAny_bind (wpAny_setField ho hd (by simp) ?_)))
 (show wpAny _ _ (newExc (.type "StopIteration") [] >>= _) _ _ _);(refine wpAny_bind ?_);simp only[newExc,newTuple]
 (refine wpAny_bind (wpAny_newObj_type ?_ (by size_fits)))
 (refine wpAny_bind (m:=firstArgMember _ _) (wpAny_of_eq (a:=Value.none) (by first | rfl | (simp only[firstArgMember];rfl)) ?_));(refine wpAny_newObj_type ?_ (by size_fits))
 simp only[raiseNew];refine wpAny_bind (wpAny_handled ?_)
 (first | rw[show A.in1.handled=none from hh] | rw[hh]);refine wpAny_bind (wpAny_pure (wpAny_throw ?_))
 exact hE _ _ (((Heap.SameBut.update (a:=it) ..).extBut.push _).push _) ⟨_,Heap.get?_push_size _ rfl,rfl⟩
theorem A4 (hh:A.handled=none) (it t:Addr) (hne:t≠it) (items:Array Value):Draws prog w A it [it,t] items.size (fun i v=>items[i]? =some v) (fun i h=>h.IsTupleIter it t i∧h.IsTuple t items) where
 live:=fun _ _ st=>let ⟨o,ho,_⟩:=st.1;⟨o,ho⟩
 frame:=fun _ _ _ st hk=>⟨(let ⟨o,ho,r⟩:=st.1;⟨o,hk it (by simp) o ho,r⟩),(let ⟨o,ho,r⟩:=st.2;⟨o,hk t (by simp) o ho,r⟩)⟩
 item:=fun i s Q E hi st hQ=>xl st.1 st.2 (x:=items[i]) (by simp[hi]) fun h' hit' hs'=>hQ _ h' s.toks (by simp[hi]) ⟨hit',(let ⟨o,ho,r⟩:=st.2;⟨o,(hs'.2 t hne).trans ho,r⟩)⟩ hs'
 done:=fun s Q E st hE=>oz hh st.1 st.2 (by simp) hE
theorem zF (hh:A.handled=none) (it t:Addr) (items:Array Value) (i:Nat) (hx:items[i]? =none):Draws prog w A it [it,t] 0 (fun _ _=>True) (fun _ h=>h.IsTupleIter it t i∧h.IsTuple t items) where
 live:=fun _ _ st=>let ⟨o,ho,_⟩:=st.1;⟨o,ho⟩
 frame:=fun _ _ _ st hk=>⟨(let ⟨o,ho,r⟩:=st.1;⟨o,hk it (by simp) o ho,r⟩),(let ⟨o,ho,r⟩:=st.2;⟨o,hk t (by simp) o ho,r⟩)⟩
 item:=fun i s Q E hi st hQ=>absurd hi (Nat.not_lt_zero _)
 done:=fun s Q E st hE=>oz hh st.1 st.2 hx hE
end
theorem pV (l:Addr) (items:Array Value) (n:Nat) (dct:Option Addr) (sl:Array (Option Value)):
  Meets (Builtin.«enumerate.__new__» ⟨[.type "enumerate",.ref l],[]⟩) (fun _ R s=>s.heap.get? l=some {cls:=.type "tuple",dict:=dct,data:=.seq items n,slots:=sl}∧R (.ok (.ret (.ref (s.heap.push {cls:=.type "tuple_iterator",data:=.fields #[.ref l,.int 0 0]}).objs.size)))
    {s with heap:=(s.heap.push {cls:=.type "tuple_iterator",data:=.fields #[.ref l,.int 0 0]}).push {cls:=.type "enumerate",data:=.fields #[.none,.bool false,.ref s.heap.objs.size,rawInt 0,.none,.none]}}):=
 .of_wp fun prog w A R s h=>by
  obtain⟨hp,g,d,tk,os⟩:=s
  obtain⟨hl,h⟩:=h
  have hsub:=sub_enumerate
  have hL:Heap.IsTuple (Shared.heap ⟨hp,g,d,tk,os⟩) l items:=⟨_,hl,rfl,n,rfl⟩
  wp_walk using wpAny_loadPart' hl
  (refine wpAny_stack_any fun st=>wpAny_pure ?_);split
  ·rename_i c _ _ _ _ _
   cases(c == Value.type "enumerate")
   ·wp_walk using wpAny_loadPart' hl,wpAny_pyIter_tuple hL
    exact⟨_,rfl,h⟩
   ·wp_walk using wpAny_loadPart' hl,wpAny_pyIter_tuple hL
    exact⟨_,rfl,h⟩
  ·wp_walk using wpAny_loadPart' hl,wpAny_pyIter_tuple hL
   exact⟨_,rfl,h⟩
section
variable {prog:Program} {w:World} {A:Around} {E:Value→Shared→Prop} {s:Shared}
theorem tS {l:Addr} {items:Array Value} {Q:Value→Shared→Prop} (hL:s.heap.IsTuple l items)
  (h:∀h',IsEnum h' (s.heap.objs.size+1) s.heap.objs.size 0 .none→h'.IsTupleIter s.heap.objs.size l 0→h'.objs.size=s.heap.objs.size+2→(∀b o,s.heap.get? b=some o→h'.get? b=some o)→Q (.ref (s.heap.objs.size+1)) {s with heap:=h'}):
  wpAny (model prog w) A (call (.type "enumerate") [.ref l]) Q E s:=by
 obtain⟨⟨c,dct,dt,sl⟩,hl,hc,n,hd⟩:=hL
 replace hc:c=.type "tuple":=hc
 replace hd:dt=.seq items n:=hd
 subst hc hd
 refine callType_new F.called_enumerate (by decide) (F.typeCall_enumerate_1 _) (F.newCall_enumerate_1 _) (fun obj=>F.args_object_init_2 obj _) F.entry_enumerate_new (pV l items n dct sl) ⟨hl,?_⟩
 have hz:(s.heap.push {cls:=.type "tuple_iterator",data:=.fields #[.ref l,.int 0 0]}).objs.size=s.heap.objs.size+1:=Heap.size_push ..
 show _∧_
 rw[hz]
 have he:IsEnum ((s.heap.push {cls:=.type "tuple_iterator",data:=.fields #[.ref l,.int 0 0]}).push {cls:=.type "enumerate",data:=.fields #[.none,.bool false,.ref s.heap.objs.size,rawInt 0,.none,.none]}) (s.heap.objs.size+1) s.heap.objs.size 0 .none:=by
  have:=Heap.get?_push_size (s.heap.push {cls:=.type "tuple_iterator",data:=.fields #[.ref l,.int 0 0]}) (o:={cls:=.type "enumerate",data:=.fields #[.none,.bool false,.ref s.heap.objs.size,rawInt 0,.none,.none]}) rfl
  rw[hz] at this;exact this
 exact⟨⟨_,he,rfl⟩,h _ he ⟨_,Heap.get?_push_of_some _ (Heap.get?_push_size _ rfl),rfl,rfl⟩ (by rw[Heap.size_push,hz]) fun b o x=>Heap.get?_push_of_some _ (Heap.get?_push_of_some _ x)⟩
end
def oW (K:PySem.W.Frag) (a:Addr):It:=
 ⟨fun i H=>∃xs x,cH K H a xs∧xs[i]? =some x,
  fun i H x H'=>∃y p,(∀xs,cH K H a xs→xs[i]? =some y)∧H p=none∧x=.ref p∧H'=upd H p (.tup [.int i,y]),
  fun i H=>∃xs,cH K H a xs∧xs.length≤i⟩
theorem zG {P:Program} {w:World} {K:PySem.W.Frag} {elts:List Expr} {x1} {tpos:Pos} (a e it:Addr) (hne:e≠it) (QA:e≠a) (hia:it≠a):
  Turn P w K (.Tuple elts x1 tpos) (oW K a) [e,it] e (fun i h=>(∃old,IsEnum h e it i old)∧h.IsTupleIter it a i) where
 mem:=by simp
 obj:=fun i h st b hb=>by
  obtain⟨⟨old,st1⟩,st2⟩:=st
  rcases List.mem_cons.mp hb with z | z
  ·subst z;exact⟨_,st1,fun v z=>by cases z⟩
  ·have z':b=it:=by simpa using z
   subst z'
   obtain⟨o,e,c,d⟩:=st2
   exact⟨o,e,fun v z=>by rw[d] at z;cases z⟩
 keep:=fun i h h' st k=>by
  obtain⟨⟨old,st1⟩,st2⟩:=st
  exact⟨⟨old,k e (by simp) _ st1⟩,let ⟨o,q,r⟩:=st2;⟨o,k it (by simp) o q,r⟩⟩
 item:=by
  intro X hP hw hK hc i pins s σ H E I hf st hg
  subst hP hw hK
  obtain⟨⟨old,st1⟩,st2⟩:=st
  obtain⟨xs,x,hq,hx⟩:=hg
  obtain⟨its,rv,p,hz⟩:=I.tuple hq
  obtain⟨u,hu,ru⟩:=rv.get hx
  have hlt:i<its.toArray.size:=by
   have:=(List.getElem?_eq_some_iff.mp hu).1
   simpa using this
  have D:=A4 (prog:=X.prog) (w:=X.w) (A:=X.A.in1) (I.ok.hd hc) it a (Ne.symm hia) its.toArray
  refine wpAny_pyNext_enum_itemD D st1 ⟨st2,p⟩ hlt hne (by simp[hne,QA]) fun v h1 tk hv eo GZ ht hsz kk=>?_
  have ev:v=u:=by
   have:its[i]? =some v:=by simpa using hv
   rw[hu] at this
   exact(Option.some.inj this).symm
  subst ev
  have nn:H s.heap.objs.size=none:=I.hok.fresh (Nat.le_refl _)
  have I1:Inv X pins σ (upd H s.heap.objs.size (.tup [.int i,x])) {s with heap:=h1,toks:=tk+1}:=
   I.uP (ch:=[e,it]) hf (fun b o hb q=>kk b o (fun z=>hb (by simp[z])) (fun z=>hb (by simp[z])) q) (Nat.le_refl _)
    ⟨⟨by show 2≤sizeLine;decide,_,ht,rfl⟩,[.int i tk,v],.cons ⟨_,rfl⟩ (.cons ru .nil),⟨_,ht,rfl,_,rfl⟩⟩
  have le:e<s.heap.objs.size:=Heap.lt_size st1
  have li:it<s.heap.objs.size:=by obtain⟨o,q,_⟩:=id st2;exact Heap.lt_size q
  refine⟨_,rfl,wpAny_letOwnedTupleGo_enum eo fun h2 e2 sb=>?_⟩
  obtain⟨f0,f1,f2,f3,f4,f5⟩:=hf e (by simp)
  have I2:=I1.turned (h':=h2) (t':=tk+1) (it:=e) (fun b o hb q=>(sb.2 b hb).trans q) (by rw[aq (Nat.ne_of_lt le)];exact f0) f1 f3 f4 f5
  refine⟨.ref s.heap.objs.size,_,I2,rfl,⟨x,s.heap.objs.size,fun ys hy=>by rw[I.mw hy hq];exact hx,nn,rfl,rfl⟩,⟨⟨v,by simpa using e2⟩,let ⟨o,q,r⟩:=GZ.1;⟨o,(sb.2 it (Ne.symm hne)).trans q,r⟩⟩,fun b hb=>?_⟩
  rcases List.mem_cons.mp hb with z | z
  ·subst z;rw[aq (Nat.ne_of_lt le)];exact f0
  ·have z':b=it:=by simpa using z
   subst z';rw[aq (Nat.ne_of_lt li)];exact(hf b (by simp)).1
 done:=by
  intro X hP hw hK hc i pins s σ H E I hf st hg
  subst hP hw hK
  obtain⟨⟨old,st1⟩,st2⟩:=st
  obtain⟨xs,hq,hx⟩:=hg
  obtain⟨its,rv,p,hz⟩:=I.tuple hq
  obtain⟨f0,f1,f2,f3,f4,f5⟩:=hf it (by simp)
  have hl:=rv.length
  have D:=zF (prog:=X.prog) (w:=X.w) (A:=X.A.in1) (I.ok.hd hc) it a its.toArray i (by simp;omega)
  exact wpAny_pyNext_enum_endD D st1 ⟨st2,p⟩ fun h' eb=>⟨rfl,I.turned (t':=s.toks) (fun b o hb e=>eb b o hb e) f0 f1 f3 f4 f5⟩
 self:=fun _ _ _ _ _ st h=>by
  obtain⟨⟨old,st1⟩,st2⟩:=st
  exact wpAny_pyIter_enum st1 h
def Hq (K:PySem.W.Frag) (ta:TA):TI:=fun σ H R=>ta σ H fun vs H1=>∃a,vs=[.ref a]∧(∃xs,cH K H1 a xs)∧R (oW K a) H1
theorem jo {X:Cx} {elts:List Expr} {x1} {tpos:Pos} {a:Expr} {ta:TA} {p pos:Pos} (hg:Gl X "enumerate") (hm:X.mg "enumerate"=none) (ha:PA X [a] ta) (hs:starEach [a] X.env=[(false,eval a X.env)]:=by rfl):
  PI X (.Tuple elts x1 tpos) (.Call (.Name "enumerate" p) [a] [] pos) (Hq X.K ta):=by
 intro pins s σ H R I h
 refine Call_ (fh I hg hm boot_enumerate (PyProof.Rows.callWith_type1 (aG (ha pos pins s σ H _ I h) fun us s1 ⟨vs,H1,I1,r1,q1⟩=>?_) hs rfl))
 obtain⟨l,e,⟨xs,hq⟩,q⟩:=q1
 subst e
 cases r1 with
 | cons r rr=>
  cases rr
  cases r
  obtain⟨its,rv,pl,hz⟩:=I1.tuple hq
  have bl:l<s1.heap.objs.size:=by obtain⟨o,e,_⟩:=pl;exact Heap.lt_size e
  refine tS pl fun h' he hit hsz kk=>?_
  have I2:Inv X pins σ H1 {s1 with heap:=h'}:=I1.kept (t':=s1.toks) kk
  refine wpAny_pyIter_enum he ?_
  refine⟨s1.heap.objs.size+1,[s1.heap.objs.size+1,s1.heap.objs.size],_,_,H1,rfl,I2,zG l _ _ (Nat.succ_ne_self _) (Nat.ne_of_gt (Nat.lt_succ_of_lt bl)) (Nat.ne_of_gt bl),⟨⟨_,by simpa using he⟩,hit⟩,fun b hb=>?_,q⟩
  rcases List.mem_cons.mp hb with z | z
  ·subst z;exact I1.jZ (Nat.le_succ _) (I1.hok.fresh (Nat.le_succ _))
  ·have z':b=s1.heap.objs.size:=by simpa using z
   subst z';exact I1.jZ (Nat.le_refl _) (I1.hok.fresh (Nat.le_refl _))
theorem A5 {K:PySem.W.Frag} {a:Addr} {xs:List V} {g:TG} {tb:TS} {D:Ends} {σ:St} {H:Hp} (Pv:Nat→St→Hp→Prop) (h0:Pv 0 σ H) (hl:∀i σ H,i≤xs.length→Pv i σ H→cH K H a xs)
  (hs:∀i x p σ H,xs[i]? =some x→Pv i σ H→H p=none→g (.ref p) σ (upd H p (.tup [.int i,x])) fun σ2 H2=>tb {D with nx:=Pv (i+1),ct:=Pv (i+1),bk:=D.nx} σ2 H2) (hd:∀σ H,Pv xs.length σ H→D.nx σ H):
  ∃W:Nat→Nat→St→Hp→Prop,(∃m,W 0 m σ H)∧∀i m σ H,W i m σ H→
   ((oW K a).stop i H∧D.nx σ H)∨((oW K a).go i H∧∃N:St→Hp→Prop,(∀σ' H',N σ' H'→∃m',m'<m∧W (i+1) m' σ' H')∧∀x H',(oW K a).ot i H x H'→g x σ H' fun σ2 H2=>tb {D with nx:=N,ct:=N,bk:=D.nx} σ2 H2):=by
 refine⟨fun i m σ H=>m=xs.length-i∧i≤xs.length∧Pv i σ H,⟨xs.length,by simp,Nat.zero_le _,h0⟩,?_⟩
 rintro i m σ H ⟨rfl,hi,p⟩
 have q:=hl i σ H hi p
 by_cases hlt:i<xs.length
 ·refine .inr ⟨⟨xs,xs[i],q,by simp[hlt]⟩,Pv (i+1),fun σ' H' p'=>⟨xs.length-(i+1),by omega,rfl,hlt,p'⟩,fun x H' y=>?_⟩
  obtain⟨z,pa,hz,hn,e1,e2⟩:=y
  subst e1 e2
  exact hs i z pa σ H (hz xs q) p hn
 ·have e:i=xs.length:=by omega
  subst e
  exact .inl ⟨⟨xs,q,Nat.le_refl _⟩,hd σ H p⟩
end L2
namespace L2
open PySem PySem.Spec PyProof.Rows
section
variable {X:Cx} {pins:List (Addr×Obj)} {σ:List (Option V)} {H:Hp} {s:Shared}
theorem Inv.freeze {d:Addr} {kvs:List (Key×V)} (I:Inv X pins σ H s) (e:H d=some (.dK kvs)):∃o,Inv X pins σ (upd H d (.cY o (.dK kvs))) s:=by
 obtain⟨hz,lo,vs,rel,dd⟩:=zA I.hok e
 obtain⟨o,es,ep,ho,r⟩:=id dd
 exact⟨o,I.write (x:=d) (e:=d) (o:=.cY o (.dK kvs)) (h':=s.heap) (t':=s.toks) (by rw[e];trivial) (.inl rfl) (fun b u _ q=>q) ⟨o,ho⟩ ⟨ho,hz,lo,vs,rel,dd⟩⟩
theorem Inv.frozen {d:Addr} {kvs:List (Key×V)} {o:Obj} (I:Inv X pins σ H s) (e:H d=some (.cY o (.dK kvs))):∃vs es ep,KV kvs vs∧o.data=.dict es ep∧s.heap.DictAt (aV X.prog X.w) d vs ep∧(d == sysModules)=false:=by
 obtain⟨ho,hz,lo,vs,rel,dd⟩:=(show bp X.prog X.w H s.heap d (.cY o (.dK kvs)) from I.hok d _ e)
 obtain⟨o2,es,ep,ho2,r1,r2,r3⟩:=id dd
 have:o2=o:=by rw[ho] at ho2;exact(Option.some.inj ho2).symm
 subst this
 exact⟨vs,es,ep,rel,r2,⟨o2,es,ho2,r1,r2,r3⟩,lo⟩
end
theorem Hr {k:Key} {v:Value} (h:kN k v=true):RelV (kV k) v:=by
 rcases cB h with⟨i,t,rfl,rfl⟩ | ⟨x,t,rfl,rfl⟩
 ·exact⟨t,rfl⟩
 ·exact⟨t,rfl⟩
theorem Kw {kvs:List (Key×V)} {vs:List (Key×Value)} (r:KV kvs vs) {i:Nat} {k:Key} {v:V} (e:kvs[i]? =some (k,v)):∃u,vs[i]? =some (k,u)∧RelV v u:=by
 unfold KV at r
 induction r generalizing i with
 | nil=>simp at e
 | @cons p q ps qs h t ih=>
  cases i with
  | zero=>
   have e':p=(k,v):=by simpa using e
   subst e'
   obtain⟨q1,q2⟩:=q
   obtain⟨h1,h2⟩:=h
   cases(show k=q1 from h1)
   exact⟨q2,rfl,h2⟩
  | succ i=>exact ih (by simpa using e)
def A6 (d:Addr) (o:Obj) (kvs:List (Key×V)):It:=
 ⟨fun i H=>H d=some (.cY o (.dK kvs))∧i<kvs.length,fun i H x H'=>H'=H∧∃k v,kvs[i]? =some (k,v)∧x=kV k,fun i H=>H d=some (.cY o (.dK kvs))∧kvs.length≤i⟩
theorem A7 {P:Program} {w:World} {K:PySem.W.Frag} {tg:Expr} (d it:Addr) (o:Obj) (kvs:List (Key×V)):
  Turn P w K tg (A6 d o kvs) [it] it (fun i h=>∃es ep,o.data=.dict es ep∧h.IsKeyIter it d i kvs.length ep) where
 mem:=by simp
 obj:=fun i h st b hb=>by
  have e:b=it:=by simpa using hb
  subst e
  obtain⟨_,_,_,o,e,c,d⟩:=st
  exact⟨o,e,fun v z=>by rw[d] at z;cases z⟩
 keep:=fun i h h' st k=>by
  obtain⟨es,ep,h1,st⟩:=st
  exact⟨es,ep,h1,st.at fun o e=>k it (by simp) o e⟩
 item:=by
  intro X hP hw hK hc i pins s σ H E I hf st hg
  subst hP hw hK
  obtain⟨es,ep,h1,st⟩:=st
  obtain⟨hH,hi⟩:=hg
  obtain⟨vs,es',ep',rel,h2,da,lo⟩:=I.frozen hH
  have ee:ep'=ep:=by rw[h1] at h2;cases h2;rfl
  subst ee
  have hl:kvs.length=vs.length:=rel.length
  obtain⟨⟨k,v⟩,hk⟩:∃p,kvs[i]? =some p:=⟨kvs[i],by simp[hi]⟩
  obtain⟨u,hu,ru⟩:=Kw rel hk
  obtain⟨f0,f1,f2,f3,f4,f5⟩:=hf it (by simp)
  rw[hl] at st
  refine wpAny_pyNext_dict_item st da hu fun key h' hkey st' sb=>?_
  have I1:Inv X pins σ H {s with heap:=h'}:=I.turned (t':=s.toks) (fun b o hb e=>(sb.2 b hb).trans e) f0 f1 f3 f4 f5
  obtain⟨o',e,c,d'⟩:=id st'
  rw[←hl] at st'
  exact⟨key,rfl,ug (s:={s with heap:=h'}) e c d' (by decide) ⟨kV k,H,I1,Hr hkey,⟨rfl,k,v,hk,rfl⟩,⟨es,ep',h1,st'⟩,fun b hb=>(hf b hb).1⟩⟩
 done:=by
  intro X hP hw hK hc i pins s σ H E I hf st hg
  subst hP hw hK
  obtain⟨es,ep,h1,st⟩:=st
  obtain⟨hH,hi⟩:=hg
  obtain⟨vs,es',ep',rel,h2,da,lo⟩:=I.frozen hH
  have ee:ep'=ep:=by rw[h1] at h2;cases h2;rfl
  subst ee
  have hl:kvs.length=vs.length:=rel.length
  rw[hl] at st
  obtain⟨f0,f1,f2,f3,f4,f5⟩:=hf it (by simp)
  exact wpAny_pyNext_dict_end (I.ok.hd hc) st da (List.getElem?_eq_none (by omega)) fun h' eb=>⟨rfl,I.turned (t':=s.toks) (fun b o hb e=>eb b o hb e) f0 f1 f3 f4 f5⟩
 self:=fun _ _ _ _ _ st h=>by
  obtain⟨_,_,_,st⟩:=st
  exact wpAny_pyIter_keyiter st h
section
variable {X:Cx} {tg:Expr}
def Hs (tl:TE):TI:=fun σ H R=>tl σ H fun x H1=>∃d kvs,x=.ref d∧H1 d=some (.dK kvs)∧∀o,R (A6 d o kvs) (upd H1 d (.cY o (.dK kvs)))
theorem CJ {l:Expr} {tl:TE} (hl:PE X l tl):PI X tg l (Hs tl):=by
 intro pins s σ H R I h
 refine aG (hl pins s σ H _ I h) fun v s1 ⟨x,H0,I0,r1,q1⟩=>?_
 obtain⟨d,kvs,e,hd0,q0⟩:=q1
 subst e
 cases r1
 obtain⟨o,I1⟩:=I0.freeze hd0
 have q:=q0 o
 have hd:(upd H0 d (.cY o (.dK kvs))) d=some (.cY o (.dK kvs)):=af
 generalize upd H0 d (.cY o (.dK kvs))=H1 at I1 q hd
 obtain⟨vs,es,ep,rel,h2,da,lo⟩:=I1.frozen hd
 have hl':kvs.length=vs.length:=rel.length
 refine wpAny_pyIter_dict lo da ?_
 refine⟨s1.heap.objs.size,[s1.heap.objs.size],_,_,H1,rfl,I1.kept (t':=s1.toks) fun b o e=>Heap.get?_push_of_some _ e,A7 d _ o kvs,⟨es,ep,h2,⟨_,Heap.get?_push_size _ rfl,rfl,by rw[hl'];rfl⟩⟩,fun b hb=>?_,q⟩
 have e:b=s1.heap.objs.size:=by simpa using hb
 subst e
 exact I1.jZ (Nat.le_refl _) (I1.hok.fresh (Nat.le_refl _))
end
theorem CK {d:Addr} {ob:Obj} {kvs:List (Key×V)} {g:TG} {tb:TS} {D:Ends} {σ:St} {H:Hp} (Pv:Nat→St→Hp→Prop) (h0:Pv 0 σ H) (hl:∀i σ H,i≤kvs.length→Pv i σ H→H d=some (.cY ob (.dK kvs)))
  (hs:∀i k v σ H,kvs[i]? =some (k,v)→Pv i σ H→g (kV k) σ H fun σ2 H2=>tb {D with nx:=Pv (i+1),ct:=Pv (i+1),bk:=D.nx} σ2 H2) (hd:∀σ H,Pv kvs.length σ H→D.nx σ H):
  ∃W:Nat→Nat→St→Hp→Prop,(∃m,W 0 m σ H)∧∀i m σ H,W i m σ H→
   ((A6 d ob kvs).stop i H∧D.nx σ H)∨((A6 d ob kvs).go i H∧∃N:St→Hp→Prop,(∀σ' H',N σ' H'→∃m',m'<m∧W (i+1) m' σ' H')∧∀x H',(A6 d ob kvs).ot i H x H'→g x σ H' fun σ2 H2=>tb {D with nx:=N,ct:=N,bk:=D.nx} σ2 H2):=by
 refine⟨fun i m σ H=>m=kvs.length-i∧i≤kvs.length∧Pv i σ H,⟨kvs.length,by simp,Nat.zero_le _,h0⟩,?_⟩
 rintro i m σ H ⟨rfl,hi,p⟩
 have q:=hl i σ H hi p
 by_cases hlt:i<kvs.length
 ·refine .inr ⟨⟨q,hlt⟩,Pv (i+1),fun σ' H' p'=>⟨kvs.length-(i+1),by omega,rfl,hlt,p'⟩,fun x H' y=>?_⟩
  obtain⟨rfl,k,v,hk,rfl⟩:=y
  exact hs i k v σ H' hk p
 ·have e:i=kvs.length:=by omega
  subst e
  exact .inl ⟨⟨q,Nat.le_refl _⟩,hd σ H p⟩
end L2
namespace L2
open PySem PySem.Spec PyProof.Rows
open PySem.AutoSeq1 (wpAny_loadPart')
open PySem.MeetsSeq PySem.MeetsSeq2 PySem.MeetsSeq3
theorem yA {vs:List Value} {ns:List Int} (h:IntsAre vs ns):∀(i:Nat) (hi:i<vs.length),∃a t,vs[i]=.int a t∧ns.drop i=a::ns.drop (i+1):=by
 induction h with
 | nil=>intro i hi;cases hi
 | cons a t h ih=>
  intro i hi
  cases i with
  | zero=>exact⟨a,t,rfl,rfl⟩
  | succ i=>
   obtain⟨b,u,e1,e2⟩:=ih i (by simpa using hi)
   exact⟨b,u,by simpa using e1,by simpa using e2⟩
end L2
namespace L2
open PySem PySem.Spec PyProof.Rows
section
variable {P:Program} {w:World} {A:Around} {E:Value→Shared→Prop} {s:Shared}
abbrev dS (w:World):Obj:={cls:=.type "set",dict:=none,data:=.set #[] 0 (.fresh 0 0 (!w.params.followText "set-order"))}
theorem CL (v:Value) {Q:Value→Shared→Prop} (h:Q (.ref s.heap.objs.size) {s with heap:=s.heap.push (dS w)}):
  codeAny (model P w) A (.call (.builtin "set.__new__") ⟨[.type "set",v],[]⟩) (wants Q E) s:=by
 refine codeAny_of_tree ?_
 show wpAny (model P w) A.in1 (do checkBuiltinCall "set.__new__" ⟨[.type "set",v],[]⟩;again (.builtin "set.__new__" ⟨[.type "set",v],[]⟩)) _ _ s
 refine wpAny_bind (wpAny_of_eq (PySem.F.newCall_set_1 v) (wpAny_pure ⟨plainId_quiet PySem.F.plain_set_new _,codeAny_builtin PySem.F.entry_set_new ?_⟩))
 rw[Around.under_plainId PySem.F.plain_set_new]
 unfold Builtin.«set.__new__» Builtin.Frozenset.newClass
 have hsub:=sub_set_self
 obtain⟨hp,g,d,tk,os⟩:=s
 dsimp only
 wp_walk
 refine wpAny_askSetting (wpAny_pure ?_)
 dsimp only
 simp only[newObj]
 exact wpAny_bind (wpAny_alloc (wpAny_pure (wpAny_pure h)))
end
namespace SI
theorem A8:Manifest.owners.lookup (String.ofList ['r', 'o', 't', 'a', 'r', 'e', 't', 'i', '_', 't', 'e', 's'].reverse)=some Manifest.sig_set_iterator:=by kernel_rfl
theorem slot_next:Slot "set_iterator" "__next__" "set_iterator.__next__":=
 .of (owner:="set_iterator") (n:="__next__") (by rw[typeLookup_type,builtinLookup_eq_fast];kernel_rfl) (by decide+kernel) (by decide+kernel) (by decide+kernel)
  (by first | exact .inl (by decide+kernel) | exact .inr (by decide+kernel)) (by rw[isSubtype_type];kernel_rfl)
theorem rY:Slot "set_iterator" "__iter__" "set_iterator.__iter__":=
 .of (owner:="set_iterator") (n:="__iter__") (by rw[typeLookup_type,builtinLookup_eq_fast];kernel_rfl) (by decide+kernel) (by decide+kernel) (by decide+kernel)
  (by first | exact .inl (by decide+kernel) | exact .inr (by decide+kernel)) (by rw[isSubtype_type];kernel_rfl)
theorem entry_next:entryFor table "set_iterator.__next__"=some Builtin.«set_iterator.__next__» :=entryFor_of_tree (by kernel_rfl)
theorem zH:entryFor table "set_iterator.__iter__"=some Builtin.«dict_keyiterator.__iter__» :=
 entryFor_alias (id':="dict_keyiterator.__iter__") (by kernel_rfl) (by first | rfl | decide+kernel | (unfold String.splitOn;simp+decide [String.splitOnAux])) (by decide+kernel) (by kernel_rfl)
theorem args_next (v:Value):argsOk "set_iterator.__next__" ⟨[v],[]⟩:=by
 unfold argsOk;rw[signature?_of (id:="set_iterator.__next__") (n:=['_', '_', 't', 'x', 'e', 'n', '_', '_']) (o:=['r', 'o', 't', 'a', 'r', 'e', 't', 'i', '_', 't', 'e', 's']) (by kernel_rfl) A8];kernel_rfl
theorem A9 (v:Value):argsOk "set_iterator.__iter__" ⟨[v],[]⟩:=by
 unfold argsOk;rw[signature?_of (id:="set_iterator.__iter__") (n:=['_', '_', 'r', 'e', 't', 'i', '_', '_']) (o:=['r', 'o', 't', 'a', 'r', 'e', 't', 'i', '_', 't', 'e', 's']) (by kernel_rfl) A8];kernel_rfl
theorem qI:entryFor table "set.__iter__"=some Builtin.«frozenset.__iter__» :=
 entryFor_alias (id':="frozenset.__iter__") (by kernel_rfl) (by first | rfl | decide+kernel | (unfold String.splitOn;simp+decide [String.splitOnAux])) (by decide+kernel) (by kernel_rfl)
end SI
abbrev oX (h:Heap) (I:Addr) (F:Array Value):Prop:=h.get? I=some {cls:=.type "set_iterator",dict:=none,data:=.fields F,slots:= #[]}
section
variable {P:Program} {w:World} {A:Around} {E:Value→Shared→Prop} {s:Shared}
theorem yB {I:Addr} {F:Array Value} {Q:Value→Shared→Prop} (hI:oX s.heap I F) (h:Q (.ref I) s):wpAny (model P w) A (pyIter (.ref I)) Q E s:=by
 have hT:s.TypeIs (.ref I) "set_iterator":=⟨_,hI,rfl⟩
 refine wpAny_pyIter_slot hT SI.rY (wpAny_call_entry SI.rY hT SI.zH ?_ (SI.A9 _))
 show wpAny (model P w) _ (ret (.ref I)) _ _ s
 exact wpAny_pure ⟨_,rfl,"set_iterator",_,hT,SI.slot_next.lookup,h⟩
theorem Fx {I:Addr} {F:Array Value} {k0:Option Nat} {Q:Option Value→Shared→Prop} (hh:A.handled=none) (hI:oX s.heap I F) (hk:2<F.size) (h:∀h',Heap.ExtBut I s.heap h'→Q none {s with heap:=h'}):
  wpAny (model P w) A.in1 (do setField (.ref I) 2 .none;raiseNew (←newExc (.type "StopIteration") []))
   (fun fin s'=>∃v,fin=Fin.done (Flow.ret v)∧wpAny (model P w) A (pure (some v)) Q E s')
   (fun e s'=>wpAny (model P w) A (do if ←isInstance e (.type "StopIteration") then pure none else throw e) Q E s') s:=by
 refine wpAny_bind (wpAny_setField_rec hI hk fun h1 e1 b1=>?_)
 refine wpAny_bind ?_
 simp only[newExc,newTuple]
 refine wpAny_bind (wpAny_newObj_type ?_ (by size_fits))
 refine wpAny_bind (m:=firstArgMember _ _) (wpAny_of_eq (a:=Value.none) (by first | rfl | (simp only[firstArgMember];rfl)) ?_)
 refine wpAny_newObj_type ?_ (by size_fits)
 simp only[raiseNew]
 refine wpAny_bind (wpAny_handled ?_)
 rw[show A.in1.handled=none from hh]
 refine wpAny_bind (wpAny_pure (wpAny_throw ?_))
 refine wpAny_bind (wpAny_isInstance (T:="StopIteration") (b:=true) ⟨_,Heap.get?_push_size _ rfl,rfl⟩ isSubtype_stop ?_)
 exact wpAny_pure (h _ ((b1.extBut.push _).push _))
theorem nQ {a:Addr} {Q:Bool→Shared→Prop} (h:Q (w.params.followText "set-order") s):wpAny (model P w) A setsByText Q E s:=by
 unfold setsByText
 exact wpAny_bind (wpAny_askSetting (wpAny_pure h))
end
theorem rZ {α:Type} (f:Nat→Nat):∀(n k:Nat) (l:List α) (out:Array α),l.length=n→(pickOrder.go f n k l out).toList.Perm (out.toList++l)
 | 0,k,l,out,h=>by
  have:l=[]:=List.length_eq_zero_iff.mp h
  subst this
  unfold pickOrder.go
  rw[List.append_nil]
 | n+1,k,l,out,h=>by
  have lt:f k % l.length<l.length:=Nat.mod_lt _ (by omega)
  unfold pickOrder.go
  rw[List.getElem?_eq_getElem lt]
  dsimp only
  refine(rZ f n (k+1) _ _ (by rw[List.length_eraseIdx_of_lt lt];omega)).trans ?_
  rw[Array.toList_push,List.append_assoc]
  refine List.Perm.append_left _ ?_
  have e:l=l.take (f k % l.length)++l[f k % l.length]::l.drop (f k % l.length+1):=by rw[←List.drop_eq_getElem_cons lt,List.take_append_drop]
  rw[List.eraseIdx_eq_take_drop_succ]
  conv=>rhs;rw[e]
  show(l[f k % l.length]::(l.take (f k % l.length)++l.drop (f k % l.length+1))).Perm _
  exact List.perm_middle.symm
section
variable {P:Program} {w:World} {A:Around} {E:Value→Shared→Prop} {s:Shared}
theorem CM {r:Addr} {Q:Bool→Shared→Prop} (hT:s.TypeIs (.ref r) "set") (h:Q false s):wpAny (model P w) A (Builtin.List.listLengthHint (.ref r)) Q E s:=by
 unfold Builtin.List.listLengthHint
 refine wpAny_bind (wpAny_specialOf hT PySem.F.slot_set_len.lookup ?_)
 generalize hid:("set.__len__":String)=id0
 wp_delta
 rw[show splitId id0=some ("set","__len__") from by subst hid;decide+kernel]
 subst hid
 refine wpAny_bind (wpAny_isInstance (T:="set") (b:=true) hT (by rw[isSubtype_type];kernel_rfl) ?_)
 refine wpAny_ite_split (fun hab=>absurd hab (by decide)) (fun _=>?_)
 refine wpAny_ite_split (fun _=>?_) (fun hab=>absurd (by decide+kernel) hab)
 exact wpAny_bind (wpAny_typeOf hT (wpAny_pure h))
end
end L2
namespace L2
open PySem PySem.Spec PyProof.Rows
open PySem.AutoSeq1 (wpAny_loadPart')
end L2
namespace L2
open PySem PySem.Spec PyProof.Rows PySem.W PySem.Builtin PySem.Builtin.ObjectAttr
end L2
namespace L2
open PySem PySem.Spec PyProof.Rows
theorem A' (ys:List Str):(Txt.join ("":Str) ys).length≤(ys.map (·.length)).sum:=by
 cases ys with
 | nil=>exact Nat.le_of_eq rfl
 | cons a r=>
  unfold Txt.join
  rw[StrLaws.glued_eq_join,len_join_cons]
  have:(Str.length ("":Str))=0:=rfl
  rw[this]
  omega
section
variable {X:Cx} {e:Expr} {lo hi:Option Expr} {st:Expr} {te:TE} {tl th tk:TO} {p2 pos:Pos}
def Kx (K:PySem.W.Frag) (x:V) (l u k:Option Int):Hp→VK→Prop:=fun H Q=>∃a xs,l=none∧u=none∧k=some (-1)∧x=.ref a∧bJ K H a xs∧∀p,H p=none→Q (.ref p) (upd H p (.lst xs.reverse))
def Ky (K:PySem.W.Frag) (te:TE) (tl th tk:TO):TE:=fun σ H Q=>te σ H fun x H1=>tl σ H1 fun l H2=>th σ H2 fun u H3=>tk σ H3 fun k H4=>Kx K x l u k H4 Q
theorem Fy (K:PySem.W.Frag) (he:PE X e te) (hl:PO X lo tl) (hu:PO X hi th) (hk:PO X (some st) tk) (hK:X.K=K:=by rfl):PE X (.Subscript e (.Slice lo hi (some st) p2) pos) (Ky K te tl th tk):=by
 subst hK
 intro pins s σ H Q I h
 refine Subscript_ (aG (he pins s σ H _ I h) fun v s1 ⟨x,H1,I1,r1,q1⟩=>?_)
 refine wpAny_Slice (aG (hl pins s1 σ H1 _ I1 q1) fun vl s2 ⟨l,H2,I2,pl,q2⟩=>aG (hu pins s2 σ H2 _ I2 q2) fun vu s3 ⟨u,H3,I3,pu,q3⟩=>aG (hk pins s3 σ H3 _ I3 q3) fun vk s4 ⟨k,H4,I4,pk,q4⟩=>?_)
 obtain⟨a,xs,rfl,rfl,rfl,rfl,hx,q⟩:=q4
 cases pl
 cases pu
 cases pk with
 | int i t=>
  cases r1
  have I5:Inv X pins σ H4 {s4 with heap:=s4.heap.push {cls:=.type "slice",data:=.fields #[.none,.none,.int (-1) t]}}:=I4.kept (t':=s4.toks) fun b ob q=>Heap.get?_push_of_some _ q
  obtain⟨its,r,ht,hz⟩:=I5.list hx
  have hlen:its.toArray.size=xs.length:=by rw[List.size_toArray];exact r.length.symm
  show wpAny (model X.prog X.w) X.A (subscriptTail e (.Slice lo hi (some st) p2) (.ref a) (.ref s4.heap.objs.size)) (EP X pins σ Q) X.xe {s4 with heap:=s4.heap.push {cls:=.type "slice",data:=.fields #[.none,.none,.int (-1) t]}}
  refine tail_any (ops:=[.ref a,.ref s4.heap.objs.size]) ht.isList.typeIs list_getitem_lookup ?_ (by with_unfolding_all rfl)
  refine wpAny_getItem_list_slice (lo:=none) (hi:=none) (st:=some (-1)) ht.isList (Heap.IsSliceOf.new ..) .none .none (.int _ _) (by decide) ?_ (by rw[hlen];exact hz)
  rw[PySem.W.krv_pick]
  refine⟨.ref _,_,I5.laid (o:=.lst xs.reverse) (t':=s4.toks) (fun _ _ q=>Heap.get?_push_of_some _ q) (Nat.le_refl _) ?_,rfl,q _ (I5.hok.fresh (Nat.le_refl _))⟩
  exact⟨by rw[List.length_reverse];exact hz,_,0,kq r,Heap.get?_push_size _ rfl⟩
end
theorem jM {X:Cx} {a:Expr} {ta:TE} (K:PySem.W.Frag) (ha:PE X a ta) (he:∀whole,isTrue a X.env whole=(do let v ←whole;standAt a.pos;holding [v] (truthy v))) (hK:X.K=K:=by rfl):
  PT X a (fun σ H Q=>ta σ H fun x H'=>∃k,Cr K x H' k∧Q k H'):=by subst hK;exact gZ ha he
structure fb (ps aJ:List Str) (scope:Scope):Prop where
 kind:scope.kind=.function
 co:scope.isCoroutine=false
 gen:scope.isGenerator=false
 Ba:∀x∈scope.names,x.2≠.cell
 par:∀x∈ps,scope.names.lookup x=some .local
 free:∀x∈aJ,scope.names.lookup x=some .free
 only:∀x,scope.names.lookup x=some .free→x∈aJ
 nd:(ps++aJ).Nodup
structure oY (h:Heap) (cl:List (Str×Addr)) (aJ:List Str) (fvs:List V):Prop where
 inj:∀x y c,cl.lookup x=some c→cl.lookup y=some c→x=y
 cell:∀x c,cl.lookup x=some c→∃v,h.IsCell c v
 vals:Paired (fun x v=>∃c u,cl.lookup x=some c∧h.IsCell c (some u)∧RelV v u) aJ fvs
def Bb (P:Program) (w:World) (K:PySem.W.Frag) (mg:Str→Option Value) (base:Heap) (N:List Str) (qual:Str) (scope:Scope) (f:Addr) (cd:Value) (cl:List (Str×Addr)) (A:Around) (outer:List Env) (s:Shared) (H:Hp):Cx where
 prog:=P
 w:=w
 K:=K
 mg:=mg
 base:=base
 A:=A.deeper (PySem.W.envX qual scope s.heap.objs.size f cd cl)
 N:=N
 s₀:=s
 H₀:=H
 env:=PySem.W.envX qual scope s.heap.objs.size f cd cl
 outer:=outer
 stack:=PySem.W.envX qual scope s.heap.objs.size f cd cl::outer
 ex:=[]
 calm:=true
 fn:=fun _=>false
 pn:=[]
 xe:=fun _ _=>False
theorem Fz {ps:List Str} {us:List Value} (nd:ps.Nodup) (hl:ps.length≤us.length) {i:Nat} {y:Str} {u:Value} (hp:ps[i]? =some y) (hu:us[i]? =some u):(ps.zip us).reverse.lookup y=some u:=by
 have hm:(y,u)∈(ps.zip us).reverse:=by
  rw[List.mem_reverse]
  refine List.mem_of_getElem? (i:=i) ?_
  rw[List.getElem?_zip_eq_some]
  exact⟨hp,hu⟩
 have hn:((ps.zip us).reverse.map (·.1)).Nodup:=by
  rw[List.map_reverse]
  refine(List.reverse_perm _).nodup_iff.mpr ?_
  rw[List.map_fst_zip hl]
  exact nd
 generalize (ps.zip us).reverse=l at hm hn
 induction l with
 | nil=>cases hm
 | cons p l ih=>
  rw[List.map_cons,List.nodup_cons] at hn
  rcases List.mem_cons.mp hm with e | e
  ·subst e;exact List.lookup_cons_self
  ·have:y≠p.1:=fun z=>hn.1 (by rw[←z];exact List.mem_map.mpr ⟨_,e,rfl⟩)
   obtain⟨a,b⟩:=p
   rw[List.lookup_cons,show(y == a)=false from beq_false_of_ne this]
   exact ih e hn.2
theorem iY {α β:Type} {F:α→β→Prop}:∀{l:List α} {m:List β} {i:Nat} {a:α},Paired F l m→l[i]? =some a→∃b,m[i]? =some b∧F a b
 | _,_,_,_,.nil,h=>by simp at h
 | _,_,0,_,.cons r _,h=>by simp at h;subst h;exact⟨_,rfl,r⟩
 | _,_,i+1,_,.cons _ t,h=>by
  simp only[List.getElem?_cons_succ] at h ⊢
  exact iY t h
theorem FA {P:Program} {w:World} {K:PySem.W.Frag} {mg:Str→Option Value} {base:Heap} {ps aJ:List Str} {qual:Str} {scope:Scope} {f:Addr} {cd:Value} {cl:List (Str×Addr)} {A:Around} {outer:List Env} {s:Shared} {H:Hp} {us:List Value} {vs fvs:List V} {h1:Heap} {fo:Obj} {tk:Nat}
  (S:fb ps aJ scope) (hd:A.handled=none) (e0:qy P w K mg base A outer s H) (hl:vs.length=ps.length) (r:Vals vs us) (C:oY base cl aJ fvs)
  (hns:h1.Ns s.heap.objs.size fun x=>(ps.zip us).reverse.lookup x) (hsb:Heap.SameBut s.heap.objs.size (s.heap.push fo) h1):
  Inv (Bb P w K mg base (ps++aJ) qual scope f cd cl A outer s H) [] (vs.map some++fvs.map some) H {s with heap:=h1,toks:=tk}:=by
 have hk:∀b o,s.heap.get? b=some o→h1.get? b=some o:=fun b o e=>hsb.extBut b o (Nat.ne_of_lt (Heap.lt_size e)) (Heap.get?_push_of_some _ e)
 have hkb:∀b o,base.get? b=some o→h1.get? b=some o:=fun b o e=>hk b o (e0.bs b o e).1
 have ox:∀b:Addr,b ∉ (Bb P w K mg base (ps++aJ) qual scope f cd cl A outer s H).ex:=fun b z=>absurd (show b∈([]:List Addr) from z) (by simp)
 have lf:aJ.length=fvs.length:=Paired.length C.vals
 refine⟨⟨e0.mod,S.kind,rfl,rfl,Nat.le_refl _,C.inj,fun y hy=>?_,fun y c z=>(nomatch z),fun _=>hd,Around.frames_deeper e0.frames,.inr ⟨rfl,rfl⟩,fun b z=>absurd z (ox b),e0.bs,e0.lZ,fun b _ _=>ox b,fun b z=>absurd z (ox b),e0.gY,e0.ur⟩,
  rfl,e0.bare,Un.kept hk,⟨_,hns,fun i y v h1' h2 h3=>?_⟩,fun y c h=>?_,e0.hok.fresh (Nat.le_refl _),fun y c h=>?_,fun p hp=>absurd (show p∈([]:List (Addr×Obj)) from hp) (by simp),e0.hok.kept hk,?_⟩
 ·have hy:scope.names.lookup y=some .cell∨scope.names.lookup y=some .free:=hy
  rcases hy with hy | hy
  ·exact absurd rfl (S.Ba _ (PySem.mem_of_lookup hy))
  ·have hm:=S.only y hy
   obtain⟨i,hi⟩:=List.getElem?_of_mem hm
   obtain⟨v,_,c,u,hc,_⟩:=iY C.vals hi
   exact⟨c,hc⟩
 ·have qJ:(ps++aJ)[i]? =some y:=h1'
  by_cases hi:i<ps.length
  ·rw[List.getElem?_append_left hi] at qJ
   rw[List.getElem?_append_left (by rw[List.length_map];omega),List.getElem?_map] at h2
   obtain⟨v',hv',e⟩:=Option.map_eq_some_iff.mp h2
   have e':v'=v:=Option.some.inj e
   subst e'
   obtain⟨u,hu,rv⟩:=r.get hv'
   have DU:ps.Nodup:=(List.nodup_append.mp S.nd).1
   exact⟨u,rv,.inl ⟨S.par y (List.mem_of_getElem? qJ),Fz DU (by rw[←hl,r.length];exact Nat.le_refl _) qJ hu⟩⟩
  ·rw[List.getElem?_append_right (by omega)] at qJ
   rw[List.getElem?_append_right (by rw[List.length_map];omega),List.length_map,hl,List.getElem?_map] at h2
   obtain⟨v',hv',e⟩:=Option.map_eq_some_iff.mp h2
   have e':v'=v:=Option.some.inj e
   subst e'
   obtain⟨v2,hv2,c,u,hc,⟨o,ho,hd'⟩,rv⟩:=iY C.vals qJ
   rw[hv'] at hv2
   cases hv2
   exact⟨u,rv,.inr ⟨.inr (S.free y (List.mem_of_getElem? qJ)),c,hc,o,hkb _ _ ho,hd'⟩⟩
 ·obtain⟨v,o,ho,hd'⟩:=C.cell y c h
  exact⟨v,o,hkb _ _ ho,hd'⟩
 ·obtain⟨v,o,ho,hd'⟩:=C.cell y c h
  exact(e0.bs c o ho).2
 ·show _=(ps++aJ).length
  rw[List.length_append,List.length_map,List.length_map,List.length_append,hl,lf]
theorem Ht {P:Program} {w:World} {K:PySem.W.Frag} {mg:Str→Option Value} {base:Heap} {k:Nat} {f c':Addr} {name qual:Str} {params:Arguments} {body:Expr} {scope:Scope} {cl:List (Str×Addr)} {pm ctv:Value} {ps aJ:List Str} {fvs:List V} {sp:Sp}
  (ho:base.get? f=some (PySem.W.kla_obj name qual params body scope cl pm c' ctv)) (Hu:base.CodeRec (.ref c') qual) (S:fb ps aJ scope) (C:oY base cl aJ fvs) (len:∀vs H Q E,sp vs H Q E→vs.length=ps.length)
  (hbody:∀(A:Around) (outer:List Env) (s:Shared) (H:Hp) (vs:List V) (Q:VK) (E:XK),aU k (A.deeper (PySem.W.envX qual scope s.heap.objs.size f (.ref c') cl))→sp vs H Q E→
   ∃t,PE (Bb P w K mg base (ps++aJ) qual scope f (.ref c') cl A outer s H) body t∧t (vs.map some++fvs.map some) H Q):
  bD P w K mg base cE (k+1) f (PySem.W.kla_fn name qual params body scope cl pm (.ref c') ctv) ps sp:=by
 refine⟨len,fun A outer s H args us vs Q E hr e0 hb r hsp=>?_⟩
 have hl:=len _ _ _ _ hsp
 have lim:s.heap.NoLimit:=e0.mod.nolimit.keeps fun b o e=>(e0.bs b o e).1
 have Nf:s.heap.CodeRec (.ref c') qual:=by
  obtain⟨c,oc,vs',tq,hc,hoc,hdc,hq⟩:=Hu
  exact⟨c,oc,vs',tq,hc,(e0.bs _ _ hoc).1,hdc,hq⟩
 refine PySem.W.kla_callFunE hr.depth (e0.bs _ _ ho).1 rfl S.co S.gen rfl Nf (hb _ _ _ _ ?_)
 have hloc:∀y∈ps.zip us,scope.names.lookup y.1=some .local:=fun⟨n,v⟩ hy=>S.par n (List.of_mem_zip hy).1
 refine wpAny_newFunctionEnv S.Ba hloc (fun h₁ hns hsb=>⟨lim.fresh _ hsb,?_⟩) S.kind
 obtain⟨t,ht,hq⟩:=hbody A outer s H vs Q E (hr.deeper _) hsp
 have I:Inv (Bb P w K mg base (ps++aJ) qual scope f (.ref c') cl A outer s H) [] (vs.map some++fvs.map some) H {s with heap:=h₁,toks:=s.toks+(ps.zip us).length}:=FA S hr.hd e0 hl r C hns hsb
 refine PySem.W.kla_codeExpr (wpAny_mono (ht [] _ _ H _ I hq) (fun v s' hs=>?_) fun e s' hs=>hs.elim)
 obtain⟨x,H',J,rv,q⟩:=hs
 exact⟨x,H',J.os,J.bare,J.base,J.hok,rv,q⟩
section
variable {X:Cx} {x:Str} {p pos:Pos} {e:Expr} {es:List Expr} {t:TA} {k:Nat} {f:Addr} {fd:FuncData} {ps:List Str} {sp:Sp}
def Hv (i:Nat) (f:Addr) (sp:Sp) (t:TA):TE:=fun σ H Q=>σ[i]? =some (some (.ref f))∧t σ H fun vs H1=>sp vs H1 Q E0
theorem uW (F:bD X.prog X.w X.K X.mg X.base cE k f fd ps sp) {i:Nat} {o:Obj} (ho:X.base.get? f=some o) (hof:o.data=.func fd) (hr:aU k X.A) (hb:∀us:List Value,us.length=ps.length→bindArgs fd ⟨us,[]⟩=pure (ps.zip us))
  (hN:X.N[i]? =some x) (hv:x' X.env.scope x) (ha:PA X (e::es) t) (hdb:(x == ("__debug__":Str))=false:=by decide) (hcd:(x == ("__classdict__":Str))=false:=by decide)
  (he:starEach (e::es) X.env=(false,eval e X.env)::starEach es X.env:=by rfl) (hpl:(backTo pos (starEach es X.env)).any (·.1)=false:=by rfl):
  PE X (.Call (.Name x p) (e::es) [] pos) (Hv i f sp t):=by
 intro pins s σ H Q I h
 obtain⟨hi,h⟩:=h
 obtain⟨m,hn,hl⟩:=I.loc
 obtain⟨u,r,l⟩:=hl i x (.ref f) hN hi hv
 obtain rfl:u=Value.ref f:=r
 have fin:wpAny (model X.prog X.w) X.A (callWith pos (.ref f) [] (backTo pos (starEach (e::es) X.env)) []) (EP X pins σ Q) X.xe s:=by
  have h0:wpAny (model X.prog X.w) X.A (spliced (backTo pos (starEach (e::es) X.env))) (fun us s₁=>s₁.heap.get? f=some o∧wpAny (model X.prog X.w) X.A (call (.ref f) ([]++us)) (EP X pins σ Q) X.xe s₁) X.xe s:=by
   refine aG (ha pos pins s σ H _ I h) fun us s1 ⟨vs,H1,I1,r,q⟩=>⟨I1.bk _ _ ho,?_⟩
   exact AH (ds:=[]) (pM:=[]) F hr (Binds.all hb) .nil aR I1 r (by rw[List.append_nil];exact q)
  rw[he] at h0 ⊢
  refine PySem.W.callWith_of (P:=fun h=>h.get? f=some o) ?_ (fun h hf=>⟨.frame,.inl rfl,(PySem.W.Looks.ld (part:=none) hf).andThen ?_⟩) (Calls.evalArgs_plain h0)
  ·show((false||(backTo pos (starEach es X.env)).any (·.1))||false)=false
   rw[hpl];rfl
  ·rw[hof]
   exact .now
 rcases l with⟨hk,hm⟩ | ⟨hk,c,hc,hcell⟩
 ·exact wpAny_Call_Name_kw (wpAny_Name (wpAny_loadName_local I.ok.kind hk hn hm fin) hdb)
 ·rcases hk with hk | hk
  ·exact wpAny_Call_Name_kw (wpAny_Name (wpAny_loadName_cell I.ok.kind hk hc hcell fin) hdb)
  ·exact wpAny_Call_Name_kw (wpAny_Name (wpAny_loadName_free I.ok.kind hk hc hcell fin hcd) hdb)
end
def uX (f:Addr) (o:Obj):HO:=.ext fun h=>h.get? f=some o
def r_ (c:Addr) (qual:Str):HO:=.ext fun h=>h.CodeRec (.ref c) qual
section
variable {P:Program} {w:World} {H:Hp} {h:Heap}
theorem Bc {f:Addr} {o:Obj} (e:h.get? f=some o):bp P w H h f (uX f o):=
 ⟨e,⟨o,e⟩,fun h1 h2 q k=>k o q⟩
theorem Hw {c:Addr} {qual:Str} (e:h.CodeRec (.ref c) qual):bp P w H h c (r_ c qual):=by
 refine⟨e,?_,fun h1 h2 q k=>?_⟩
 ·obtain⟨c',o,vs,t,e1,e2,_⟩:=e
  cases e1
  exact⟨o,e2⟩
 ·obtain⟨c',o,vs,t,e1,e2,r⟩:=q
  cases e1
  exact⟨c,o,vs,t,rfl,k o e2,r⟩
end
def Tab (H:Hp) (T:Addr) (L:List (Pos×Str)):Prop:=
 ∃ps:Array Value,H T=some (.cD ps)∧TriplesOk ps.toList∧∀p∈L,codeAmong p.1 ps.toList=none∨∃c,codeAmong p.1 ps.toList=some (.ref c)∧H c=some (r_ c p.2)
theorem Tab.same {H H':Hp} {T:Addr} {L:List (Pos×Str)} (x:Tab H T L) (s:Same H H'):Tab H' T L:=by
 obtain⟨ps,h1,h2,h3⟩:=x
 refine⟨ps,s _ _ h1,h2,fun p hp=>?_⟩
 rcases h3 p hp with z | ⟨c,z,q⟩
 ·exact .inl z
 ·exact .inr ⟨c,z,s _ _ q⟩
theorem Tab.kb {H H':Hp} {T d:Addr} {L:List (Pos×Str)} (x:Tab H T L) (s:KB d H H') (hd:∀ps,H d≠some (.cD ps)) (hx:∀φ,H d≠some (.ext φ)):Tab H' T L:=by
 obtain⟨ps,h1,h2,h3⟩:=x
 refine⟨ps,s _ _ h1 (fun e=>hd ps (e▸h1)),h2,fun p hp=>?_⟩
 rcases h3 p hp with z | ⟨c,z,q⟩
 ·exact .inl z
 ·exact .inr ⟨c,z,s _ _ q fun e=>hx _ (e▸q)⟩
theorem zI {p q:Pos} {c:Value}:∀(l:List Value),TriplesOk l→∀d,codeAmong p (l++[rawInt q.line,rawInt q.col,c])=some d→codeAmong p l=some d∨(codeAmong p l=none∧p.line=q.line∧p.col=q.col∧d=c):=by
 intro l
 fun_induction TriplesOk l with
 | case1=>
  intro _ d h
  simp only[List.nil_append,codeAmong,rawInt] at h
  split at h
  ·rename_i hc
   simp at hc
   cases h
   exact .inr ⟨rfl,by omega,by omega,rfl⟩
  ·cases h
 | case2 a t b u x rest ih=>
  intro hl d h
  simp only[List.cons_append,codeAmong] at h ⊢
  split at h
  ·rename_i hc;rw[if_pos hc];exact .inl h
  ·rename_i hc;rw[if_neg hc];exact ih hl d h
 | case3 l h1 h2=>intro h;exact h.elim
def Apart (L:List (Pos×Str)):Prop:=∀p∈L,∀q∈L,p.1.line=q.1.line→p.1.col=q.1.col→p=q
theorem Tab.grown {H H':Hp} {T c':Addr} {L:List (Pos×Str)} {ps:Array Value} {q:Pos×Str} (hq:q∈L) (ap:Apart L) (h2:TriplesOk ps.toList) (h3:∀p∈L,codeAmong p.1 ps.toList=none∨∃c,codeAmong p.1 ps.toList=some (.ref c)∧H c=some (r_ c p.2))
  (hT:H' T=some (.cD (ps++ #[rawInt q.1.line,rawInt q.1.col,.ref c']))) (hc:H' c'=some (r_ c' q.2)) (k:∀b φ,H b=some (.ext φ)→H' b=some (.ext φ)):Tab H' T L:=by
 have e:(ps++ #[rawInt q.1.line,rawInt q.1.col,.ref c']).toList=ps.toList++[rawInt q.1.line,rawInt q.1.col,.ref c']:=by simp
 refine⟨_,hT,by rw[e];exact TriplesOk_snoc _ _ _ _ h2,fun p hp=>?_⟩
 rw[e]
 cases z:codeAmong p.1 (ps.toList++[rawInt q.1.line,rawInt q.1.col,.ref c']) with
 | none=>exact .inl rfl
 | some d=>
  rcases zI _ h2 d z with y | ⟨_,y1,y2,y3⟩
  ·rcases h3 p hp with n | ⟨c,n,r⟩
   ·rw[n] at y;cases y
   ·rw[n] at y;cases y
    exact .inr ⟨c,rfl,k _ _ r⟩
  ·have:=ap p hp q hq y1 y2
   subst this
   subst y3
   exact .inr ⟨c',rfl,hc⟩
section
variable {X:Cx} {pos:Pos} {params:Arguments} {body:Expr} {scope:Scope} {c T:Addr} {clos:List (Str×Addr)} {L:List (Pos×Str)} {bm:Addr} {ob:Obj}
abbrev lamO (X:Cx) (params:Arguments) (body:Expr) (scope:Scope) (clos:List (Str×Addr)) (c':Addr) (ctv:Value):Obj:=PySem.W.kla_obj "<lambda>" (X.env.qual++"<lambda>") params body scope clos ((X.mg "__name__").getD .none) c' ctv
def Hy (X:Cx) (params:Arguments) (body:Expr) (scope:Scope) (clos:List (Str×Addr)) (T:Addr) (L:List (Pos×Str)):TE:=fun σ H Q=>
 Tab H T L∧∀f c' ctv H',H f=none→H' f=some (uX f (lamO X params body scope clos c' ctv))→H' c'=some (r_ c' (X.env.qual++"<lambda>"))→Tab H' T L→KB T H H'→Q (.ref f) H'
def gI (mg:Str→Option Value) (base:Heap):Prop:=
 ∃bm o,mg "__builtins__"=some (.ref bm)∧bm≠builtinsNs∧base.get? bm=some o∧o.cls=.type "module"∧o.dict=some builtinsNs∧o.data=.plain
theorem Hz (hcode:X.env.code=.ref c) (C:PySem.W.CodeHd X.base c T) (hB:gI X.mg X.base) (hcl:closureFor scope X.env=pure clos) (hdef:defaultsOf params X.env=([],[])) (hL:(pos,X.env.qual++"<lambda>")∈L) (ap:Apart L) (hfs:X.ex=[]):
  PE X (.Lambda params body scope pos) (Hy X params body scope clos T L):=by
 intro pins s σ H Q I ⟨⟨ps,hT,ht,htab⟩,h⟩
 refine PySem.W.kla_eval hdef ?_
 have D4:s.heap.get? T=some (PySem.W.tabObj ps):=I.hok T _ hT
 have hg:s.heap.Ns mainGlobals X.mg:=I.ok.mod.glob.keeps I.bk
 have QB:mainGlobals≠T:=fun q=>by
  obtain⟨o,es,ep,e,hd,_⟩:=hg
  rw[q,D4] at e;cases e;cases hd
 have D5:s.heap.BuiltinsAt X.mg T:=by
  obtain⟨bm,o,h1,h2,h3,h4,h5,h6⟩:=hB
  refine⟨bm,o,h1,h2,fun q=>?_,fun q=>?_,I.bk _ _ h3,h4,h5,h6⟩
  ·obtain⟨o',es,ep,e,hd,_⟩:=I.ok.mod.glob
   rw[q,e] at h3;cases h3;rw[hd] at h6;cases h6
  ·have:=I.bk _ _ h3
   rw[q,D4] at this;cases this;cases h4
 have K':=C.keeps I.bk
 rcases htab _ hL with hn | ⟨c',hc',QC⟩
 ·refine PySem.W.kla_makeFunction (mg:=X.mg) hcl I.ok.glob hg hcode K' D4 ht hn QB D5 fun c' ctv h' tk hx hge hlt hrec htb=>?_
  have nc:H c'=none:=I.hok.fresh hge
  have La:s.heap.objs.size≤h'.objs.size:=Nat.le_of_lt (Nat.lt_of_le_of_lt hge hlt)
  have nf:H h'.objs.size=none:=I.hok.fresh La
  have fc:h'.objs.size≠c':=Nat.ne_of_gt hlt
  have Tc:T≠c':=aj hT nc
  have Tf:T≠h'.objs.size:=aj hT nf
  have fT:=Ne.symm Tf
  have cT:=Ne.symm Tc
  have keep:∀b o,b≠T→s.heap.get? b=some o→(h'.push (lamO X params body scope clos c' ctv)).get? b=some o:=fun b o hb e=>Heap.get?_push_of_some _ (hx b o hb e)
  let H':Hp:=upd (upd (upd H T (.cD (ps++ #[rawInt pos.line,rawInt pos.col,.ref c']))) c' (r_ c' (X.env.qual++"<lambda>"))) h'.objs.size (uX h'.objs.size (lamO X params body scope clos c' ctv))
  have eT:H' T=some (.cD (ps++ #[rawInt pos.line,rawInt pos.col,.ref c'])):=by show upd _ _ _ _=_;rw[aq Tf,aq Tc,af]
  have ec:H' c'=some (r_ c' (X.env.qual++"<lambda>")):=by show upd _ _ _ _=_;rw[aq fc.symm,af]
  have ef:H' h'.objs.size=some (uX h'.objs.size (lamO X params body scope clos c' ctv)):=af
  have eo:∀b,b≠T→b≠c'→b≠h'.objs.size→H' b=H b:=fun b h1 h2 h3=>by show upd _ _ _ _=_;rw[aq h3,aq h2,aq h1]
  have kb:KB T H H':=fun b o e hb=>by rw[eo b hb (aj e nc) (aj e nf)];exact e
  have hnew:∀b o,s.heap.get? b=some o→b≠c'∧b≠h'.objs.size:=fun b o e=>⟨Nat.ne_of_lt (Nat.lt_of_lt_of_le (Heap.lt_size e) hge),Nat.ne_of_lt (Nat.lt_of_lt_of_le (Heap.lt_size e) La)⟩
  have HA:=Tab.grown (H:=H) (H':=H') hL ap ht htab eT ec fun b φ e=>kb b _ e fun z=>by rw[z,hT] at e;cases e
  have hok':cZ X.prog X.w H' (h'.push (lamO X params body scope clos c' ctv)):=fun b u e=>by
   by_cases b1:b=T
   ·subst b1
    rw[eT] at e;cases e
    exact Heap.get?_push_of_some _ htb
   by_cases b2:b=c'
   ·subst b2
    rw[ec] at e;cases e
    exact Hw (hrec.push _)
   by_cases b3:b=h'.objs.size
   ·subst b3
    rw[ef] at e;cases e
    exact Bc (Heap.get?_push_size _ rfl)
   rw[eo b b1 b2 b3] at e
   refine(I.hok b u e).stay (fun d v hd q=>keep d v ?_ q) (fun d q=>kb d _ q ?_) fun d xs q=>kb d _ q ?_
   ·rintro rfl
    rcases hd with z | z
    ·exact b1 z.symm
    ·rw[hT] at z;cases z
   ·rintro rfl;rw[hT] at q;cases q
   ·rintro rfl;rw[hT] at q;cases q
  refine⟨.ref h'.objs.size,H',?_,rfl,h _ _ _ _ nf ef ec HA kb⟩
  have ne_T:∀b,H b=none→b≠T:=fun b n z=>by rw[z,hT] at n;cases n
  refine I.un ⟨fun b o e n _ _=>keep b o (ne_T b n) e,fun b o e n _ _=>⟨o.slots,keep b o (ne_T b n) e⟩,fun b o e n _=>by rw[eo b (ne_T b n) (hnew b o e).1 (hnew b o e).2];exact n,fun b o e _=>?_,fun b xs e=>kb b _ e fun z=>?_,fun b o u e=>kb b _ e fun z=>?_,fun b qs e=>?_⟩ hok'
  ·by_cases hb:b=T
   ·subst hb;exact⟨_,Heap.get?_push_of_some _ htb⟩
   ·exact⟨o,keep b o hb e⟩
  ·rw[z,hT] at e;cases e
  ·rw[z,hT] at e;cases e
  ·by_cases hb:b=T
   ·subst hb
    rw[hT] at e;cases e
    exact⟨_,eT⟩
   ·exact⟨#[],by rw[kb b _ e hb];simp⟩
 ·refine PySem.W.kla_makeFunctionHit (mg:=X.mg) hcl I.ok.glob hg hcode K' D4 ht hc' D5 fun ctv h' tk hk hsz=>?_
  have nf:H h'.objs.size=none:=I.hok.fresh hsz
  have keep:∀b o,s.heap.get? b=some o→(h'.push (lamO X params body scope clos c' ctv)).get? b=some o:=fun b o e=>Heap.get?_push_of_some _ (hk b o e)
  have kb:Same H (upd H h'.objs.size (uX h'.objs.size (lamO X params body scope clos c' ctv))):=fun b o e=>by rw[aq (aj e nf)];exact e
  refine⟨.ref h'.objs.size,upd H h'.objs.size (uX h'.objs.size (lamO X params body scope clos c' ctv)),I.laid keep hsz (Bc (Heap.get?_push_size _ rfl)),rfl,h _ c' ctv _ nf af (kb _ _ QC) (Tab.same ⟨ps,hT,ht,htab⟩ kb) fun b o e _=>kb b o e⟩
end
def dU (D:List Addr) (H:Hp):Hp:=fun b=>if b∈D then none else H b
def gv (D:List Addr) (H H2:Hp):Hp:=fun b=>if b∈D then H b else H2 b
theorem kr {D:List Addr} {H:Hp} {b:Addr} (h:b∈D):dU D H b=none:=if_pos h
theorem gw {D:List Addr} {H:Hp} {b:Addr} (h:b ∉ D):dU D H b=H b:=if_neg h
theorem yC {D:List Addr} {H H2:Hp} {b:Addr} (h:b∈D):gv D H H2 b=H b:=if_pos h
theorem dX {D:List Addr} {H H2:Hp} {b:Addr} (h:b ∉ D):gv D H H2 b=H2 b:=if_neg h
def wide (h:Heap) (H:Hp) (fs:List Addr):Heap:=PySem.W.hideAll (jd h H) fs
theorem Bd (h:Heap) (H:Hp) (fs:List Addr):(wide h H fs).objs.size=h.objs.size:=(PySem.W.hideAll_size _ _).trans (rm _ _)
theorem oZ {h:Heap} {H:Hp} {fs:List Addr} {b:Addr} {o:Obj} (e:h.get? b=some o) (n:H b=none) (nf:b ∉ fs):(wide h H fs).get? b=some o:=PySem.W.hideAll_get _ (um e n) nf
theorem FC {h:Heap} {H:Hp} {fs:List Addr} {b:Addr} {o:Obj} (e:(wide h H fs).get? b=some o):h.get? b=some o∧H b=none:=x6 (PySem.W.of_hideAll fs e)
theorem Be {h:Heap} {H:Hp} {fs:List Addr} {b:Addr} (hb:b∈fs):(wide h H fs).get? b=none:=PySem.W.hideAll_none fs hb
theorem funFrames_base {h base base':Heap}:∀{l:List Env},h.FunFrames base l→(∀b∈frs l,base'.get? b=none)→h.FunFrames base' l
 | [],_,_=>trivial
 | env::r,⟨hk,⟨L,o,hf,hn,ho,hd⟩,hr⟩,k=>by
  have e:frs (env::r)=L::frs r:=by unfold frs;rw[List.filterMap_cons,hf]
  exact⟨hk,⟨L,o,hf,k L (by rw[e];exact List.mem_cons_self),ho,hd⟩,funFrames_base hr fun b hb=>k b (by rw[e];exact List.mem_cons_of_mem _ hb)⟩
structure Wide (X:Cx) (σ:St) (D:List Addr) (H:Hp) (base':Heap):Prop where
 sub:∀b o,X.base.get? b=some o→base'.get? b=some o
 mod:Mod X.K X.mg base'
 ext:∀a φ,a∈D→H a=some (.ext φ)→φ base'
 val:∀(i:Nat) (x:Str) (v:V),X.N[i]? =some x→σ[i]? =some (some v)→X.env.scope.names.lookup x=some .cell→∃c u,X.env.cells.lookup x=some c∧base'.IsCell c (some u)∧RelV v u
 cell:∀x c,X.env.cells.lookup x=some c→∃v,base'.IsCell c v
 inj:∀x y c,X.env.cells.lookup x=some c→X.env.cells.lookup y=some c→x=y
section
variable {X:Cx} {k:Nat} {f:Addr} {fd:FuncData} {ps:List Str} {sp:Sp} {pins:List (Addr×Obj)} {σ:St} {H:Hp} {s:Shared} {D:List Addr}
theorem yD (I:Inv X pins σ H s) (hfn:∀x,X.fn x=true) (hD:∀a∈D,∃φ,H a=some (.ext φ)):Wide X σ D H (wide s.heap (dU D H) (frs X.stack)):=by
 have nD:∀b,H b=none→b ∉ D:=fun b n z=>by obtain⟨φ,e⟩:=hD b z;rw[n] at e;cases e
 have QD:∀b o,X.base.get? b=some o→b ∉ frs X.stack:=fun b o e z=>by
  rcases List.mem_cons.mp (I.mn b z) with q | q
  ·have:=Heap.lt_size e
   rw[q] at this
   exact absurd (Nat.lt_of_lt_of_le this (Nat.le_trans I.ok.lZ I.ok.above)) (Nat.lt_irrefl _)
  ·exact I.ok.Gm e q
 have sub:∀b o,X.base.get? b=some o→(wide s.heap (dU D H) (frs X.stack)).get? b=some o:=fun b o e=>
  oZ (I.bs b o e).1 (by rw[gw (nD b (I.bs b o e).2)];exact(I.bs b o e).2) (QD b o e)
 have cellK:∀x c v,X.env.cells.lookup x=some c→s.heap.IsCell c v→(wide s.heap (dU D H) (frs X.stack)).IsCell c v:=fun x c v e ⟨o,ho,hd⟩=>by
  refine⟨o,oZ ho (by rw[gw (nD c (I.gg x c e))];exact I.gg x c e) fun z=>?_,hd⟩
  rcases List.mem_cons.mp (I.mn c z) with q | q
  ·exact I.rn x c e q
  ·obtain⟨_,o',ho',_⟩:=I.ok.gY.mem q
   exact absurd (Nat.lt_of_lt_of_le (Heap.lt_size ho') (I.ok.cab x c (hfn x) e)) (Nat.lt_irrefl _)
 refine⟨sub,⟨I.ok.mod.x8.keeps sub,I.ok.mod.glob.keeps sub,?_,I.ok.mod.nolimit.keeps sub⟩,fun a φ ha e=>?_,fun i x v h1 h2 h3=>?_,fun x c e=>?_,I.ok.inj⟩
 ·obtain⟨mb,h1,h2⟩:=I.ok.mod.blt
  exact⟨mb,h1.keeps sub,h2⟩
 ·obtain⟨p,⟨o,ho⟩,st⟩:=I.hok a _ e
  refine st _ _ p fun o' e'=>oZ e' (kr ha) fun z=>?_
  rw[I.j7 a z] at e;cases e
 ·obtain⟨m,_,hl⟩:=I.loc
  obtain⟨u,r,l⟩:=hl i x v h1 h2 (.inr (.inl h3))
  rcases l with⟨q,_⟩ | ⟨_,c,e,z⟩
  ·have q':X.env.scope.names.lookup x=some .local:=q
   rw[h3] at q';cases q'
  ·exact⟨c,u,e,cellK x c _ e z,r⟩
 ·obtain⟨v,z⟩:=I.cell x c e
  exact⟨v,cellK x c v e z⟩
theorem FD {Q:VK} {us:List Value} {vs:List V} (I:Inv X pins σ H s) (hfn:∀x,X.fn x=true) (hD:∀a∈D,∃φ,H a=some (.ext φ)) (F:bD X.prog X.w X.K X.mg (wide s.heap (dU D H) (frs X.stack)) cE k f fd ps sp) (hr:aU k X.A)
  (hb:Binds X.K fd ps []) (r:Vals vs us) (h:sp vs (dU D H) (fun v H2=>(∀b∈D,H2 b=none)→Q v (gv D H H2)) E0):wpAny (model X.prog X.w) X.A (call (.ref f) us) (EP X pins σ Q) X.xe s:=by
 have W:=yD I hfn hD
 have hl:(us++[]).length=ps.length:=by rw[List.append_nil,←r.length];exact F.len _ _ _ _ h
 have pW:∀b u,H b=some u→(∀φ,u≠.ext φ)→dU D H b=some u:=fun b u e ne=>by
  rw[gw fun z=>?_];exact e
  obtain⟨φ,q⟩:=hD b z
  rw[e] at q;cases q;exact ne φ rfl
 have uU:∀b u,dU D H b=some u→b ∉ D∧H b=some u:=fun b u e=>by
  by_cases hb:b∈D
  ·rw[kr hb] at e;cases e
  ·rw[gw hb] at e;exact⟨hb,e⟩
 have Ng:cZ X.prog X.w (dU D H) s.heap:=fun b u e=>(I.hok b u (uU b u e).2).stay (fun _ _ _ q=>q) (fun d q=>pW d _ q fun φ z=>nomatch z) fun d xs q=>pW d _ q fun φ z=>nomatch z
 have nU:∀b,H b=none→dU D H b=none:=fun b n=>by
  by_cases hb:b∈D
  ·exact kr hb
  ·rw[gw hb];exact n
 have e0:qy X.prog X.w X.K X.mg (wide s.heap (dU D H) (frs X.stack)) X.A X.stack s (dU D H):=
  ⟨I.ok.frames,W.mod,fun b o e=>FC e,Nat.le_of_eq (Bd _ _ _),funFrames_base I.stack fun b hb=>Be hb,fun b hb=>nU b (I.j7 b hb),Ng,I.bare⟩
 refine wpAny_call (codeAny_mono (F.run X.A X.stack s (dU D H) ⟨us,[]⟩ us vs _ _ hr e0 (by have:=hb s us I.gH hl;rwa [List.append_nil] at this) r h) fun r s' hq=>?_)
 cases r with
 | error e=>exact hq.elim
 | ok fl=>
  cases fl with
  | next=>exact False.elim hq
  | brk=>exact False.elim hq
  | cont=>exact False.elim hq
  | ret u=>
   obtain⟨v,H2,os,bare,un,hok,r,q⟩:=hq
   have inD:∀b,b∈D→∃φ o,H b=some (.ext φ)∧s.heap.get? b=some o∧s'.heap.get? b=some o∧H2 b=none:=fun b hb=>by
    obtain⟨φ,e⟩:=hD b hb
    obtain⟨p,⟨o,ho⟩,st⟩:=I.hok b _ e
    refine⟨φ,o,e,ho,un.keep b o ho (kr hb) (fun z=>?_) (by simp),un.free b o ho (kr hb) (by simp)⟩
    rw[I.j7 b z] at e;cases e
   have pX:∀b u,H2 b=some u→b ∉ D:=fun b u e z=>by obtain⟨_,_,_,_,_,n⟩:=inD b z;rw[n] at e;cases e
   have Nh:cZ X.prog X.w (gv D H H2) s'.heap:=fun b u e=>by
    by_cases hb:b∈D
    ·rw[yC hb] at e
     obtain⟨φ,o,e1,ho,ho',_⟩:=inD b hb
     rw[e1] at e;cases e
     obtain⟨p,_,st⟩:=I.hok b _ e1
     exact⟨st _ _ p fun o2 e2=>by rw[ho] at e2;cases e2;exact ho',⟨o,ho'⟩,st⟩
    ·rw[dX hb] at e
     exact(hok b u e).stay (fun _ _ _ q=>q) (fun d q=>by rw[dX (pX d _ q)];exact q) fun d xs q=>by rw[dX (pX d _ q)];exact q
   have QE:Un (frs X.stack) [] H (gv D H H2) s.heap s'.heap:=by
    have nD:∀b,H b=none→b ∉ D:=fun b n z=>by obtain⟨φ,e⟩:=hD b z;rw[n] at e;cases e
    refine⟨fun b o e n h1 h2=>un.keep b o e (nU b n) h1 h2,fun b o e n h1 h2=>un.slot b o e (nU b n) h1 h2,fun b o e n h2=>by rw[dX (nD b n)];exact un.free b o e (nU b n) h2,un.there,fun b xs e=>?_,fun b o u e=>?_,fun b qs e=>?_⟩
    ·have e1:=pW b _ e fun φ z=>nomatch z
     rw[dX (uU b _ e1).1];exact un.tups b xs e1
    ·have e1:=pW b _ e fun φ z=>nomatch z
     rw[dX (uU b _ e1).1];exact un.jX b o u e1
    ·have e1:=pW b _ e fun φ z=>nomatch z
     rw[dX (uU b _ e1).1];exact un.jY b qs e1
   exact I.after ⟨v,_,os,bare,QE,Nh,r,q fun b hb=>by obtain⟨_,_,_,_,_,n⟩:=inD b hb;exact n⟩
end
section
variable {X:Cx} {x:Str} {p pos:Pos} {e:Expr} {es:List Expr} {t:TA} {k:Nat} {f:Addr} {fd:FuncData} {ps:List Str}
def HB (X:Cx) (k:Nat) (f:Addr) (fd:FuncData) (ps:List Str) (t:TA):TE:=fun σ H Q=>t σ H fun vs H1=>∃D:List Addr,(∀a∈D,∃φ,H1 a=some (.ext φ))∧
 ∀base':Heap,Wide X σ D H1 base'→∃sp:Sp,bD X.prog X.w X.K X.mg base' cE k f fd ps sp∧sp vs (dU D H1) (fun v H2=>(∀b∈D,H2 b=none)→Q v (gv D H1 H2)) E0
theorem uY (hfn:∀x,X.fn x=true) (hr:aU k X.A) (hg:Gl X x) (hm:X.mg x=some (.ref f)) (hk:PySem.W.keepIn X.K (.ref f)=true) (hb:Binds X.K fd ps [])
  (ha:PA X (e::es) t) (hdb:(x == ("__debug__":Str))=false:=by decide) (he:starEach (e::es) X.env=(false,eval e X.env)::starEach es X.env:=by rfl) (hpl:(backTo pos (starEach es X.env)).any (·.1)=false:=by rfl):
  PE X (.Call (.Name x p) (e::es) [] pos) (HB X k f fd ps t):=by
 intro pins s σ H Q I h
 refine wpAny_Call_Name_kw (qu I hg hm ?_ hdb)
 refine PySem.W.callWith_K (h₀:=X.base) I.ok.mod.x8 hk (aG (ha pos pins s σ H _ I h) fun us s1 ⟨vs,H1,I1,r,D,hD,q⟩=>⟨I1.gH,?_⟩) he hpl
 obtain⟨sp,F,hsp⟩:=q _ (yD I1 hfn hD)
 exact FD I1 hfn hD F hr hb r hsp
end
def nR (ts:List Addr) (H:Hp):Prop:=(∀b,H b=none∨(∃o xs,H b=some (.cY o (.lst xs)))∨(b∈ts∧H b=some (.cD #[])))∧∀b∈ts,H b=some (.cD #[])
theorem nR.tab {ts:List Addr} {H:Hp} {T:Addr} {L:List (Pos×Str)} (x:nR ts H) (h:T∈ts):Tab H T L:=⟨#[],x.2 T h,trivial,fun p _=>.inl rfl⟩
theorem Bf {P:Program} {w:World} {K:PySem.W.Frag} {mg mb:Str→Option Value} {CX:ou} {k:Nat} {fa a:Addr} {fd:FuncData} {x:Str} {sp:Sp} {s₁:Shared} {vs:List Value} {ns:List Int} {ts:List Addr}
  (KX:K.In s₁.heap) (hns:s₁.heap.Ns mainGlobals mg) (hb:s₁.heap.Ns builtinsNs mb) (hbb:∀x:Str,x≠"__name__"→mb x=bootBuiltins x) (hlim:s₁.heap.NoLimit) (hg:s₁.gens= #[])
  (ha:s₁.heap.get? a=some {cls:=.type "list",data:=.seq vs.toArray}) (hi:IntsAre vs ns) (hl:ns.length≤sizeLine) (hr:aU k callerA)
  (hts:∀T∈ts,(∃c,PySem.W.CodeHd s₁.heap c T)∧s₁.heap.get? T=some (PySem.W.tabObj #[])∧K.lookup T=none) (D5:gI mg s₁.heap)
  (F:∀base:Heap,K.In base→base.Ns mainGlobals mg→gI mg base→bD P w K mg base CX k fa fd [x] sp) (hbind:∀(s:Shared) (u:Value),BindsTo s fd ⟨[u],[]⟩ [(x,u)])
  (hsp:∀H:Hp,nR ts H→bJ K H a (ns.map V.int)→sp [.ref a] H (fun v _=>v=.bl true) fun _ _ _=>False)
  (QF:∀H e s',CX [] H s₁ (fun _ _ _=>False) e s'→False):
  codeAny (model P w) callerA (.call (.ref fa) ⟨[.ref a],[]⟩) (fun r s'=>r=.ok (.ret (.bool true))∧OldK s₁.heap s'.heap∧s'.os=s₁.os∧AllBare s'.gens) s₁:=by
 have rv:=mI hi
 have lenV:=hi.length
 have aT:a ∉ ts:=fun z=>by
  have:=(hts a z).2.1
  rw[ha] at this;cases this
 have core:∀H:Hp,nR ts H→bJ K H a (ns.map V.int)→cZ P w H s₁.heap→(∀b,H b≠none→b=a∨b∈ts)→(H a≠none→K.lookup a=none)→
   codeAny (model P w) callerA (.call (.ref fa) ⟨[.ref a],[]⟩) (fun r s'=>r=.ok (.ret (.bool true))∧OldK s₁.heap s'.heap∧s'.os=s₁.os∧AllBare s'.gens) s₁:=by
  intro H hO hS hok hA hK
  have qK:∀{b:Addr} {o:Obj},s₁.heap.get? b=some o→H b=none→(jd s₁.heap H).get? b=some o:=fun e n=>um e n
  have ox:∀{b:Addr} {o:Obj},s₁.heap.get? b=some o→o≠{cls:=.type "list",data:=.seq vs.toArray}→o≠PySem.W.tabObj #[]→H b=none:=fun {b o} e d1 d2=>by
   cases q:H b with
   | none=>rfl
   | some u=>
    rcases hA b (by rw[q];simp) with e' | e'
    ·subst e'
     rw[ha] at e;cases e
     exact absurd rfl d1
    ·have:=(hts b e').2.1
     rw[e] at this;cases this
     exact absurd rfl d2
  have D6:∀{b:Addr} {m:Str→Option Value},s₁.heap.Ns b m→(jd s₁.heap H).Ns b m:=fun {b m} ⟨o,es,ep,e,d,r⟩=>⟨o,es,ep,qK e (ox e (fun z=>by rw[z] at d;cases d) fun z=>by rw[z] at d;cases d),d,r⟩
  have Lb:K.In (jd s₁.heap H):=fun b o e=>qK (KX b o e) (by
   cases q:H b with
   | none=>rfl
   | some u=>
    rcases hA b (by rw[q];simp) with e' | e'
    ·subst e'
     rw[hK (by rw[q];simp)] at e;cases e
    ·rw[(hts b e').2.2] at e;cases e)
  have QG:gI mg (jd s₁.heap H):=by
   obtain⟨bm,o,h1,h2,h3,h4,h5,h6⟩:=D5
   exact⟨bm,o,h1,h2,qK h3 (ox h3 (fun z=>by rw[z] at h4;exact absurd (Value.type.inj h4) (by decide)) fun z=>by rw[z] at h4;cases h4),h4,h5,h6⟩
  have hM:Mod K mg (jd s₁.heap H):=⟨Lb,D6 hns,⟨mb,D6 hb,hbb⟩,let ⟨mc,h1,h2⟩:=hlim;⟨mc,D6 h1,h2⟩⟩
  have e0:qy P w K mg (jd s₁.heap H) callerA [] s₁ H:=⟨rfl,hM,fun b o e=>x6 e,Nat.le_of_eq (rm _ _),trivial,fun b hb=>absurd (show b∈([]:List Addr) from hb) (by simp),hok,.of_eq hg⟩
  refine codeAny_mono ((F _ Lb (D6 hns) QG).run callerA [] s₁ H ⟨[.ref a],[]⟩ [.ref a] [.ref a] _ _ hr e0 (hbind s₁ (.ref a)) (.cons rfl .nil) (hsp H hO hS)) fun r s' h=>?_
  cases r with
  | error e=>exact(QF H e s' h).elim
  | ok fl=>
   cases fl with
   | next=>exact False.elim h
   | brk=>exact False.elim h
   | cont=>exact False.elim h
   | ret u=>
    obtain⟨v,H',os,bare,un,hok',r',q⟩:=h
    have q':v=.bl true:=q
    subst q'
    obtain rfl:u=Value.bool true:=r'
    refine⟨rfl,⟨fun b o e=>?_,fun b o e=>un.there b o e (by simp)⟩,os,bare⟩
    cases q:H b with
    | none=>exact .inl (un.keep b o e q (by intro z;exact absurd (show b∈([]:List Addr) from z) (by simp)) (by simp))
    | some u=>
     rcases hO.1 b with z | ⟨ob,xs,z⟩ | ⟨hb,z⟩
     ·rw[q] at z;cases z
     ·have z2:=un.jX b ob _ z
      obtain⟨e1,_⟩:=hok b _ z
      obtain⟨e2,_⟩:=hok' b _ z2
      rw[e] at e1;cases e1
      exact .inl e2
     ·obtain⟨more,z2⟩:=un.jY b _ z
      have e2:s'.heap.get? b=some (PySem.W.tabObj (#[]++more)):=hok' b _ z2
      obtain⟨⟨c,hc⟩,e3,_⟩:=hts b hb
      have e4:o=PySem.W.tabObj #[]:=by rw[e] at e3;exact Option.some.inj e3
      subst e4
      exact .inr (.inl ⟨(hc.tab e3).isCodeTable,rfl, #[],more,rfl,e2⟩)
 have tne:∀T∈ts,T≠a:=fun T hT z=>aT (z▸hT)
 cases hk:K.lookup a with
 | some o=>
  have e:=KX a o hk
  rw[ha] at e
  cases e
  refine core (fun b=>if b∈ts then some (.cD #[]) else none) ⟨fun b=>?_,fun b hb=>if_pos hb⟩ (.inr ⟨_,vs.toArray,_,hk,rfl,rfl,rfl,by rw[List.size_toArray,lenV];exact hl,by simpa using rv⟩) (fun b u z=>?_) (fun b z=>?_) fun z=>absurd (if_neg aT) z
  ·by_cases hb:b∈ts
   ·exact .inr (.inr ⟨hb,if_pos hb⟩)
   ·exact .inl (if_neg hb)
  ·by_cases hb:b∈ts
   ·have z':=(if_pos hb).symm.trans z
    cases z'
    exact(hts b hb).2.1
   ·have z':=(if_neg hb).symm.trans z
    cases z'
  ·by_cases hb:b∈ts
   ·exact .inr hb
   ·exact absurd (if_neg hb) z
 | none=>
  have eA:∀b,b=a→(if b∈ts then some (HO.cD #[]) else if b=a then some (HO.cY {cls:=.type "list",data:=.seq vs.toArray} (.lst (ns.map V.int))) else none)=some (HO.cY {cls:=.type "list",data:=.seq vs.toArray} (.lst (ns.map V.int))):=fun b hb=>by
   rw[if_neg (hb▸aT),if_pos hb]
  have eN:∀b,b ∉ ts→b≠a→(if b∈ts then some (HO.cD #[]) else if b=a then some (HO.cY {cls:=.type "list",data:=.seq vs.toArray} (.lst (ns.map V.int))) else none)=none:=fun b h1 h2=>by
   rw[if_neg h1,if_neg h2]
  refine core (fun b=>if b∈ts then some (.cD #[]) else if b=a then some (.cY {cls:=.type "list",data:=.seq vs.toArray} (.lst (ns.map V.int))) else none) ⟨fun b=>?_,fun b hb=>if_pos hb⟩ (.inl (.inr ⟨{cls:=.type "list",data:=.seq vs.toArray},eA a rfl⟩)) (fun b u z=>?_) (fun b z=>?_) fun _=>hk
  ·by_cases hb:b∈ts
   ·exact .inr (.inr ⟨hb,if_pos hb⟩)
   by_cases hb2:b=a
   ·exact .inr (.inl ⟨_,_,eA b hb2⟩)
   ·exact .inl (eN b hb hb2)
  ·by_cases hb:b∈ts
   ·have z':=(if_pos hb).symm.trans z
    cases z'
    exact(hts b hb).2.1
   by_cases hb2:b=a
   ·have z':=(eA b hb2).symm.trans z
    cases z'
    subst hb2
    exact⟨ha,by rw[List.length_map];exact hl,vs,_,rv,ha⟩
   ·have z':=(eN b hb hb2).symm.trans z
    cases z'
  ·by_cases hb:b∈ts
   ·exact .inr hb
   by_cases hb2:b=a
   ·exact .inl hb2
   ·exact absurd (eN b hb hb2) z
theorem CN {l:PySem.W.OpenLaw} {n k:Nat} {q:Program} {loose:List Str} {XP:(Str→Option Value)→Heap→Prop} {YP:World→Heap→Prop} {d:DefRec} {K:Params→PySem.W.Frag} {sp:World→List Addr→Sp} {x:Str}
  (hn:l.most=some n) (hn2:n≤sizeLine) (hdf:d.params.defaults=[]) (hr:aU k callerA)
  (hY:∀(w:World) (h:Heap),YP w h→(K w.params).In h)
  (F:∀(w:World) (mg:Str→Option Value) (fa:Addr) (h:Heap),(K w.params).In h→h.Ns mainGlobals mg→mg d.name=some (.ref fa)→YP w h→
   ∃(fd:FuncData) (ts:List Addr),(∀T∈ts,(∃c,PySem.W.CodeHd h c T)∧h.get? T=some (PySem.W.tabObj #[])∧(K w.params).lookup T=none)∧(∀(s:Shared) (u:Value),BindsTo s fd ⟨[u],[]⟩ [(x,u)])∧
    ∀base:Heap,(K w.params).In base→base.Ns mainGlobals mg→gI mg base→bD l.prog w (K w.params) mg base cE k fa fd [x] (sp w ts))
  (hsp:∀(w:World) (H:Hp) (a:Addr) (ns:List Int) (ts:List Addr),ns.length≤n→nR ts H→bJ (K w.params) H a (ns.map V.int)→sp w ts [.ref a] H (fun v _=>v=.bl true) fun _ _ _=>False):
  PySem.W.WalkO q loose XP YP l.row.toRowW d [] (fun f vs=>PySem.call f vs):=by
 refine K3.xg hn hdf fun w s₀ s₁ mg mb fa o pm cd doc a vs ns G Y ho hd hcd hmg hobj hints hlen hg=>?_
 have KX:=hY w _ Y
 obtain⟨fd,ts,h1,hb,hF⟩:=F w mg fa _ KX G.T.g hmg Y
 obtain⟨bm,ob,b1,b2,b3,b4⟩:=G.T.bmain
 exact Bf KX G.T.g G.T.b G.T.builtins G.T.nolimit hg hobj hints (Nat.le_trans hlen hn2) hr h1 ⟨bm,ob,b1,b2,b3,b4⟩ hF hb (fun H hO hS=>hsp w H a ns ts hlen hO hS) fun H e s'=>id
theorem ku:typeLookup (.type "list") "keys"=pure none:=by rw[typeLookup_type,builtinLookup_eq_fast];kernel_rfl
section
variable {P:Program} {w:World} {A:Around} {E:Value→Shared→Prop} {s:Shared}
theorem uZ {a:Addr} {xs:Array Value} {k:Nat} {Q:Option Value→Shared→Prop} (hx:s.heap.get? a=some {cls:=.type "list",data:=.seq xs k}) (hA:A.handled=none)
  (h:∀h' tk,(∀b o,s.heap.get? b=some o→h'.get? b=some o)→Q none {s with heap:=h',toks:=tk}):wpAny (model P w) A (getAttr? (.ref a) "keys") Q E s:=by
 obtain⟨hp,g,d,tk,os⟩:=s
 have hT:∀tk',(⟨hp,g,d,tk',os⟩:Shared).TypeIs (.ref a) "list":=fun _=>⟨_,hx,rfl⟩
 have f1:=sub_AttributeError
 have f3:=F.slot_list_getattribute.lookup
 have f4:=F.slot_list_getattribute.bind (.ref a)
 have f5:=am_list_getattr_none
 have f6:=ku
 unfold getAttr? getAttrBy? getAttrBy
 repeat (any_goals (first | assumption | exact hT _ | ((with_reducible show wpAny _ _ (call (Value.builtin "list.__getattribute__") _ _) _ _ _);refine call_meets F.slot_list_getattribute (hT _) am_entry_list_getattribute (F.args_list_getattribute_2 _ _) (meets_getattribute_miss_list a xs k #[] "keys" _ ku (by decide+kernel) (by size_fits)) ⟨hx,hA,fun h' tk' e hx'=>?_⟩) | wp_step))
 obtain⟨t',u',he⟩:=hx'.there
 show wpAny _ _ (getattributeRaised _ _ _ _ _ _ _) _ _ _
 unfold getattributeRaised
 repeat (any_goals (first | assumption | wp_step))
 exact h _ _ hx'.keeps
end
theorem iV:entryFor table "dict.update.loop"=some Builtin.«dict.update.loop» :=entryFor_of_tree (by kernel_rfl)
theorem eB:plainId "dict.update.loop"=true:=by decide+kernel
section
variable {P:Program} {w:World} {A:Around} {R:Result→Shared→Prop} {I D:Addr} {fp wr:List Addr} {G:Array GenState→Array GenState→Prop} {n:Nat} {Pv:Nat→Value→Prop} {St:Nat→Shared→Prop}
def FE (P:Program) (w:World) (h:Heap) (D:Addr) (wr:List Addr) (Pv:Nat→Value→Prop) (more:List (Key×Value)):Prop:=∀i v,Pv i v→∃p k key u o m,v=.ref p∧more[i]? =some (k,u)∧(aV P w).is k key=true∧h.get? p=some o∧o.cls=.type "tuple"∧o.data=.seq #[key,u] m∧p≠D∧p ∉ wr
theorem Bg (W:WalksS P w A.in1 I fp wr G n Pv St) (hDf:D ∉ fp) (more:List (Key×Value)) (hml:more.length=n) (hb:n<sizeLine):
  ∀(k i:Nat) (j:Int) (s:Shared),n-i=k→i≤n→St i s→FE P w s.heap D wr Pv more→s.heap.DictOf (aV P w) D (merged [] (more.take i))→
   (∀s',Moved (D::wr) G s s'→s'.heap.DictOf (aV P w) D (merged [] more)→R (.ok (.ret .none)) s')→
   codeAny (model P w) A (.builtin "dict.update.loop" ⟨[.ref D,.ref I,rawInt j,.none],[]⟩) R s:=by
 have hDw:D ∉ wr:=fun z=>hDf (W.sub _ z)
 have sub:∀b∈wr,b∈D::wr:=fun b z=>List.mem_cons_of_mem _ z
 intro k
 induction k with
 | zero=>
  intro i j s hk hi st hp hd hR
  have e:i=n:=by omega
  subst e
  refine codeAny_builtin iV ?_
  rw[Around.under_plainId eB]
  show wpAny (model P w) A.in1 (pyNext (.ref I) >>= _) _ _ s
  refine wpAny_bind (W.done s _ _ st fun s' mv=>?_)
  show wpAny (model P w) A.in1 (Builtin.Dict.addKeywords D [] >>= _) _ _ s'
  refine wpAny_bind (wpAny_pure ?_)
  refine wpAny_pure (hR s' (mv.mono sub) ?_)
  obtain⟨o,es,ep,ho,r⟩:=hd
  rw[List.take_of_length_le (by omega)] at r
  exact⟨o,es,ep,mv.heap D o hDw ho,r⟩
 | succ k ih=>
  intro i j s hk hi st hp hd hR
  have lt:i<n:=by omega
  refine codeAny_builtin iV ?_
  rw[Around.under_plainId eB]
  show wpAny (model P w) A.in1 (pyNext (.ref I) >>= _) _ _ s
  refine wpAny_bind (W.item i s _ _ lt st fun v s' hv st' mv=>?_)
  obtain⟨p,kk,key,u,o,m,rfl,em,hkey,ho,hc,hdat,pD,pw⟩:=hp i v hv
  have ho':=mv.heap p o pw ho
  have hd':s'.heap.DictOf (aV P w) D (merged [] (more.take i)):=by
   obtain⟨od,es,ep,hod,r⟩:=hd
   exact⟨od,es,ep,mv.heap D od hDw hod,r⟩
  have hT:s'.TypeIs (.ref p) "tuple":=⟨o,ho',hc⟩
  have hl:(merged [] (more.take i)).length≤sizeLine:=by
   have:=merged_length_le ([]:List (Key×Value)) (more.take i)
   rw[List.length_take] at this
   simp at this
   omega
  refine wpAny_bind (wpAny_holding ?_)
  refine wpAny_bind (wpAny_tryCatch ?_)
  unfold Builtin.Dict.pairItems
  refine wpAny_bind (wpAny_typeOf hT ?_)
  show wpAny _ _ (seqItems? (.ref p) >>= _) _ _ _
  refine wpAny_bind (wpAny_seqItems ho' hdat (wpAny_pure ?_))
  show wpAny _ _ (holding [key,u] (dictSet D key u)) _ _ _
  refine wpAny_holding (wpAny_dictSet_pairs (hsz:=hl) hkey hd' fun h' hd2 hs=>?_)
  refine wpAny_pure ⟨plainId_quiet eB _,ih (i+1) (j+1) _ (by omega) lt (W.frame _ s' h' _ st' (Nat.le_succ _) fun b hb o q=>(hs.2 b (fun z=>hDf (z▸hb))).trans q) (fun i2 v2 hv2=>?_) ?_ fun s2 mv2 d2=>?_⟩
  ·obtain⟨p2,k2,key2,u2,o2,m2,e1,e2,e3,e4,e5,e6,e7,e8⟩:=hp i2 v2 hv2
   exact⟨p2,k2,key2,u2,o2,m2,e1,e2,e3,(hs.2 p2 e7).trans (mv.heap p2 o2 e8 e4),e5,e6,e7,e8⟩
  ·show h'.DictOf (aV P w) D (merged [] (more.take (i+1)))
   rw[merged_take_succ [] more i (kk,u) em]
   exact hd2
  ·exact hR s2 (Moved.trans W.gtrans ((mv.mono sub).then_heap (Nat.le_succ _) fun b o hb q=>(hs.2 b (fun z=>hb (z▸List.mem_cons_self))).trans q) mv2) d2
end
section
variable {P:Program} {w:World} {A:Around} {E:Value→Shared→Prop} {s:Shared}
theorem tT {l:Addr} {its:Array Value} {nl:Nat} {more:List (Key×Value)} {Q:Value→Shared→Prop} (hh:A.handled=none) (hl:s.heap.get? l=some {cls:=.type "list",data:=.seq its nl})
  (hp:∀(i:Nat) (v:Value),its[i]? =some v→∃p k key u o m,v=.ref p∧more[i]? =some (k,u)∧(aV P w).is k key=true∧s.heap.get? p=some o∧o.cls=.type "tuple"∧o.data=.seq #[key,u] m) (hml:more.length=its.size) (hb:its.size<sizeLine)
  (h:∀h' tk,h'.DictOf (aV P w) s.heap.objs.size (merged [] more)→(∀b o,s.heap.get? b=some o→h'.get? b=some o)→Q (.ref s.heap.objs.size) {s with heap:=h',toks:=tk}):
  wpAny (model P w) A (call (.type "dict") [.ref l]) Q E s:=by
 refine callType_codes (Q₁:=fun obj s₁=>obj=.ref s.heap.objs.size∧s₁={s with heap:=s.heap.push {cls:=.type "dict",data:=.dict #[]}}) F.kt_called_dict (F.kt_typeCall_dict_1 _) F.entry_dict_init (kt_code_dict_new _ ⟨rfl,rfl⟩) ?_
 rintro obj s₁ ⟨rfl,rfl⟩
 have hnew:(s.heap.push {cls:=.type "dict",data:=.dict #[]}).DictOf (aV P w) s.heap.objs.size []:=Heap.DictOf.new s.heap
 have hl1:(s.heap.push {cls:=.type "dict",data:=.dict #[]}).get? l=some {cls:=.type "list",data:=.seq its nl}:=Heap.get?_push_of_some _ hl
 have lS:l<s.heap.objs.size:=Heap.lt_size hl
 refine⟨hnew.typeIs,F.args_dict_init_2 _ _,?_⟩
 unfold Builtin.«dict.__init__»
 refine wpAny_bind ?_
 unfold Builtin.Dict.selfAndRest
 refine wpAny_bind (wpAny_notOrdered_dict hnew.typeIs ?_)
 show wpAny _ _ (pure (s.heap.objs.size,[Value.ref l])) _ _ _
 refine wpAny_pure ?_
 show wpAny _ _ (Builtin.Dict.updateFrom "dict.__init__" s.heap.objs.size (.ref l) [] .none) _ _ _
 unfold Builtin.Dict.updateFrom
 refine wpAny_bind (wpAny_typeOf (show Shared.TypeIs {s with heap:=s.heap.push {cls:=.type "dict",data:=.dict #[]}} (.ref l) "list" from⟨_,hl1,rfl⟩) ?_)
 rw[if_pos (by decide)]
 refine wpAny_bind (uZ hl1 (by simp[hh]) fun h1 tk1 k1=>?_)
 rw[show(none:Option Value).isNone=true from rfl,if_pos rfl]
 refine wpAny_bind (wpAny_rule ?_)
 have hl2:h1.IsList l its:=⟨_,k1 _ _ hl1,rfl,nl,rfl⟩
 refine wpAny_bind (wpAny_pyIter_list hl2 ?_)
 refine wpAny_pure ⟨plainId_quiet eB _,?_⟩
 have QH:l<h1.objs.size:=Heap.lt_size (k1 _ _ hl1)
 have yE:l≠h1.objs.size:=Nat.ne_of_lt QH
 have HC:s.heap.objs.size<h1.objs.size:=by
  obtain⟨o,es,ep,ho,_⟩:=hnew
  exact Heap.lt_size (k1 _ _ ho)
 have nf:s.heap.objs.size ∉ [h1.objs.size,l]:=by
  simp only[List.mem_cons,List.not_mem_nil,or_false,not_or]
  exact⟨Nat.ne_of_lt HC,Nat.ne_of_gt lS⟩
 have hh3:A.in1.in1.handled=none:=by simp[hh]
 refine Bg ((Walks.list hh3 _ l yE its).toS) nf more hml hb (its.size-0) 0 0 _ (by omega) (Nat.zero_le _) ⟨⟨_,Heap.get?_push_size _ rfl,rfl,rfl⟩,hl2.push _⟩ (fun i v hv=>?_) ?_ fun s' mv hd=>?_
 ·obtain⟨p,k,key,u,o,m,e1,e2,e3,e4,e5,e6⟩:=hp i v hv
  have lp:=Heap.lt_size e4
  refine⟨p,k,key,u,o,m,e1,e2,e3,Heap.get?_push_of_some _ (k1 _ _ (Heap.get?_push_of_some _ e4)),e5,e6,Nat.ne_of_lt lp,fun z=>?_⟩
  have e9:p=h1.objs.size:=List.mem_singleton.mp z
  rw[e9] at lp
  exact absurd (Nat.lt_trans lp HC) (Nat.lt_irrefl _)
 ·show Heap.DictOf _ _ _ (merged [] (more.take 0))
  obtain⟨o,es,ep,ho,r⟩:=hnew
  exact⟨o,es,ep,Heap.get?_push_of_some _ (k1 _ _ ho),r⟩
 ·obtain⟨h',g',d',tk',os'⟩:=s'
  have eg:g'=s.gens:=mv.gens
  have ed:d'=s.drawn:=mv.drawn
  have eo:os'=s.os:=mv.os
  subst eg ed eo
  refine⟨rfl,h h' tk' hd fun b o e=>mv.heap b o (fun z=>?_) (Heap.get?_push_of_some _ (k1 _ _ (Heap.get?_push_of_some _ e)))⟩
  have lb:=Heap.lt_size e
  simp only[List.mem_cons,List.not_mem_nil,or_false] at z
  rcases z with z | z
  ·rw[z] at lb;exact Nat.lt_irrefl _ lb
  ·rw[z] at lb;exact Nat.lt_irrefl _ (Nat.lt_trans lb HC)
end
section
variable {X:Cx}
def HD:List V→Hp→VK→Prop:=fun vs H Q=>∃(l:Addr) (ps:List Addr) (kvs:List (Key×V)),vs=[.ref l]∧H l=some (.lst (ps.map V.ref))∧Paired (fun(p:Addr) (q:Key×V)=>H p=some (.tup [kV q.1,q.2])) ps kvs∧kvs.length<sizeLine∧∀D,H D=none→Q (.ref D) (upd H D (.dK (cu [] kvs)))
theorem pY (hA:X.A.handled=none):cS X (.type "dict") HD:=by
 intro pins s σ H xs us Q I r h
 obtain⟨l,ps,kvs,rfl,hl,hp,hb,q⟩:=h
 obtain⟨u,rfl,ru⟩:=vals1 r
 cases ru
 obtain⟨z,its,n,rv,e⟩:=I.hok l _ hl
 have key:∀(ps:List Addr) (kvs:List (Key×V)) (its:List Value),Paired (fun(p:Addr) (q:Key×V)=>H p=some (.tup [kV q.1,q.2])) ps kvs→Vals (ps.map V.ref) its→
   ∃more:List (Key×Value),KV kvs more∧∀(i:Nat) (v:Value),its[i]? =some v→∃p k key u o m,v=.ref p∧more[i]? =some (k,u)∧(aV X.prog X.w).is k key=true∧s.heap.get? p=some o∧o.cls=.type "tuple"∧o.data=.seq #[key,u] m:=by
  intro ps kvs its a
  induction a generalizing its with
  | nil=>intro b;cases b;exact⟨[],.nil,fun i v hv=>by simp at hv⟩
  | @cons p q ps kvs h t ih=>
   intro b
   cases b with
   | cons rp rt=>
    obtain⟨more,m1,m2⟩:=ih _ rt
    obtain⟨z2,its2,HE,o,ho,hc,m,hd⟩:=I.hok p _ h
    cases HE with
    | cons r1 r2=>
     cases r2 with
     | cons r2 r3=>
      cases r3
      cases(show _=Value.ref p from rp)
      refine⟨(q.1,_)::more,.cons ⟨rfl,r2⟩ m1,fun i v hv=>?_⟩
      cases i with
      | zero=>
       have e:Value.ref p=v:=by simpa using hv
       exact⟨p,q.1,_,_,o,m,e.symm,rfl,kT r1,ho,hc,hd⟩
      | succ i=>exact m2 i v (by simpa using hv)
 obtain⟨more,m1,m2⟩:=key ps kvs its hp rv
 have len1:more.length=its.length:=by rw[←Paired.length m1,←Paired.length hp,←rv.length,List.length_map]
 have len2:its.length=kvs.length:=by rw[←len1,←Paired.length m1]
 refine tT (nl:=n) (its:=its.toArray) (more:=more) hA e (fun i v hv=>m2 i v (by simpa using hv)) (by simpa using len1) (by rw[List.size_toArray,len2];exact hb) fun h' tk dd kp=>?_
 have bg:(s.heap.objs.size == sysModules)=false:=beq_eq_false_iff_ne.mpr (Ne.symm (Nat.ne_of_lt I.big))
 have hz:(cu [] kvs).length≤sizeLine:=by
  have h1:=iI kvs []
  rw[List.length_nil] at h1
  omega
 exact⟨.ref s.heap.objs.size,_,I.laid (a:=s.heap.objs.size) (o:=.dK (cu [] kvs)) (t':=tk) kp (Nat.le_refl _) ⟨hz,bg,_,m1.merge .nil,dd⟩,rfl,q _ (I.hok.fresh (Nat.le_refl _))⟩
end
section
variable {P:Program} {w:World} {A:Around} {E:Value→Shared→Prop} {s:Shared} {K:Type} [DecidableEq K] {knd:KeyKind P w K}
theorem o_ {d:Addr} {kvs:List (K×Value)} {k:K} {key dflt:Value} {Q:Value→Shared→Prop} (hkey:knd.is k key=true) (hm:s.heap.DictOf knd d kvs) (hsz:kvs.length≤sizeLine)
  (hthere:∀v,valueAt kvs k=some v→Q v {s with toks:=s.toks+1})
  (hnew:valueAt kvs k=none→∀h',h'.DictOf knd d (stored kvs k dflt)→Heap.SameBut d s.heap h'→Q dflt {s with heap:=h',toks:=s.toks+1}):
  wpAny (model P w) A (dictSetDefault d key dflt) Q E s:=by
 obtain⟨f,hf⟩:∃f,f=valueAt kvs:=⟨_,rfl⟩
 have hmap:=hm.mapOf
 obtain⟨o,es,ep,ho,hc,hd,hk,hp,hn⟩:=hm
 have hes:es.size≤sizeLine:=by
  have e1:=hp.length
  have e2:es.toList.length=es.size:=by simp
  omega
 have hidx:(es.findIdx? fun e=>knd.is k e.key)=kvs.findIdx? fun kv=>decide (kv.1=k):=by
  rw[←hp.findIdx k];obtain⟨l⟩:=es;simp
 have hfind:=hp.find k
 unfold dictSetDefault
 try with_reducible refine wpAny_holding ?_
 refine wpAny_bind (knd.pyHash hkey ?_)
 refine wpAny_bind (wpAny_dictFind_of (s:={s with toks:=s.toks+1}) hkey ho hd hk ?_)
 cases hi:es.findIdx? fun e=>knd.is k e.key with
 | some i=>
  have hfk:valueAt kvs k=(es[i]?).map (·.val):=by
   obtain⟨o',es',ep',ho',hc',hd',hk',hf'⟩:=hmap
   rw[ho] at ho';cases ho'
   rw[hd] at hd';cases hd'
   rw[←hf' k,findBy_of_findIdx?,hi]
  refine wpAny_bind (wpAny_dictEntries (s:={s with toks:=s.toks+1}) ho hd ?_)
  cases he:es[i]? with
  | none=>
   exfalso
   have:=Array.findIdx?_eq_some_iff_findIdx_eq.mp hi
   have hlt:i<es.size:=this.1
   rw[Array.getElem?_eq_getElem hlt] at he
   exact nomatch he
  | some e=>
   rw[he] at hfk
   exact wpAny_bind (wpAny_rule (wpAny_pure (hthere e.val hfk)))
 | none=>
  have hfk:valueAt kvs k=none:=by
   obtain⟨o',es',ep',ho',hc',hd',hk',hf'⟩:=hmap
   rw[ho] at ho';cases ho'
   rw[hd] at hd';cases hd'
   rw[←hf' k,findBy_of_findIdx?,hi]
  have hnot:k ∉ kvs.map (·.1):=not_mem_of_findIdx_none (hidx▸hi)
  have hany:¬(kvs.any fun kv=>decide (kv.1=k))=true:=by
   rw[List.any_eq_true];rintro⟨kv,hkv,he⟩
   exact hnot (List.mem_map.mpr ⟨kv,hkv,of_decide_eq_true he⟩)
  refine wpAny_bind (wpAny_rule (wpAny_bind (wpAny_updateDictKeys (hz:=hes) (s:={s with toks:=s.toks+1}) ho hd (wpAny_pure (hnew hfk _ ⟨_,_,ep+1,Heap.get?_update_self _ ho (Obj.isFreed_of_dict (Obj.data_mapDictKeys hd _)),
   hc.mapDictKeys _,Obj.data_mapDictKeys hd _,hk.push hkey _,?_,?_⟩ (Heap.SameBut.update ..))))))
  ·rw[stored,if_neg hany]
   have:=hp.append hkey (knd.hash k) dflt
   obtain⟨l⟩:=es
   simpa using this
  ·rw[stored,if_neg hany,List.map_append,List.nodup_append]
   refine⟨hn,by simp,?_⟩
   intro a ha b hb
   simp only[List.map_cons,List.map_nil,List.mem_singleton] at hb
   subst hb
   exact fun e=>hnot (e▸ha)
theorem o3 (knd:KeyKind P w K) {d:Addr} {k:K} {key dflt:Value} (hkey:knd.is k key=true) (hd:(d == sysModules)=false):
  MeetsIn P w (Builtin.«dict.setdefault» ⟨[.ref d,key,dflt],[]⟩) (fun _ R s=>∃kvs,s.heap.DictOf knd d kvs∧kvs.length≤sizeLine∧
   (∀v,valueAt kvs k=some v→R (.ok (.ret v)) {s with toks:=s.toks+1})∧
   (valueAt kvs k=none→∀h',h'.DictOf knd d (stored kvs k dflt)→Heap.SameBut d s.heap h'→R (.ok (.ret dflt)) {s with heap:=h',toks:=s.toks+1})):=
 .of_wp fun A R s ⟨kvs,hm,hz,h1,h2⟩=>by
  unfold Builtin.«dict.setdefault»
  refine wpAny_bind ?_
  unfold Builtin.Dict.keyAndDefault
  refine wpAny_bind (wpAny_notOrdered_dict hm.typeIs ?_)
  show wpAny _ _ (pure (d,key,some dflt)) _ _ s
  refine wpAny_pure ?_
  show wpAny _ _ (if(d == sysModules)=true then _ else(dictSetDefault d key dflt >>= _)) _ _ s
  rw[if_neg (by rw[hd];exact Bool.false_ne_true)]
  exact wpAny_bind (o_ hkey hm hz (fun v hv=>wpAny_pure ⟨v,rfl,h1 v hv⟩) fun hn h' hm' hs'=>wpAny_pure ⟨dflt,rfl,h2 hn h' hm' hs'⟩)
end
section
variable {X:Cx} {o e f:Expr} {apos cpos:Pos} {td ty tx:TE}
def HF (td ty tx:TE):TE:=fun σ H Q=>td σ H fun x H1=>∃a,x=.ref a∧K4 H1 a∧ty σ H1 fun y H2=>tx σ H2 fun z H3=>∃kvs k,H3 a=some (.dK kvs)∧y=kV k∧kvs.length<sizeLine∧
 (∀v,aX kvs k=some v→Q v H3)∧(aX kvs k=none→Q z (upd H3 a (.dK (putK kvs k z))))
theorem CO (ho:PE X o td) (he:PE X e ty) (hf:PE X f tx) (m:M2 X o "setdefault" apos e f cpos):PE X (.Call (.Attribute o "setdefault" apos) [e,f] [] cpos) (HF td ty tx):=by
 intro pins s σ H Q I h
 refine wpAny_Call_method m.base m.few m.line PySem.F.plainAttrs_dict PySem.F.slot_dict_setdefault PySem.F.type_dict_setdefault (aG (ho pins s σ H _ I h) fun u s1 ⟨x,H1,I1,rx,a,ex,d,q1⟩=>?_)
 subst ex
 obtain rfl:u=Value.ref a:=rx
 obtain⟨t1,t2,_⟩:=GY I1 d
 refine⟨t1,t2,?_⟩
 rw[m.trees]
 refine Calls.callWith_builtin rfl (Calls.evalArgs_plain (Calls.spliced_cons (aG (he pins s1 σ H1 _ I1 q1) fun iv s2 ⟨y,H2,I2,ry,q2⟩=>
  Calls.spliced_cons (aG (hf pins s2 σ H2 _ I2 q2) fun fv s3 ⟨z,H3,I3,rz,kvs,k,ek,ey,hl,q3,q4⟩=>Calls.spliced_nil ?_))))
 subst ey
 obtain⟨hz,hd,vs,rel,dd⟩:=nP I3.hok (.inl ek)
 have lv:vs.length≤sizeLine:=by rw[←rel.length];exact hz
 refine call_meetsIn PySem.F.slot_dict_setdefault dd.typeIs PySem.F.entry_dict_setdefault (PySem.F.args_dict_setdefault_3 _ _ _) (o3 (aV X.prog X.w) (kT ry) hd) ⟨vs,dd,lv,fun v hv=>?_,fun hv h' md hs=>?_⟩
 ·have rr:=rel.val k
  rw[hv] at rr
  cases hq:aX kvs k with
  | none=>rw[hq] at rr;exact rr.elim
  | some x=>rw[hq] at rr;exact⟨x,H3,I3.tok _,rr,q3 x hq⟩
 ·have rr:=rel.val k
  rw[hv] at rr
  cases hq:aX kvs k with
  | some x=>rw[hq] at rr;exact rr.elim
  | none=>
   have hl2:(putK kvs k z).length≤sizeLine:=by have:=ip kvs k z;omega
   have he':∃q,h'.get? a=some q:=let ⟨q,_,_,hq,_⟩:=md;⟨q,hq⟩
   exact⟨z,_,kh I3 (by rw[ek];exact True.intro) hs he' (uL hl2 hd (rel.put k rz) md),rz,q4 hq⟩
def HG (K:PySem.W.Frag):List V→Hp→VK→Prop:=fun xs H Q=>∃(a:Addr) (ns:List Int),xs=[.ref a]∧bJ K H a (ns.map V.int)∧ns.length<64∧
 ∀(p:Addr) (ns':List Int),H p=none→ns'.Perm ns→ns'.Pairwise (· ≤ ·)→Q (.ref p) (upd H p (.lst (ns'.map V.int)))
theorem xn (K:PySem.W.Frag) (hK:X.K=K:=by rfl):cS X (.builtin "sorted") (HG K):=by
 subst hK
 intro pins s σ H xs us Q I r h
 obtain⟨a,ss,rfl,hq,hl,q⟩:=h
 obtain⟨u,rfl,ru⟩:=vals1 r
 cases ru
 obtain⟨its,rv,p,hz⟩:=I.list hq
 have hlen:=rv.length
 rw[List.length_map] at hlen
 refine sorted_ints p.isList (intsAre_of rv) (by omega) fun out ss' a1 a2 a3=>?_
 obtain⟨e,he⟩:=sortedAll_at s.heap its out
 have hp:s.heap.objs.size≤s.heap.objs.size+1:=Nat.le_succ _
 refine⟨.ref (s.heap.objs.size+1),upd H (s.heap.objs.size+1) (.lst (ss'.map V.int)),?_,rfl,q _ ss' (I.hok.fresh hp) a2 a3⟩
 refine I.laid (t':=s.toks) (h':=sortedAll s.heap its out) (fun _ _=>sortedAll_old) hp ⟨?_,out.toList,e,mI a1,?_⟩
 ·rw[List.length_map,a2.length_eq]
  rw[List.length_map] at hz
  exact hz
 ·rw[he]
  first
   | done
   | rfl
def HH (tk tv:TE):TE:=fun σ H Q=>∀p,H p=none→tk σ (upd H p (.dT [])) fun x H1=>tv σ H1 fun y H2=>H2 p=some (.dT [])∧∃b ks,x=.ref b∧H2 b=some (.tup (ks.map kV))∧Q (.ref p) (upd H2 p (.dT [(ks,y)]))
theorem CP {pos:Pos} {k v:Expr} {tk tv:TE} (hu:X.A.units<cLine) (hk:PE X k tk) (hv:PE X v tv):PE X (.Dict [some k] [v] pos) (HH tk tv):=by
 intro pins s σ H Q I q
 have hn:=I.hok.fresh (Nat.le_refl s.heap.objs.size)
 have I1:=I.laid (a:=s.heap.objs.size) (o:=.dT []) (h':=s.heap.push {cls:=.type "dict",data:=.dict #[]}) (t':=s.toks) (fun _ _ q=>Heap.get?_push_of_some _ q) (Nat.le_refl _) (Cz s.heap I.big)
 have hall:([some k]:List (Option Expr)).all (·.isSome)=true:=rfl
 have hl:([some k]:List (Option Expr)).length=[v].length:=rfl
 rw[arm_eval_Dict,zip_pairTrees [some k] [v] X.env pos hall hl,dictDisplay_pairs _ (fun z=>by
  have:=pairTrees_length [some k] [v] X.env pos hall hl
  rw[z] at this;cases this) (by rw[pairTrees_length [some k] [v] X.env pos hall hl];show 1<17;decide)]
 refine wpAny_bind (wpAny_standAt (wpAny_bind ?_))
 unfold subDict
 refine wpAny_bind (wpAny_alloc ?_)
 refine wpAny_bind (wpAny_holding ?_)
 rw[if_pos (by rw[pairTrees_length [some k] [v] X.env pos hall hl];show 1≤15;decide)]
 have hp:AY X pos [some k] [v] [(tk,tv)]:=uO hk hv yq
 refine wpAny_bind (aG (hp pins _ σ _ (fun ps H2=>match ps with | [(x,y)]=>H2 s.heap.objs.size=some (.dT [])∧∃b ks,x=.ref b∧H2 b=some (.tup (ks.map kV))∧Q (.ref s.heap.objs.size) (upd H2 s.heap.objs.size (.dT [(ks,y)])) | _=>False) I1 (q _ hn)) fun ws s2 ⟨ps,H2,I2,rel,q2⟩=>?_)
 cases rel with
 | nil=>exact False.elim q2
 | @cons p0 w0 ps' ws' r0 rt=>
  cases rt with
  | cons r1 UJ=>exact False.elim q2
  | nil=>
   obtain⟨e,b,ks,eb,hb,q3⟩:=q2
   obtain⟨x0,y0⟩:=p0
   obtain⟨kv,vv⟩:=w0
   cases eb
   cases(show kv=Value.ref b from r0.1)
   obtain⟨z,hd,xs,rx,dd⟩:=DZ I2.hok e
   cases rx
   refine wpAny_holding (wpAny_bind ?_)
   rw[List.forIn_cons]
   refine wpAny_bind (wpAny_bind (wpAny_dictSet_heap (knd:=tupleKind (aV X.prog X.w)) (k:=ks) (xs:=[]) (show(tupleKind (aV X.prog X.w)).room X.A from hu) (mL I2.hok hb) dd (fun h' md hs=>wpAny_pure ?_) (Nat.zero_le _)))
   dsimp only
   rw[List.forIn_nil]
   refine wpAny_pure (wpAny_pure (wpAny_pure (wpAny_pure ?_)))
   obtain⟨q',es,ep,hq,h2,h3,h4,_,h5⟩:=md
   have new:bp X.prog X.w (upd H2 s.heap.objs.size (.dT [(ks,y0)])) h' s.heap.objs.size (.dT [(ks,y0)]):=by
    refine⟨by show 1≤sizeLine;decide,hd,_,(KT.put (.nil:KT H2 [] []) ks hb r0.2).keeps fun c ys ec=>?_,q',es,ep,hq,h2,h3,h4,h5⟩
    rw[aq (jF ec e (fun z=>nomatch z))]
    exact ec
   exact⟨.ref s.heap.objs.size,_,kh I2 (by rw[e];exact True.intro) hs ⟨q',hq⟩ new,rfl,q3⟩
end
section
variable {X:Cx}
def Ni (ta:TA):TE:=fun σ H Q=>ta σ H fun vs H1=>∃lo hi:Int,vs=[.int lo,.int hi]∧(-(2 ^ 62)≤lo∧lo<2 ^ 62∧ -(2 ^ 62)≤hi∧hi<2 ^ 62)∧(hi-lo).toNat≤100000∧∀l,H1 l=none→Q (.ref l) (upd H1 l (.lst ((List.range (hi-lo).toNat).map fun(i:Nat)=>V.int (lo+i))))
theorem zJ {lo:Int} {n:Nat} {acc:Array Value} (h:ItemsOf (fun i v=>∃t,v=.int (lo+i*1) t) acc n):Vals ((List.range n).map fun(i:Nat)=>V.int (lo+i)) acc.toList:=by
 obtain⟨hs,hv⟩:=h
 have key:∀(l:List Value) (m:Nat),(∀(j:Nat) (v:Value),l[j]? =some v→∃t,v=.int (lo+((m+j:Nat):Int)) t)→Vals ((List.range' m l.length).map fun(i:Nat)=>V.int (lo+i)) l:=by
  intro l
  induction l with
  | nil=>intro m _;exact .nil
  | cons v l ih=>
   intro m hq
   rw[List.length_cons,List.range'_succ,List.map_cons]
   refine .cons ?_ (ih (m+1) fun j u hu=>?_)
   ·obtain⟨t,e⟩:=hq 0 v rfl
    exact⟨t,by simpa using e⟩
   ·obtain⟨t,e⟩:=hq (j+1) u (by simpa using hu)
    exact⟨t,by rw[e,show m+(j+1)=m+1+j by omega]⟩
 have:=key acc.toList 0 fun j v hj=>by
  obtain⟨t,e⟩:=hv j v (by rw[←Array.getElem?_toList];exact hj)
  exact⟨t,by rw[e];simp⟩
 rw[Array.length_toList,hs,←List.range_eq_range'] at this
 exact this
theorem u_ {a b:Expr} {ta:TA} {p p' pos pos':Pos} (hc:X.A.handled=none) (hg:Gl X "list") (hm:X.mg "list"=none) (hg':Gl X "range") (hm':X.mg "range"=none) (ha:PA X [a,b] ta)
  (hs:starEach [a,b] X.env=[(false,eval a X.env),(false,eval b X.env)]:=by rfl) (hs2:starEach [b] X.env=[(false,eval b X.env)]:=by rfl):PE X (.Call (.Name "list" p) [.Call (.Name "range" p') [a,b] [] pos'] [] pos) (Ni ta):=by
 intro pins s σ H Q I h
 refine wpAny_Call_Name_kw (fh I hg hm qE ?_)
 refine PyProof.Rows.callWith_type1 ?_ rfl rfl
 rw[show starEach [.Call (.Name "range" p') [a,b] [] pos'] X.env=[(false,eval (.Call (.Name "range" p') [a,b] [] pos') X.env)] from rfl]
 show wpAny _ _ (spliced [(false,eval (.Call (.Name "range" p') [a,b] [] pos') X.env)]) _ _ s
 refine Calls.spliced_cons ?_
 refine Call_ (fh I hg' hm' boot_range (PyProof.Rows.callWith_type1 (aG (ha pos' pins s σ H _ I h) fun us s1 ⟨vs,H1,I1,r1,q1⟩=>?_) (by rw[hs,hs2]) (by rw[hs2];rfl)))
 obtain⟨lo,hi,e,⟨h1,h2,h3,h4⟩,hz,q⟩:=q1
 subst e
 cases r1 with
 | cons r rr=>
  cases rr with
  | cons r' rr=>
   cases rr
   obtain⟨t,rfl⟩:=r
   obtain⟨t',rfl⟩:=r'
   refine call_range_2 (Calls.spliced_nil ?_)
   have e2:Builtin.Range.rangeSize lo hi 1=(((hi-lo).toNat:Nat):Int):=by rw[rangeSize_one];split<;>omega
   refine call_list_range (n:=(hi-lo).toNat) hc (IsRange.new ..) (small_one h1 h2 h3 h4) e2 (by omega) fun h' tk acc c k e it=>?_
   have kp:∀b u,s1.heap.get? b=some u→h'.get? b=some u:=fun b u e=>k b u (Heap.get?_push_of_some _ e)
   simp only[Heap.size_push] at e
   have hp:s1.heap.objs.size≤s1.heap.objs.size+1:=Nat.le_succ _
   have sl:(100000:Nat)≤sizeLine:=by decide
   refine⟨.ref (s1.heap.objs.size+1),_,I1.laid (t':=tk) kp hp (show bp X.prog X.w _ h' _ (.lst ((List.range (hi-lo).toNat).map fun(i:Nat)=>V.int (lo+i))) from⟨by rw[List.length_map,List.length_range];omega,acc.toList,c,zJ it,e⟩),?_,q _ (I1.hok.fresh hp)⟩
   show RelV (.ref _) _
   simp only[Heap.size_push]
   rfl
end
theorem Bh {K:PySem.W.Frag} {a:Addr} {xs:List V} {g:TG} {tt:TT} {te:TE} {D:Addr} {σ:St} {H:Hp} {R:Hp→Prop} (Pv:Nat→St→Hp→Prop) (h0:Pv 0 σ H) (hl:∀i σ H,i≤xs.length→Pv i σ H→bJ K H a xs)
  (hs:∀i x p σ H,xs[i]? =some x→Pv i σ H→H p=none→g (.ref p) σ (upd H p (.tup [.int i,x])) fun σ2 H2=>tt σ2 H2 fun b H3=>if b=true then te σ2 H3 fun y H4=>∃ys,H4 D=some (.lst ys)∧ys.length<sizeLine∧Pv (i+1) σ2 (upd H4 D (.lst (ys++[y]))) else Pv (i+1) σ2 H3)
  (hd:∀σ H,Pv xs.length σ H→R H):jL (yr K a) g tt te D σ H R:=by
 refine⟨fun i m σ H=>m=xs.length-i∧i≤xs.length∧Pv i σ H,⟨xs.length,by simp,Nat.zero_le _,h0⟩,?_⟩
 rintro i m σ H ⟨rfl,hi,p⟩
 have q:=hl i σ H hi p
 by_cases hlt:i<xs.length
 ·refine .inr ⟨⟨xs,xs[i],q,by simp[hlt]⟩,Pv (i+1),fun σ' H' p'=>⟨xs.length-(i+1),by omega,rfl,hlt,p'⟩,fun x H' y=>?_⟩
  obtain⟨z,pa,hz,hn,rfl,rfl⟩:=y
  exact hs i z pa σ H (hz xs q) p hn
 ·have e:i=xs.length:=by omega
  subst e
  exact .inl ⟨⟨xs,q,Nat.le_refl _⟩,hd σ H p⟩
theorem lh {K:PySem.W.Frag} {a:Addr} {xs:List V} {g:TG} {tt:TT} {te:TE} {D:Addr} {σ:St} {H:Hp} {R:Hp→Prop} (Pv:Nat→St→Hp→Prop) (h0:Pv 0 σ H) (hl:∀i σ H,i≤xs.length→Pv i σ H→cH K H a xs)
  (hs:∀i x p σ H,xs[i]? =some x→Pv i σ H→H p=none→g (.ref p) σ (upd H p (.tup [.int i,x])) fun σ2 H2=>tt σ2 H2 fun b H3=>if b=true then te σ2 H3 fun y H4=>∃ys,H4 D=some (.lst ys)∧ys.length<sizeLine∧Pv (i+1) σ2 (upd H4 D (.lst (ys++[y]))) else Pv (i+1) σ2 H3)
  (hd:∀σ H,Pv xs.length σ H→R H):jL (oW K a) g tt te D σ H R:=by
 refine⟨fun i m σ H=>m=xs.length-i∧i≤xs.length∧Pv i σ H,⟨xs.length,by simp,Nat.zero_le _,h0⟩,?_⟩
 rintro i m σ H ⟨rfl,hi,p⟩
 have q:=hl i σ H hi p
 by_cases hlt:i<xs.length
 ·refine .inr ⟨⟨xs,xs[i],q,by simp[hlt]⟩,Pv (i+1),fun σ' H' p'=>⟨xs.length-(i+1),by omega,rfl,hlt,p'⟩,fun x H' y=>?_⟩
  obtain⟨z,pa,hz,hn,rfl,rfl⟩:=y
  exact hs i z pa σ H (hz xs q) p hn
 ·have e:i=xs.length:=by omega
  subst e
  exact .inl ⟨⟨xs,q,Nat.le_refl _⟩,hd σ H p⟩
theorem u3 {c:TT} {tb:TS} {D:Ends} {σ:St} {H:Hp} (W:Nat→St→Hp→Prop) (h0:∃m,W m σ H)
  (hs:∀m σ H,W m σ H→c σ H fun b H1=>if b=true then tb {D with nx:=fun σ' H'=>∃m',m'<m∧W m' σ' H',ct:=fun σ' H'=>∃m',m'<m∧W m' σ' H',bk:=D.nx} σ H1 else D.nx σ H1)
  (mono:∀σ H Q Q',(∀b H1,Q b H1→Q' b H1)→c σ H Q→c σ H Q'):j9 c tb D σ H:=by
 refine⟨W,h0,fun m σ H w=>mono σ H _ _ (fun b H1 q=>?_) (hs m σ H w)⟩
 cases b with
 | true=>exact⟨_,fun σ' H' p=>p,q⟩
 | false=>exact q
structure qL (K:PySem.W.Frag) (x qual:Str) (st:Stmt) (f:Addr) (fd:FuncData) (cd:Value):Prop where
 ex:∃(oc:Value) (od:Option Addr) (dV kV doc pm:Value) (an:Option Addr) (ct:Value) (osl:Array (Option Value)),
  fd=PySem.W.fnOf x qual (aL st) (aI st) (ak st) dV kV doc pm an cd ct∧K.lookup f=some ⟨oc,od,.func fd,osl⟩∧PySem.W.codeIn K cd qual=true
 kp:PySem.W.keepIn K (.ref f)=true
section
variable {P:Program} {w:World} {K:PySem.W.Frag} {mg:Str→Option Value} {base:Heap}
theorem qL.ok {x qual:Str} {st:Stmt} {f:Addr} {fd:FuncData} {cd:Value} {N ps:List Str} {k:Nat} {sp:Sp} (F:qL K x qual st f fd cd) (S:aW N ps (ak st)) (len:∀vs H Q E,sp vs H Q E→vs.length=ps.length)
  (hbody:∀(A:Around) (outer:List Env) (s:Shared) (H:Hp) (vs:List V) (Q:VK) (E:XK),aU k (A.deeper (envOfC qual (ak st) s.heap.objs.size f cd))→sp vs H Q E→
   ∃t,jG (oS cE P w K mg base N qual (ak st) f cd A outer s H E).yd (aI st) t∧t {nx:=fun _ H'=>Q .non H',rt:=Q} (start N vs) H):bD P w K mg base cE (k+1) f fd ps sp:=by
 obtain⟨oc,od,dV,kV,doc,pm,an,ct,osl,rfl,lk,hcd⟩:=F.ex
 refine DV lk hcd S len fun A outer s H vs Q E hr hsp=>?_
 obtain⟨t,h,q⟩:=hbody A outer s H vs Q E hr hsp
 exact⟨t,h.yd,q⟩
theorem qM {x qual:Str} {st:Stmt} {f:Addr} {oc:Value} {od an:Option Addr} {osl:Array (Option Value)} {dV kV doc pm cd ct:Value} (l:K.lookup f=some ⟨oc,od,.func (PySem.W.fnOf x qual (aL st) (aI st) (ak st) dV kV doc pm an cd ct),osl⟩)
  (c:PySem.W.codeIn K cd qual=true) (k:PySem.W.keepIn K (.ref f)=true):qL K x qual st f (PySem.W.fnOf x qual (aL st) (aI st) (ak st) dV kV doc pm an cd ct) cd:=⟨⟨oc,od,dV,kV,doc,pm,an,ct,osl,rfl,l,c⟩,k⟩
end
section
variable {X:Cx} {pos:Pos} {params:Arguments} {body:Expr} {scope:Scope} {c T:Addr} {clos:List (Str×Addr)} {L:List (Pos×Str)}
theorem nV (hcode:X.env.code=.ref c) (hC:PySem.W.codeHdIn X.K c T=true) (hB:gI X.mg X.base) (hcl:closureFor scope X.env=pure clos) (hdef:defaultsOf params X.env=([],[])) (hL:(pos,X.env.qual++"<lambda>")∈L) (ap:Apart L) (hfs:X.ex=[]):
  PE X (.Lambda params body scope pos) (Hy X params body scope clos T L):=fun pins s σ H Q I h=>Hz hcode (PySem.W.codeHd_of_K I.ok.mod.x8 hC) hB hcl hdef hL ap hfs pins s σ H Q I h
theorem r6 {K:PySem.W.Frag} {c T:Addr} {od:Option Addr} {vs:Array Value} {sl:Array (Option Value)} (lc:K.lookup c=some ⟨.type "code",od,.fields vs,sl⟩)
  (e:((match (vs[11]? :Option Value) with | some (.ref P')=>P' == T | _=>false)&&(match vs.getD 18 .none with | .str _ _=>true | _=>false)&&(match vs.getD 7 .none with | .int _ _=>true | _=>false)&&
   (match vs.getD 9 .none with | .bool _=>true | _=>false)&&(match vs.getD 10 .none with | .int _ _=>true | _=>false)&&c != T)=true):PySem.W.codeHdIn K c T=true:=by
 unfold PySem.W.codeHdIn
 rw[lc]
 exact e
end
def kvsOf {α κ:Type} (key:α→κ) (xs:List α):List (κ×V):=xs.zipIdx.map fun p=>(key p.1,V.int ((p.2:Nat):Int))
section
variable {α κ:Type} [DecidableEq κ] {key:α→κ}
theorem r9 (xs:List α):(kvsOf key xs).length=xs.length:=by unfold kvsOf;rw[List.length_map,List.length_zipIdx]
theorem lj (xs:List α) (x:α):kvsOf key (xs++[x])=kvsOf key xs++[(key x,V.int ((xs.length:Nat):Int))]:=by
 unfold kvsOf
 rw[List.zipIdx_append,List.map_append]
 simp
theorem mP:∀{kvs:List (κ×V)} {k:κ},(∀p∈kvs,p.1≠k)→aX kvs k=none
 | [],_,_=>rfl
 | p::r,k,h=>by rw[bP (h p List.mem_cons_self)];exact mP fun q hq=>h q (List.mem_cons_of_mem _ hq)
theorem gJ (inj:∀a b,key a=key b→a=b) {xs:List α} {x:α} (h:x ∉ xs):aX (kvsOf key xs) (key x)=none:=by
 refine mP fun p hp e=>h ?_
 unfold kvsOf at hp
 obtain⟨q,hq,rfl⟩:=List.mem_map.mp hp
 obtain⟨y,i⟩:=q
 have:=(List.mem_zipIdx hq).2.2
 have e':=inj _ _ e
 rw[←e',this]
 exact List.getElem_mem ..
theorem o4 {kvs more:List (κ×V)} {k:κ} (h:aX kvs k=none):aX (kvs++more) k=aX more k:=by
 induction kvs with
 | nil=>rfl
 | cons p r ih=>
  by_cases e:p.1=k
  ·rw[bY e] at h;cases h
  ·rw[bP e] at h
   show aX (p::(r++more)) k=_
   rw[bP e];exact ih h
theorem o5 {kvs more:List (κ×V)} {k:κ} {v:V} (h:aX kvs k=some v):aX (kvs++more) k=some v:=by
 induction kvs with
 | nil=>cases h
 | cons p r ih=>
  by_cases e:p.1=k
  ·rw[bY e] at h
   show aX (p::(r++more)) k=_
   rw[bY e];exact h
  ·rw[bP e] at h
   show aX (p::(r++more)) k=_
   rw[bP e];exact ih h
theorem lq (inj:∀a b,key a=key b→a=b):∀(n:Nat) {xs:List α} {i:Nat} {x:α},xs.length=n→xs.Nodup→xs[i]? =some x→aX (kvsOf key xs) (key x)=some (.int ((i:Nat):Int))
 | 0,xs,i,x,hl,_,h=>by
  have:=(List.getElem?_eq_some_iff.mp h).1
  omega
 | n+1,xs,i,x,hl,nd,h=>by
  rcases List.eq_nil_or_concat xs with rfl | ⟨ys,y,e⟩
  ·simp at hl
  rw[List.concat_eq_append] at e
  subst e
  rw[lj]
  have hy:y ∉ ys:=fun z=>((List.nodup_append.mp nd).2.2 y z y (List.mem_singleton.mpr rfl)) rfl
  by_cases hi:i<ys.length
  ·rw[List.getElem?_append_left hi] at h
   exact o5 (lq inj n (by simpa using hl) (List.nodup_append.mp nd).1 h)
  ·have hb:=(List.getElem?_eq_some_iff.mp h).1
   rw[List.length_append] at hb
   have hi2:i=ys.length:=by simp at hb;omega
   subst hi2
   rw[List.getElem?_append_right (Nat.le_refl _),Nat.sub_self] at h
   have:=Option.some.inj h
   subst this
   rw[o4 (gJ inj hy)]
   exact bY rfl
end
structure h_ (α:Type) where
 Rep:α→V→Hp→Prop
 Num:Hp→Addr→List α→Prop
 same:∀{x:α} {v:V} {H H':Hp},Rep x v H→cm H H'→Rep x v H'
 keep:∀{H H':Hp} {D:Addr} {xs:List α},Num H D xs→H' D=H D→Num H' D xs
 isD:∀{H:Hp} {D:Addr} {xs:List α},Num H D xs→∃o,H D=some o∧(∀l,o≠.lst l)∧(∀l,o≠.tup l)
 there:∀{H:Hp} {D:Addr} {xs:List α} {i:Nat} {x:α} {v:V},Num H D xs→Rep x v H→xs.Nodup→xs[i]? =some x→jj H D v (some (.int ((i:Nat):Int)))
 miss:∀{H:Hp} {D:Addr} {xs:List α} {x:α} {v:V},Num H D xs→Rep x v H→x ∉ xs→jj H D v none
 put:∀{H:Hp} {D:Addr} {xs:List α} {x:α} {v:V},Num H D xs→Rep x v H→x ∉ xs→xs.length<sizeLine→∃H',kU H D v (.int ((xs.length:Nat):Int)) H'∧KB D H H'∧Num H' D (xs++[x])
 CQ:∀{X:Cx} {pos kpos cpos:Pos} {x:Str} {i j:Nat},X.A.units+1<cLine→PE X (.Name x kpos) (zg i)→PE X (.Constant (.int 0) j cpos) (tC (.int 0))→PE X (.Dict [some (.Name x kpos)] [.Constant (.int 0) j cpos] pos)
  (fun σ H Q=>∃y v,σ[i]? =some (some v)∧Rep y v H∧∀D H',H D=none→Same H H'→Num H' D [y]→Q (.ref D) H')
theorem ky (a b:Nat) (h:(Sum.inl (a:Int):Key)=Sum.inl (b:Int)):a=b:=by injection h with h;omega
def CS:h_ Nat where
 Rep:=fun x v _=>v=.int (x:Int)
 Num:=fun H D xs=>H D=some (.dK (kvsOf (fun(x:Nat)=>(Sum.inl (x:Int):Key)) xs))
 same:=fun h _=>h
 keep:=fun h e=>e.trans h
 isD:=fun h=>⟨_,h,(fun l z=>by cases z),(fun l z=>by cases z)⟩
 there:=fun {H D xs i x v} h r nd e=>by
  subst r
  exact .inl ⟨_,Sum.inl (x:Int),.inl h,rfl,(lq ky _ rfl nd e).symm⟩
 miss:=fun {H D xs x v} h r n=>by
  subst r
  exact .inl ⟨_,Sum.inl (x:Int),.inl h,rfl,(gJ ky n).symm⟩
 put:=fun {H D xs x v} h r n hl=>by
  subst r
  refine⟨_,kU.k (k:=Sum.inl (x:Int)) h (by rw[r9];exact hl),KB.write,?_⟩
  rw[af,oT _ (gJ ky n),lj]
 CQ:=fun {X pos kpos cpos x i j} hu h1 h2 pins s σ H Q I q=>by
  obtain⟨y,v,hv,rfl,q⟩:=q
  refine Fo (uO h1 h2 yq) rfl rfl (fun z=>nomatch z) (show 1≤15 by decide) pins s σ H Q I fun p hp=>⟨_,hv,?_⟩
  refine⟨af,[(Sum.inl (y:Int),.int 0)],rfl,(show 1≤15 by decide),q p _ hp ((Same.new hp).kbn hp KB.write) ?_⟩
  rw[af];rfl
def j_ (l:List Nat):List Key:=l.map fun(x:Nat)=>(Sum.inl (x:Int):Key)
theorem o7 (a b:List Nat) (h:j_ a=j_ b):a=b:=by
 unfold j_ at h
 induction a generalizing b with
 | nil=>cases b with
  | nil=>rfl
  | cons y b=>cases h
 | cons x a ih=>cases b with
  | nil=>cases h
  | cons y b=>
   rw[List.map_cons,List.map_cons] at h
   injection h with h1 h2
   rw[ky _ _ h1,ih b h2]
theorem nW (l:List Nat):(j_ l).map kV=(l.map fun(x:Nat)=>V.int (x:Int)):=by unfold j_;rw[List.map_map];rfl
def CT:h_ (List Nat) where
 Rep:=fun x v H=>∃p,v=.ref p∧H p=some (.tup (x.map fun(z:Nat)=>V.int (z:Int)))
 Num:=fun H D xs=>H D=some (.dT (kvsOf j_ xs))
 same:=fun {x v H H'} ⟨p,e,h⟩ k=>⟨p,e,k _ _ h⟩
 keep:=fun h e=>e.trans h
 isD:=fun h=>⟨_,h,(fun l z=>by cases z),(fun l z=>by cases z)⟩
 there:=fun {H D xs i x v} h ⟨p,r,hp⟩ nd e=>by
  subst r
  exact .inr ⟨_,j_ x,p,.inl h,rfl,by rw[nW];exact hp,(lq o7 _ rfl nd e).symm⟩
 miss:=fun {H D xs x v} h ⟨p,r,hp⟩ n=>by
  subst r
  exact .inr ⟨_,j_ x,p,.inl h,rfl,by rw[nW];exact hp,(gJ o7 n).symm⟩
 put:=fun {H D xs x v} h ⟨p,r,hp⟩ n hl=>by
  subst r
  refine⟨_,kU.t (k:=j_ x) h (by rw[nW];exact hp) (by rw[r9];exact hl),KB.write,?_⟩
  rw[af,oT _ (gJ o7 n),lj]
 CQ:=fun {X pos kpos cpos x i j} hu h1 h2 pins s σ H Q I q=>by
  obtain⟨y,v,hv,⟨p,rfl,hp⟩,q⟩:=q
  refine CP (Nat.lt_of_succ_lt hu) h1 h2 pins s σ H Q I fun D hD=>⟨_,hv,?_⟩
  have sD:=Same.new (o:=.dT []) hD
  refine⟨af,p,j_ y,rfl,by rw[nW];exact sD _ _ hp,q D _ hD (sD.kbn hD KB.write) ?_⟩
  rw[af];rfl
theorem fb.mk' {ps aJ:List Str} {scope:Scope} (h1:scope.kind=.function) (h2:scope.isCoroutine=false) (h3:scope.isGenerator=false) (h4:∀x∈scope.names,x.2≠.cell) (h5:∀x∈ps,scope.names.lookup x=some .local) (h6:∀x∈aJ,scope.names.lookup x=some .free)
  (h7:∀p∈scope.names,p.2=.free→p.1∈aJ) (h8:(ps++aJ).Nodup):fb ps aJ scope:=⟨h1,h2,h3,h4,h5,h6,fun x e=>h7 (x,.free) (PySem.mem_of_lookup e) rfl,h8⟩
def FnAt (P:Program) (w:World) (K:PySem.W.Frag) (mg:Str→Option Value) (base:Heap) (k:Nat) (f:Addr) (n:Nat) (sp:Sp):Prop:=
 ∃(o:Obj) (fd:FuncData) (ps:List Str),base.get? f=some o∧o.data=.func fd∧ps.length=n∧(∀us:List Value,us.length=ps.length→bindArgs fd ⟨us,[]⟩=pure (ps.zip us))∧bD P w K mg base cE k f fd ps sp
theorem FnAt.lam {X:Cx} {σ:St} {D:List Addr} {H:Hp} {base':Heap} {params:Arguments} {body:Expr} {scope:Scope} {clos:List (Str×Addr)} {c' f:Addr} {ctv:Value} {ps aJ:List Str} {fvs:List V} {k:Nat} {sp:Sp} (W:Wide X σ D H base')
  (hf:H f=some (uX f (lamO X params body scope clos c' ctv))) (QI:f∈D) (hc:H c'=some (r_ c' (X.env.qual++"<lambda>"))) (hcD:c'∈D) (S:fb ps aJ scope) (sub:∀p∈clos,X.env.cells.lookup p.1=some p.2)
  (vals:Paired (fun(x:Str) (v:V)=>∃i:Nat,X.N[i]? =some x∧σ[i]? =some (some v)∧X.env.scope.names.lookup x=some .cell∧clos.lookup x=X.env.cells.lookup x) aJ fvs)
  (hb:∀(us:List Value),us.length=ps.length→bindArgs (PySem.W.kla_fn "<lambda>" (X.env.qual++"<lambda>") params body scope clos ((X.mg "__name__").getD .none) (.ref c') ctv) ⟨us,[]⟩=pure (ps.zip us)) (len:∀vs H Q E,sp vs H Q E→vs.length=ps.length)
  (hbody:∀(A:Around) (outer:List Env) (s:Shared) (H:Hp) (vs:List V) (Q:VK) (E:XK),aU k (A.deeper (PySem.W.envX (X.env.qual++"<lambda>") scope s.heap.objs.size f (.ref c') clos))→sp vs H Q E→
   ∃t,PE (Bb X.prog X.w X.K X.mg base' (ps++aJ) (X.env.qual++"<lambda>") scope f (.ref c') clos A outer s H) body t∧t (vs.map some++fvs.map some) H Q):FnAt X.prog X.w X.K X.mg base' (k+1) f ps.length sp:=by
 have ho:base'.get? f=some (lamO X params body scope clos c' ctv):=W.ext f _ QI hf
 have Hu:base'.CodeRec (.ref c') (X.env.qual++"<lambda>"):=W.ext c' _ hcD hc
 have sub':∀x c,clos.lookup x=some c→X.env.cells.lookup x=some c:=fun x c e=>sub (x,c) (PySem.mem_of_lookup e)
 have C:oY base' clos aJ fvs:=by
  refine⟨fun x y c h1 h2=>W.inj x y c (sub' x c h1) (sub' y c h2),fun x c h=>W.cell x c (sub' x c h),Paired.ml vals fun x v ⟨i,h1,h2,h3,h4⟩=>?_⟩
  obtain⟨c,u,e1,e2,e3⟩:=W.val i x v h1 h2 h3
  exact⟨c,u,h4.trans e1,e2,e3⟩
 exact⟨_,_,ps,ho,rfl,rfl,hb,Ht ho Hu S C len hbody⟩
theorem sf {D:List Addr} {H1 H2:Hp} (s:Same (dU D H1) H2):Same H1 (gv D H1 H2):=fun b o e=>by
 by_cases hb:b∈D
 ·rw[yC hb];exact e
 ·rw[dX hb];exact s _ _ (by rw[gw hb];exact e)
theorem u4 {D:List Addr} {H:Hp} {b:Addr} {o:HO} (hD:∀a∈D,∃φ,H a=some (.ext φ)) (e:H b=some o) (hn:∀φ,o≠.ext φ):dU D H b=some o:=by
 rw[gw fun z=>?_]
 ·exact e
 ·obtain⟨φ,q⟩:=hD b z
  rw[e] at q
  exact hn φ (Option.some.inj q)
section
variable {X:Cx}
theorem u6:∀{a b:List Int},a.map V.int=b.map V.int→a=b
 | [],[],_=>rfl
 | [],_::_,h=>by cases h
 | _::_,[],h=>by cases h
 | x::a,y::b,h=>by
  rw[List.map_cons,List.map_cons] at h
  injection h with h1 h2
  injection h1 with h1
  rw[h1,u6 h2]
end
section
variable {X:Cx} {o e:Expr} {es:List Expr} {apos cpos:Pos} {T:String} {name:Str} {id:String} {r:V→List V→Hp→VK→Prop} {to:TE} {t:TA}
theorem HI (K:PySem.W.Frag) (pa:PlainAttrs T) (slot:Slot T name id) (hty:typeOf (.builtin id)=pure (.type "method_descriptor")) (hm:GI X id r) (ho:PE X o to) (ha:PA X (e::es) t)
  (hbase:attributeBase o name X.env (eval o X.env)=eval o X.env:=by rfl)
  (hfew:((backTo cpos (starEach (e::es) X.env)).all (fun x=> !x.1)&&(backToKw cpos (keywordEach [] X.env)).all (fun x=>x.1.isSome)
   &&decide ((e::es).length+([]:List Keyword).length+(if([]:List Keyword).isEmpty then 0 else 1)<30))=true:=by rfl)
  (hline:(apos.endLine == cpos.line)=true:=by rfl) (hs:starEach (e::es) X.env=(false,eval e X.env)::starEach es X.env:=by rfl) (hplain:(backTo cpos (starEach es X.env)).any (·.1)=false:=by rfl) (hK:X.K=K:=by rfl):
  PE X (.Call (.Attribute o name apos) (e::es) [] cpos) (K2 K T r to t):=by
 subst hK
 exact cL pa slot hty hm ho ha hbase hfew hline hs hplain
end
theorem cw {t u:TS} {D:Ends} {σ:St} {H:Hp} (h:∀R:St→Hp→Prop,R=u D→t {D with nx:=R} σ H):mx t u D σ H:=h _ rfl
def D7 (J:It) (g:TG) (tb:TS) (D:Ends) (σ:St) (H:Hp):Prop:=∃W:Nat→Nat→St→Hp→Prop,(∃m,W 0 m σ H)∧∀i m σ H,W i m σ H→
 (J.stop i H∧D.nx σ H)∨(J.go i H∧∃N:St→Hp→Prop,(∀σ' H',N σ' H'→∃m',m'<m∧W (i+1) m' σ' H')∧∀x H',J.ot i H x H'→g x σ H' fun σ2 H2=>tb {D with nx:=N,ct:=N,bk:=D.nx} σ2 H2)
theorem u9 {K:PySem.W.Frag} {a:Addr} {xs:List V} {g:TG} {tb:TS} {D:Ends} {σ:St} {H:Hp} (Pv:Nat→St→Hp→Prop) (h0:Pv 0 σ H) (hl:∀i σ H,i≤xs.length→Pv i σ H→cH K H a xs)
  (hs:∀i x σ H (N:St→Hp→Prop),(∀σ H,Pv (i+1) σ H→N σ H)→xs[i]? =some x→Pv i σ H→g x σ H fun σ2 H2=>tb {D with nx:=N,ct:=N,bk:=D.nx} σ2 H2) (hd:∀σ H,Pv xs.length σ H→D.nx σ H):D7 (uA K a) g tb D σ H:=
 qx Pv h0 hl (fun i x σ H e p=>hs i x σ H _ (fun _ _ z=>z) e p) hd
theorem lu {lo:Int} {n:Nat} {g:TG} {tb:TS} {D:Ends} {σ:St} {H:Hp} (Pv:Nat→St→Hp→Prop) (h0:Pv 0 σ H)
  (hs:∀i σ H (N:St→Hp→Prop),(∀σ H,Pv (i+1) σ H→N σ H)→i<n→Pv i σ H→g (.int (lo+i)) σ H fun σ2 H2=>tb {D with nx:=N,ct:=N,bk:=D.nx} σ2 H2) (hd:∀σ H,Pv n σ H→D.nx σ H):D7 (pJ lo n) g tb D σ H:=
 dH (lo:=lo) Pv h0 (fun i σ H e p=>hs i σ H _ (fun _ _ z=>z) e p) hd
theorem FF {c:TT} {tb:TS} {D:Ends} {σ:St} {H:Hp} (W:Nat→St→Hp→Prop) (h0:∃m,W m σ H)
  (hs:∀m σ H (N:St→Hp→Prop),(∀σ' H' m',m'<m→W m' σ' H'→N σ' H')→W m σ H→c σ H fun b H1=>if b=true then tb {D with nx:=N,ct:=N,bk:=D.nx} σ H1 else D.nx σ H1)
  (mono:∀σ H Q Q',(∀b H1,Q b H1→Q' b H1)→c σ H Q→c σ H Q'):j9 c tb D σ H:=u3 W h0 (fun m σ H w=>hs m σ H _ (fun _ _ m' h w'=>⟨m',h,w'⟩) w) mono
theorem FG {X:Cx} {tg:Expr} (K:PySem.W.Frag) {l:Expr} {tl:TE} (hl:PE X l tl) (hK:X.K=K:=by rfl):PI X tg l (Gu K tl):=by subst hK;exact fZ hl
section
variable {X:Cx} {pins:List (Addr×Obj)} {σ:St} {H:Hp} {s:Shared}
theorem si (n:Nat) {v:Value} {A:Around} {E:Value→Shared→Prop} {P:Program} {w:World} {s:Shared} {Q:Bool→Shared→Prop} (h:carriedByValue v=true) (q:Q true s):wpAny (model P w) A (eqIsQuiet n v) Q E s:=by
 rw[eqIsQuiet_byValue n h];exact wpAny_pure q
theorem sj {n:Nat} {a:Addr} {vs:List Value} {A:Around} {E:Value→Shared→Prop} {P:Program} {w:World} {s:Shared} {Q:Bool→Shared→Prop} (ht:IsTup s.heap a vs.toArray) (hq:∀v∈vs,∀Q':Bool→Shared→Prop,Q' true s→wpAny (model P w) A (eqIsQuiet n v) Q' E s) (q:Q true s):wpAny (model P w) A (eqIsQuiet (n+1) (.ref a)) Q E s:=by
 obtain⟨o,ho,hc,m,hd⟩:=ht
 have hT:s.TypeIs (.ref a) "tuple":=⟨o,ho,hc⟩
 unfold eqIsQuiet
 refine wpAny_bind (wpAny_specialOf hT PySem.F.slot_tuple_eq.lookup (show wpAny _ _ (isInstance (.ref a) (.type "tuple") >>= _) _ _ s from wpAny_bind (wpAny_isInstance hT isSubtype_tuple_tuple ?_)))
 simp only[Bool.not_true,Bool.false_eq_true,if_false]
 refine wpAny_bind (wpAny_seqItems ho hd (wpAny_bind ?_))
 show wpAny _ _ (forIn vs.toArray _ _) _ _ s
 rw[←Array.forIn_toList]
 refine wpAny_forIn_list _ (fun rest r s'=>r.1=none∧s'=s∧∀v∈rest,v∈vs) _ (fun v rest r s' ⟨hr,hs,hall⟩=>?_) (fun⟨r1,r2⟩ s' ⟨hr,hs,_⟩=>?_) _ _ ⟨rfl,rfl,fun v hv=>hv⟩
 ·subst hs
  refine wpAny_bind (hq v (hall v List.mem_cons_self) _ ?_)
  simp only[Bool.not_true,Bool.false_eq_true,if_false]
  exact wpAny_pure ⟨rfl,rfl,fun z hz=>hall z (List.mem_cons_of_mem _ hz)⟩
 ·subst hs
  simp only at hr
  subst hr
  exact wpAny_pure q
end
end L2
set_option maxHeartbeats 8000000
set_option maxHeartbeats 8000000
namespace L2
open PySem PySem.Spec PyProof.Rows
theorem vb {v v':V} {u:Value} (h:RelV v u) (h':RelV v' u):v=v':=by
 cases v<;>cases v'<;>simp only[RelV] at h h'<;>first
  | (subst h;obtain⟨t,e⟩:=h';cases e;done)
  | (obtain⟨t,rfl⟩:=h;obtain⟨t',e⟩:=h';cases e;done)
  | (obtain⟨t,rfl⟩:=h;obtain⟨t',e⟩:=h';cases e;rfl)
  | (obtain⟨t,rfl⟩:=h;cases h';done)
  | (subst h;cases h';done)
  | (subst h;cases h';rfl)
  | rfl
end L2
set_option maxHeartbeats 8000000
set_option maxHeartbeats 8000000
set_option maxHeartbeats 8000000
set_option maxHeartbeats 8000000
set_option maxHeartbeats 8000000
namespace L2
open PySem PySem.Spec PyProof.Rows
theorem iq {α β:Type} {R:α→β→Prop}:∀{l:List α} {m:List β} {i:Nat} {x:β},Paired R l m→m[i]? =some x→∃y,l[i]? =some y∧R y x
 | _,_,_,_,.nil,e=>by simp at e
 | _,_,0,_,.cons r _,e=>by simp at e;subst e;exact⟨_,rfl,r⟩
 | _,_,i+1,_,.cons _ t,e=>by
  simp only[List.getElem?_cons_succ] at e ⊢
  exact iq t e
theorem dh {α β:Type} {R:α→β→Prop}:∀{l:List α} {m:List β},Paired R l m→l.length=m.length
 | _,_,.nil=>rfl
 | _,_,.cons _ t=>by rw[List.length_cons,List.length_cons,dh t]
end L2
namespace L2
open PySem
namespace ST
abbrev Pr:=SetTable.Probe
def kB (m:Nat) (p:Pr):Pr:=if p.more>0 then {p with j:=p.j+1,more:=p.more-1} else {p with j:=(SetTable.leap m p.i p.perturb).1,more:=SetTable.runEnd m (SetTable.leap m p.i p.perturb).1-(SetTable.leap m p.i p.perturb).1,i:=(SetTable.leap m p.i p.perturb).1,perturb:=(SetTable.leap m p.i p.perturb).2}
theorem pZ (t:SetTable) (p:Pr):t.advance p=kB t.mask p:=by unfold SetTable.advance kB;rfl
def at_ (m i b:Nat):Pr:=⟨i,SetTable.runEnd m i-i,i,b,none⟩
def aN (m:Nat) (h:Int):Nat→Pr
 | 0=>at_ m (SetTable.bits h % (m+1)) (SetTable.bits h)
 | n+1=>kB m (aN m h n)
def go (m:Nat) (p:Pr):Nat→Pr
 | 0=>p
 | n+1=>go m (kB m p) n
theorem go_succ (m:Nat):∀(n:Nat) (p:Pr),go m p (n+1)=kB m (go m p n)
 | 0,p=>rfl
 | n+1,p=>go_succ m n (kB m p)
theorem vd (m:Nat) (h:Int):∀n k,aN m h (k+n)=go m (aN m h k) n
 | 0,k=>rfl
 | n+1,k=>by rw[go_succ,←vd m h n k];rfl
theorem HJ (m i:Nat):SetTable.runEnd m i-i≤9:=by unfold SetTable.runEnd;split<;>omega
theorem ve (m i b:Nat):∀k,k≤SetTable.runEnd m i-i→go m (at_ m i b) k=⟨i+k,SetTable.runEnd m i-i-k,i,b,none⟩
 | 0,_=>by show at_ m i b=_;unfold at_;simp
 | k+1,hk=>by
  rw[go_succ,ve m i b k (by omega)]
  unfold kB
  rw[if_pos (show(⟨i+k,SetTable.runEnd m i-i-k,i,b,none⟩:Pr).more>0 by show SetTable.runEnd m i-i-k>0;omega)]
  show(⟨i+k+1,SetTable.runEnd m i-i-k-1,i,b,none⟩:Pr)=_
  rw[show i+k+1=i+(k+1) by omega,show SetTable.runEnd m i-i-k-1=SetTable.runEnd m i-i-(k+1) by omega]
theorem CU (m i b:Nat):go m (at_ m i b) (SetTable.runEnd m i-i+1)=at_ m (SetTable.leap m i b).1 (SetTable.leap m i b).2:=by
 rw[go_succ,ve m i b _ (Nat.le_refl _)]
 unfold kB
 rw[if_neg (by show ¬(SetTable.runEnd m i-i-(SetTable.runEnd m i-i)>0);omega)]
 rfl
def lp (m:Nat) (h:Int):Nat→Nat×Nat
 | 0=>(SetTable.bits h % (m+1),SetTable.bits h)
 | k+1=>SetTable.leap m (lp m h k).1 (lp m h k).2
def cnt (m:Nat) (h:Int):Nat→Nat
 | 0=>0
 | k+1=>cnt m h k+(SetTable.runEnd m (lp m h k).1-(lp m h k).1+1)
theorem Bi (m:Nat) (h:Int):∀k,cnt m h k≤10*k
 | 0=>Nat.le_refl _
 | k+1=>by have:=Bi m h k;have:=HJ m (lp m h k).1;unfold cnt;omega
theorem qN (m:Nat) (h:Int):∀k,aN m h (cnt m h k)=at_ m (lp m h k).1 (lp m h k).2
 | 0=>rfl
 | k+1=>by
  unfold cnt
  rw[vd,qN m h k,CU];rfl
theorem p_ (m:Nat) (h:Int):∀k,(lp m h k).2=SetTable.bits h / 32 ^ k
 | 0=>by simp[lp]
 | k+1=>by
  show(lp m h k).2 / 32=_
  rw[p_ m h k,Nat.div_div_eq_div_mul,Nat.pow_succ]
theorem FH (h:Int):SetTable.bits h<2 ^ 64:=by
 unfold SetTable.bits
 have h1:=Int.emod_lt_of_pos h (show(0:Int)<2 ^ 64 by decide)
 have h2:=Int.emod_nonneg h (show(2 ^ 64:Int)≠0 by decide)
 omega
theorem CV (m:Nat) (h:Int) (k:Nat) (hk:13≤k):(lp m h k).2=0:=by
 rw[p_]
 refine Nat.div_eq_of_lt (Nat.lt_of_lt_of_le (FH h) ?_)
 calc(2:Nat) ^ 64≤32 ^ 13:=by decide
  _≤32 ^ k:=Nat.pow_le_pow_right (by decide) hk
def f5 (m i:Nat):Nat:=(i*5+1) % (m+1)
def jq (m:Nat):Nat→Nat→Nat
 | 0,i=>i
 | n+1,i=>f5 m (jq m n i)
theorem nX (m:Nat) (a:Nat) (i:Nat):∀b,jq m (a+b) i=jq m b (jq m a i)
 | 0=>rfl
 | b+1=>by show f5 m (jq m (a+b) i)=_;rw[nX m a i b];rfl
theorem D8 (m:Nat) (h:Int):∀q,(lp m h (13+q)).1=jq m q (lp m h 13).1
 | 0=>rfl
 | q+1=>by
  show((lp m h (13+q)).1*5+1+(lp m h (13+q)).2 / 32) % (m+1)=_
  rw[CV m h (13+q) (by omega),D8 m h q]
  rfl
theorem D9 (m:Nat) (h:Int):∀k,(lp m h k).1≤m
 | 0=>by show SetTable.bits h % (m+1)≤m;have:=Nat.mod_lt (SetTable.bits h) (show 0<m+1 by omega);omega
 | k+1=>by
  show((lp m h k).1*5+1+(lp m h k).2 / 32) % (m+1)≤m
  have:=Nat.mod_lt ((lp m h k).1*5+1+(lp m h k).2 / 32) (show 0<m+1 by omega);omega
def Mk (m:Nat):Prop:=m=7∨m=31∨m=127
theorem period {m:Nat} (hm:Mk m):jq m (m+1) 0=0∧∀j,j≤m→∃b,b≤m∧jq m b 0=j:=by
 have key:∀M:Nat,jq M (M+1) 0=0∧(∀j:Fin (M+1),(List.range (M+1)).any (fun b=>jq M b 0 == j.val)=true)→jq M (M+1) 0=0∧∀j,j≤M→∃b,b≤M∧jq M b 0=j:=fun M h=>⟨h.1,fun j hj=>by
  have:=h.2 ⟨j,by omega⟩
  obtain⟨b,hb,e⟩:=List.any_eq_true.mp this
  have:=List.mem_range.mp hb
  exact⟨b,by omega,by simpa using e⟩⟩
 rcases hm with rfl | rfl | rfl
 ·exact key 7 (by decide+kernel)
 ·exact key 31 (by decide+kernel)
 ·exact key 127 (by decide+kernel)
theorem zK {m:Nat} (hm:Mk m) (n:Nat):jq m (n+(m+1)) 0=jq m n 0:=by
 rw[Nat.add_comm,nX,(period hm).1]
theorem Bj {m i j:Nat} (hm:Mk m) (hi:i≤m) (hj:j≤m):∃q,q≤m∧jq m q i=j:=by
 obtain⟨a,ha,ea⟩:=(period hm).2 i hi
 obtain⟨b,hb,eb⟩:=(period hm).2 j hj
 by_cases h:a≤b
 ·refine⟨b-a,by omega,?_⟩
  rw[←ea,←nX,show a+(b-a)=b by omega,eb]
 ·refine⟨b+(m+1)-a,by omega,?_⟩
  rw[←ea,←nX,show a+(b+(m+1)-a)=b+(m+1) by omega,zK hm,eb]
theorem sk {m j:Nat} (hm:Mk m) (h:Int) (hj:j≤m):∃k,k≤13+m∧(lp m h k).1=j:=by
 obtain⟨q,hq,e⟩:=Bj hm (D9 m h 13) hj
 exact⟨13+q,by omega,by rw[D8,e]⟩
theorem CW {m j:Nat} (hm:Mk m) (h:Int) (hj:j≤m):∃n,n≤10*(13+m)∧(aN m h n).j=j:=by
 obtain⟨k,hk,e⟩:=sk hm h hj
 have:=Bi m h k
 exact⟨cnt m h k,by omega,by rw[qN];exact e⟩
theorem o8 (m:Nat) (h:Int):∀n,(aN m h n).dummy=none
 | 0=>rfl
 | n+1=>by
  show(kB m (aN m h n)).dummy=none
  unfold kB
  split
  ·exact o8 m h n
  ·exact o8 m h n
end ST
namespace ST
theorem fD {xs:List Nat} (hs:xs.Pairwise (· < ·)) {i k a b:Nat} (hik:i<k) (ha:xs[i]? =some a) (hb:xs[k]? =some b):a<b:=by
 obtain⟨h1,e1⟩:=List.getElem?_eq_some_iff.mp ha
 obtain⟨h2,e2⟩:=List.getElem?_eq_some_iff.mp hb
 have:=List.pairwise_iff_getElem.mp hs i k h1 h2 hik
 rw[e1,e2] at this
 exact this
theorem o9 {xs:Array Nat} {j:Nat} (hs:xs.toList.Pairwise (· < ·)):∀(fuel lo hi:Nat),lo≤hi→hi≤xs.size→hi-lo≤fuel→(∀i a,i<lo→xs.toList[i]? =some a→a<j)→(∀i a,hi≤i→xs.toList[i]? =some a→j≤a)→
  SetTable.below.go xs j fuel lo hi≤xs.size∧(∀i a,i<SetTable.below.go xs j fuel lo hi→xs.toList[i]? =some a→a<j)∧(∀i a,SetTable.below.go xs j fuel lo hi≤i→xs.toList[i]? =some a→j≤a)
 | 0,lo,hi,h1,h2,h3,h4,h5=>by
  have:lo=hi:=by omega
  subst this
  unfold SetTable.below.go
  exact⟨h2,h4,h5⟩
 | fuel+1,lo,hi,h1,h2,h3,h4,h5=>by
  unfold SetTable.below.go
  by_cases hl:lo<hi
  ·rw[if_pos hl]
   have hm:(lo+hi) / 2<xs.size:=by omega
   have em:xs.toList[(lo+hi) / 2]? =some (xs.getD ((lo+hi) / 2) j):=by
    rw[Array.getElem?_toList,Array.getD_eq_getD_getElem?,Array.getElem?_eq_getElem hm];rfl
   dsimp only
   by_cases hv:xs.getD ((lo+hi) / 2) j<j
   ·rw[if_pos hv]
    refine o9 hs fuel _ hi (by omega) h2 (by omega) (fun i a hi' ea=>?_) h5
    by_cases hq:i=(lo+hi) / 2
    ·rw[hq,em] at ea
     rw[←Option.some.inj ea];exact hv
    ·have:=fD hs (show i<(lo+hi) / 2 by omega) ea em
     omega
   ·rw[if_neg hv]
    refine o9 hs fuel lo _ (by omega) (by omega) (by omega) h4 (fun i a hi' ea=>?_)
    by_cases hq:i=(lo+hi) / 2
    ·rw[hq,em] at ea
     rw[←Option.some.inj ea];omega
    ·have:=fD hs (show(lo+hi) / 2<i by omega) em ea
     omega
  ·rw[if_neg hl]
   have:lo=hi:=by omega
   subst this
   exact⟨h2,h4,h5⟩
theorem p3 {xs:Array Nat} (j:Nat) (hs:xs.toList.Pairwise (· < ·)):SetTable.below xs j≤xs.size∧(∀i a,i<SetTable.below xs j→xs.toList[i]? =some a→a<j)∧(∀i a,SetTable.below xs j≤i→xs.toList[i]? =some a→j≤a):=
 o9 hs xs.size 0 xs.size (Nat.zero_le _) (Nat.le_refl _) (by omega) (fun i a h=>by omega) (fun i a h e=>by
  have:=(List.getElem?_eq_some_iff.mp e).1
  rw[Array.length_toList] at this
  omega)
abbrev En:=Nat×(Int×Value)
structure TI (t:SetTable) (E:List En):Prop where
 ms:Mk t.mask
 pl:t.place=(E.map (·.1)).toArray
 dm:t.dummies= #[]
 up:(E.map (·.1)).Pairwise (· < ·)
 le:∀e∈E,e.1≤t.mask
 lt:E.length≤t.mask
 rc:∀e∈E,∃n,(aN t.mask e.2.1 n).j=e.1∧∀k,k<n→∃e'∈E,e'.1=(aN t.mask e.2.1 k).j
theorem TI.split {t:SetTable} {E:List En} (I:TI t E) (j:Nat):∃A B,E=A++B∧SetTable.below t.place j=A.length∧(∀e∈A,e.1<j)∧(∀e∈B,j≤e.1):=by
 have hs:t.place.toList.Pairwise (· < ·):=by rw[I.pl];exact I.up
 obtain⟨h1,h2,h3⟩:=p3 j hs
 have hp:t.place.toList=E.map (·.1):=by rw[I.pl]
 have hz:t.place.size=E.length:=by rw[I.pl];simp
 refine⟨E.take (SetTable.below t.place j),E.drop (SetTable.below t.place j),(List.take_append_drop _ _).symm,by rw[List.length_take];omega,fun e he=>?_,fun e he=>?_⟩
 ·obtain⟨i,hi⟩:=List.getElem?_of_mem he
  have hi2:i<SetTable.below t.place j:=by have:=(List.getElem?_eq_some_iff.mp hi).1;rw[List.length_take] at this;omega
  rw[List.getElem?_take_of_lt hi2] at hi
  exact h2 i e.1 hi2 (by rw[hp,List.getElem?_map,hi];rfl)
 ·obtain⟨i,hi⟩:=List.getElem?_of_mem he
  rw[List.getElem?_drop] at hi
  exact h3 (SetTable.below t.place j+i) e.1 (by omega) (by rw[hp,List.getElem?_map,hi];rfl)
theorem TI.vf {t:SetTable} {E:List En} (I:TI t E) (j:Nat):SetTable.has t.dummies j=false:=by rw[I.dm];rfl
theorem TI.Bk {t:SetTable} {E:List En} (I:TI t E) {j:Nat} (h:∀e∈E,e.1≠j):t.slot j=.empty:=by
 obtain⟨A,B,e,hb,ha,hb2⟩:=I.split j
 unfold SetTable.slot
 dsimp only
 rw[hb,I.vf,I.pl]
 have:((E.map (·.1)).toArray[A.length]? == some j)=false:=by
  rw[beq_eq_false_iff_ne]
  intro z
  rw[List.getElem?_toArray,List.getElem?_map] at z
  cases q:E[A.length]? with
  | none=>rw[q] at z;cases z
  | some x=>
   rw[q] at z
   exact h x (List.mem_of_getElem? q) (Option.some.inj z)
 rw[this];rfl
theorem TI.uniq {t:SetTable} {E:List En} (I:TI t E) {i k:Nat} {a b:En} (ha:E[i]? =some a) (hb:E[k]? =some b) (h:a.1=b.1):i=k:=by
 have e1:(E.map (·.1))[i]? =some a.1:=by rw[List.getElem?_map,ha];rfl
 have e2:(E.map (·.1))[k]? =some b.1:=by rw[List.getElem?_map,hb];rfl
 rcases Nat.lt_trichotomy i k with q | q | q
 ·have:=fD I.up q e1 e2;omega
 ·exact q
 ·have:=fD I.up q e2 e1;omega
theorem TI.sr {t:SetTable} {E:List En} (I:TI t E) {i:Nat} {e:En} (h:E[i]? =some e):t.slot e.1=.live i:=by
 obtain⟨A,B,eE,hb,ha,hb2⟩:=I.split e.1
 have hi:i=A.length:=by
  by_cases q:i<A.length
  ·rw[eE,List.getElem?_append_left q] at h
   have:=ha e (List.mem_of_getElem? h)
   omega
  ·by_cases q2:i=A.length
   ·exact q2
   ·
    have hil:=(List.getElem?_eq_some_iff.mp h).1
    have QJ:A.length<E.length:=by omega
    obtain⟨x,e2⟩:∃x,E[A.length]? =some x:=⟨_,List.getElem?_eq_getElem QJ⟩
    have m2:x∈B:=by
     have e3:=e2
     rw[eE,List.getElem?_append_right (Nat.le_refl _),Nat.sub_self] at e3
     exact List.mem_of_getElem? e3
    have h1:=hb2 _ m2
    have h2:=fD I.up (show A.length<i by omega) (show(E.map (·.1))[A.length]? =some x.1 by rw[List.getElem?_map,e2];rfl) (show(E.map (·.1))[i]? =some e.1 by rw[List.getElem?_map,h];rfl)
    omega
 unfold SetTable.slot
 dsimp only
 rw[hb,←hi,I.pl]
 have:((E.map (·.1)).toArray[i]? == some e.1)=true:=by
  rw[List.getElem?_toArray,List.getElem?_map,h];simp
 rw[this];rfl
def hAt (es:Array (Int×Value)) (i:Nat):Int:=(es[i]?.map (·.1)).getD 0
theorem TI.FI {E:List En} {i:Nat} {e:En} (h:E[i]? =some e):hAt (E.map (·.2)).toArray i=e.2.1:=by
 unfold hAt
 rw[List.getElem?_toArray,List.getElem?_map,h];rfl
theorem TI.vg {t:SetTable} {E:List En} (I:TI t E) (h:Int):∀(fuel n:Nat),(∃n',n≤n'∧n'<n+fuel∧∀e∈E,e.1≠(aN t.mask h n').j)→
  (∃n',n≤n'∧(∀e∈E,e.1≠(aN t.mask h n').j)∧(∀k,n≤k→k<n'→∃e∈E,e.1=(aN t.mask h k).j∧e.2.1≠h)∧SetTable.probe.go t (hAt (E.map (·.2)).toArray) h fuel (aN t.mask h n)=some (.empty (aN t.mask h n').j none))∨
  (∃n' i e,n≤n'∧(∀k,n≤k→k<n'→∃e∈E,e.1=(aN t.mask h k).j∧e.2.1≠h)∧E[i]? =some e∧e.1=(aN t.mask h n').j∧e.2.1=h∧SetTable.probe.go t (hAt (E.map (·.2)).toArray) h fuel (aN t.mask h n)=some (.candidate (aN t.mask h n').j i (aN t.mask h (n'+1))))
 | 0,n,hx=>by obtain⟨n',h1,h2,_⟩:=hx;omega
 | fuel+1,n,hx=>by
  unfold SetTable.probe.go
  by_cases hn:∀e∈E,e.1≠(aN t.mask h n).j
  ·refine .inl ⟨n,Nat.le_refl _,hn,fun k a b=>by omega,?_⟩
   rw[I.Bk hn,o8]
  ·have:∃e∈E,e.1=(aN t.mask h n).j:=by
    simp only[Classical.not_forall,Classical.not_not] at hn
    obtain⟨e,he,q⟩:=hn
    exact⟨e,he,q⟩
   obtain⟨e,he,ej⟩:=this
   obtain⟨i,hi⟩:=List.getElem?_of_mem he
   have hl:=I.sr hi
   rw[ej] at hl
   rw[hl]
   dsimp only
   rw[TI.FI hi]
   by_cases hh:e.2.1=h
   ·refine .inr ⟨n,i,e,Nat.le_refl _,fun k a b=>by omega,hi,ej,hh,?_⟩
    rw[if_pos (by simpa using hh),pZ];rfl
   ·rw[if_neg (by simpa using hh),pZ]
    have ih:=I.vg h fuel (n+1) (by
     obtain⟨n',h1,h2,h3⟩:=hx
     refine⟨n',?_,by omega,h3⟩
     by_cases q:n'=n
     ·rw[q] at h3;exact absurd h3 hn
     ·omega)
    have pre:∀n',(∀k,n+1≤k→k<n'→∃e∈E,e.1=(aN t.mask h k).j∧e.2.1≠h)→∀k,n≤k→k<n'→∃e∈E,e.1=(aN t.mask h k).j∧e.2.1≠h:=fun n' q k a b=>by
     by_cases z:k=n
     ·rw[z];exact⟨e,he,ej,hh⟩
     ·exact q k (by omega) b
    rcases ih with⟨n',a1,a2,a3,a4⟩ | ⟨n',i',e',a1,a2,a3,a4,a5,a6⟩
    ·exact .inl ⟨n',by omega,a2,pre n' a3,a4⟩
    ·exact .inr ⟨n',i',e',by omega,pre n' a2,a3,a4,a5,a6⟩
end ST
namespace ST
theorem mQ {α:Type} [DecidableEq α]:∀{l m:List α},l.Nodup→(∀x∈l,x∈m)→l.length≤m.length
 | [],m,_,_=>Nat.zero_le _
 | a::l,m,nd,h=>by
  rw[List.nodup_cons] at nd
  have ha:=h a List.mem_cons_self
  have:=mQ (l:=l) (m:=m.erase a) nd.2 fun x hx=>(List.mem_erase_of_ne (fun(z:x=a)=>nd.1 (by rw[←z];exact hx))).mpr (h x (List.mem_cons_of_mem _ hx))
  rw[List.length_erase_of_mem ha] at this
  have hp:0<m.length:=List.length_pos_of_mem ha
  rw[List.length_cons];omega
theorem TI.vh {t:SetTable} {E:List En} (I:TI t E) (h:Int):∃n,n≤10*(13+t.mask)∧∀e∈E,e.1≠(aN t.mask h n).j:=by
 have:∃j,j≤t.mask∧j ∉ E.map (·.1):=by
  apply Classical.byContradiction
  intro hx
  have hall:∀j,j≤t.mask→j∈E.map (·.1):=fun j hj=>Classical.byContradiction fun z=>hx ⟨j,hj,z⟩
  have:=mQ (l:=List.range (t.mask+1)) (m:=E.map (·.1)) List.nodup_range fun x hx=>hall x (by have:=List.mem_range.mp hx;omega)
  rw[List.length_range,List.length_map] at this
  have:=I.lt
  omega
 obtain⟨j,hj,hn⟩:=this
 obtain⟨n,h1,h2⟩:=CW I.ms h hj
 exact⟨n,h1,fun e he q=>hn (List.mem_map.mpr ⟨e,he,by rw[q,h2]⟩)⟩
theorem TI.CY {t:SetTable} {E:List En} (I:TI t E) (h:Int) (n:Nat) (hn:∀k,k<n→∃e∈E,e.1=(aN t.mask h k).j):
  (∃n',n≤n'∧(∀e∈E,e.1≠(aN t.mask h n').j)∧(∀k,n≤k→k<n'→∃e∈E,e.1=(aN t.mask h k).j∧e.2.1≠h)∧t.probe (hAt (E.map (·.2)).toArray) h (aN t.mask h n)=some (.empty (aN t.mask h n').j none))∨
  (∃n' i e,n≤n'∧(∀k,n≤k→k<n'→∃e∈E,e.1=(aN t.mask h k).j∧e.2.1≠h)∧E[i]? =some e∧e.1=(aN t.mask h n').j∧e.2.1=h∧t.probe (hAt (E.map (·.2)).toArray) h (aN t.mask h n)=some (.candidate (aN t.mask h n').j i (aN t.mask h (n'+1)))):=by
 refine I.vg h _ n ?_
 obtain⟨n0,h1,h2⟩:=I.vh h
 refine⟨n0,?_,?_,h2⟩
 ·apply Classical.byContradiction
  intro q
  obtain⟨e,he,z⟩:=hn n0 (by omega)
  exact h2 e he z
 ·unfold SetTable.turns
  omega
theorem TI.Bl {t:SetTable} {E:List En} (I:TI t E) {h:Int} {n:Nat} {D':En→Prop} (he:∀e∈E,e.1≠(aN t.mask h n).j) (hn:∀k,k<n→∃e∈E,e.1=(aN t.mask h k).j∧¬D' e) (hh:∀e∈E,D' e→e.2.1=h):∀e∈E,¬D' e:=fun e hm hit=>by
 obtain⟨k,hk1,hk2⟩:=I.rc e hm
 rw[hh e hm hit] at hk1 hk2
 rcases Nat.lt_trichotomy k n with q | q | q
 ·obtain⟨e',hm',e1,nh⟩:=hn k q
  obtain⟨i1,q1⟩:=List.getElem?_of_mem hm
  obtain⟨i2,q2⟩:=List.getElem?_of_mem hm'
  have:=I.uniq q1 q2 (by rw[←hk1,e1])
  subst this
  rw[q1] at q2
  exact nh (Option.some.inj q2▸hit)
 ·exact he e hm (by rw[←hk1,q])
 ·obtain⟨e',hm',z⟩:=hk2 n q
  exact he e' hm' z
theorem oA {α:Type} (xs:Array α) (p:Nat) (x:α):(SetTable.insertAt xs p x).toList=xs.toList.take p++x::xs.toList.drop p:=by
 unfold SetTable.insertAt
 rw[Array.toList_append,Array.toList_push,Array.toList_extract,Array.toList_extract,List.extract_eq_take_drop,List.extract_eq_take_drop]
 simp
 exact List.take_of_length_le (by rw[List.length_drop,Array.length_toList];exact Nat.le_refl _)
theorem TI.put {t:SetTable} {E:List En} (I:TI t E) {h:Int} {x:Value} {n:Nat} (he:∀e∈E,e.1≠(aN t.mask h n).j) (hn:∀k,k<n→∃e∈E,e.1=(aN t.mask h k).j) (hl:E.length+1≤t.mask) (hj:(aN t.mask h n).j≤t.mask):
  ∃E',E'.Perm (((aN t.mask h n).j,(h,x))::E)∧TI (t.put (aN t.mask h n).j).1 E'∧SetTable.insertAt (E.map (·.2)).toArray (t.put (aN t.mask h n).j).2 (h,x)=(E'.map (·.2)).toArray∧(t.put (aN t.mask h n).j).1={t with place:=(E'.map (·.1)).toArray}:=by
 obtain⟨A,B,eE,hb,ha,hb2⟩:=I.split (aN t.mask h n).j
 have ep:(t.put (aN t.mask h n).j).2=A.length:=hb
 have tA:E.take A.length=A:=by rw[eE,List.take_left' rfl]
 have dA:E.drop A.length=B:=by rw[eE,List.drop_left' rfl]
 have e1:(t.put (aN t.mask h n).j).1={t with place:=((A++((aN t.mask h n).j,(h,x))::B).map (·.1)).toArray}:=by
  unfold SetTable.put
  rw[hb,I.vf]
  have:SetTable.insertAt t.place A.length (aN t.mask h n).j=((A++((aN t.mask h n).j,(h,x))::B).map (·.1)).toArray:=by
   apply Array.toList_inj.mp
   rw[oA,I.pl]
   show(E.map (·.1)).take A.length++_::(E.map (·.1)).drop A.length=(A++_::B).map (·.1)
   rw[←List.map_take,←List.map_drop,tA,dA,List.map_append];rfl
  dsimp only
  rw[this,if_neg (by decide)]
 refine⟨A++((aN t.mask h n).j,(h,x))::B,?_,?_,?_,e1⟩
 ·rw[eE];exact List.perm_middle
 ·rw[e1]
  have sub:∀e∈E,e∈A++((aN t.mask h n).j,(h,x))::B:=fun e hm=>by
   rw[eE] at hm
   rcases List.mem_append.mp hm with q | q
   ·exact List.mem_append_left _ q
   ·exact List.mem_append_right _ (List.mem_cons_of_mem _ q)
  have sup:∀e∈A++((aN t.mask h n).j,(h,x))::B,e=((aN t.mask h n).j,(h,x))∨e∈E:=fun e hm=>by
   rw[eE]
   rcases List.mem_append.mp hm with q | q
   ·exact .inr (List.mem_append_left _ q)
   ·rcases List.mem_cons.mp q with q | q
    ·exact .inl q
    ·exact .inr (List.mem_append_right _ q)
  refine⟨I.ms,rfl,I.dm,?_,fun e hm=>?_,?_,fun e hm=>?_⟩
  ·have up:=I.up
   rw[eE,List.map_append,List.pairwise_append] at up
   rw[List.map_append,List.map_cons,List.pairwise_append,List.pairwise_cons]
   refine⟨up.1,⟨fun b hb'=>?_,up.2.1⟩,fun a ha' b hb'=>?_⟩
   ·obtain⟨e,hm,rfl⟩:=List.mem_map.mp hb'
    have h1:=hb2 e hm
    have h2:=he e (by rw[eE];exact List.mem_append_right _ hm)
    show(aN t.mask h n).j<e.1
    omega
   ·obtain⟨e,hm,rfl⟩:=List.mem_map.mp ha'
    rcases List.mem_cons.mp hb' with q | q
    ·rw[q];exact ha e hm
    ·exact up.2.2 _ ha' b q
  ·rcases sup e hm with rfl | q
   ·exact hj
   ·exact I.le e q
  ·rw[List.length_append,List.length_cons]
   have:=congrArg List.length eE
   rw[List.length_append] at this
   show A.length+(B.length+1)≤t.mask
   omega
  ·rcases sup e hm with rfl | q
   ·refine⟨n,rfl,fun k hk=>?_⟩
    obtain⟨e',h1,h2⟩:=hn k hk
    exact⟨e',sub e' h1,h2⟩
   ·obtain⟨n',h1,h2⟩:=I.rc e q
    refine⟨n',h1,fun k hk=>?_⟩
    obtain⟨e',h3,h4⟩:=h2 k hk
    exact⟨e',sub e' h3,h4⟩
 ·apply Array.toList_inj.mp
  rw[ep,oA]
  show(E.map (·.2)).take A.length++_::(E.map (·.2)).drop A.length=(A++_::B).map (·.2)
  rw[←List.map_take,←List.map_drop,tA,dA,List.map_append];rfl
end ST
namespace ST
structure OI (m:Nat) (hs:List Int) (ow:Array (Option Nat)) (F:List Nat):Prop where
 size:ow.size=m+1
 own:∀j:Nat,j≤m→∀k:Nat,ow[j]? =some (some k)↔F[k]? =some j
 le:∀j∈F,j≤m
 nd:F.Nodup
 rc:∀(k j:Nat) (h:Int),F[k]? =some j→hs[k]? =some h→∃n,(aN m h n).j=j∧∀i,i<n→(aN m h i).j∈F
theorem OI.CZ {m:Nat} {hs:List Int} {ow:Array (Option Nat)} {F:List Nat} (I:OI m hs ow F) {j:Nat} (hj:j≤m):(ow.getD j (some 0)).isNone=decide (j ∉ F):=by
 have hz:j<ow.size:=by rw[I.size];omega
 rw[Array.getD_eq_getD_getElem?,Array.getElem?_eq_getElem hz]
 show(ow[j]).isNone=_
 cases e:ow[j] with
 | none=>
  refine(decide_eq_true (p:=j ∉ F) fun q=>?_).symm
  obtain⟨k,hk⟩:=List.getElem?_of_mem q
  have:=(I.own j hj k).mpr hk
  rw[Array.getElem?_eq_getElem hz,e] at this
  cases this
 | some k=>
  have:=(I.own j hj k).mp (by rw[Array.getElem?_eq_getElem hz,e])
  exact(decide_eq_false (p:=j ∉ F) fun q=>q (List.mem_of_getElem? this)).symm
theorem yF {m i:Nat} (hi:i≤m):SetTable.runEnd m i≤m∧i≤SetTable.runEnd m i:=by unfold SetTable.runEnd;split<;>omega
theorem kC (m:Nat) (h:Int) (k q:Nat) (hq:q≤SetTable.runEnd m (lp m h k).1-(lp m h k).1):(aN m h (cnt m h k+q)).j=(lp m h k).1+q:=by
 rw[vd,qN,ve m _ _ q hq]
theorem OI.free {m:Nat} {hs:List Int} {ow:Array (Option Nat)} {F:List Nat} (I:OI m hs ow F) (h:Int):∀(fuel k:Nat),(∃k1,k≤k1∧k1<k+fuel∧(lp m h k1).1 ∉ F)→(∀i,i<cnt m h k→(aN m h i).j∈F)→
  ∃n,SetTable.layClean.free m ow fuel (lp m h k).1 (lp m h k).2=some (aN m h n).j∧(aN m h n).j ∉ F∧(aN m h n).j≤m∧∀i,i<n→(aN m h i).j∈F
 | 0,k,hx,_=>by obtain⟨k1,a,b,_⟩:=hx;omega
 | fuel+1,k,hx,hp=>by
  have hi:=D9 m h k
  obtain⟨r1,r2⟩:=yF hi
  unfold SetTable.layClean.free
  have fr:∀q,q<SetTable.runEnd m (lp m h k).1+1-(lp m h k).1→(ow.getD ((lp m h k).1+q) (some 0)).isNone=decide ((lp m h k).1+q ∉ F):=fun q hq=>I.CZ (by omega)
  cases ef:(List.range (SetTable.runEnd m (lp m h k).1+1-(lp m h k).1)).find? (fun q=>(ow.getD ((lp m h k).1+q) (some 0)).isNone) with
  | some q=>
   obtain⟨a1,a2,a3⟩:=List.find?_range_eq_some.mp ef
   have a2:=List.mem_range.mp a2
   rw[fr q a2] at a1
   have a1:=of_decide_eq_true a1
   refine⟨cnt m h k+q,?_,?_,?_,fun i hlt=>?_⟩
   ·dsimp only
    rw[kC m h k q (by omega)]
   ·rw[kC m h k q (by omega)];exact a1
   ·rw[kC m h k q (by omega)];omega
   ·by_cases c:i<cnt m h k
    ·exact hp i c
    ·have e:i=cnt m h k+(i-cnt m h k):=by omega
     rw[e,kC m h k _ (by omega)]
     have:=a3 (i-cnt m h k) (by omega)
     rw[fr _ (by omega)] at this
     simp at this
     exact this
  | none=>
   have a:=List.find?_range_eq_none.mp ef
   have Lc:∀q,q<SetTable.runEnd m (lp m h k).1+1-(lp m h k).1→(lp m h k).1+q∈F:=fun q hq=>by
    have:=a q hq
    rw[fr q hq] at this
    simp at this
    exact this
   dsimp only
   refine I.free h fuel (k+1) ?_ (fun i hlt=>?_)
   ·obtain⟨k1,b1,b2,b3⟩:=hx
    refine⟨k1,?_,by omega,b3⟩
    by_cases z:k1=k
    ·rw[z] at b3
     exact absurd (by have:=Lc 0 (by omega);rwa [Nat.add_zero] at this) b3
    ·omega
   ·unfold cnt at hlt
    by_cases c:i<cnt m h k
    ·exact hp i c
    ·have e:i=cnt m h k+(i-cnt m h k):=by omega
     rw[e,kC m h k _ (by omega)]
     exact Lc _ (by omega)
theorem OI.more {m:Nat} {hs:List Int} {ow:Array (Option Nat)} {F:List Nat} (I:OI m hs ow F) (hm:Mk m) (hl:F.length≤m) {h:Int} (hh:hs[F.length]? =some h):
  ∃j,SetTable.layClean.free m ow (SetTable.turns m) (SetTable.bits h % (m+1)) (SetTable.bits h)=some j∧OI m hs (ow.setIfInBounds j (some F.length)) (F++[j]):=by
 have:∃j,j≤m∧j ∉ F:=by
  apply Classical.byContradiction
  intro hx
  have hall:∀j,j≤m→j∈F:=fun j hj=>Classical.byContradiction fun z=>hx ⟨j,hj,z⟩
  have:=mQ (l:=List.range (m+1)) (m:=F) List.nodup_range fun x hx=>hall x (by have:=List.mem_range.mp hx;omega)
  rw[List.length_range] at this
  omega
 obtain⟨j0,hj0,hn0⟩:=this
 obtain⟨k1,hk1,e1⟩:=sk hm h hj0
 obtain⟨n,a1,a2,a3,a4⟩:=I.free h (SetTable.turns m) 0 ⟨k1,Nat.zero_le _,by unfold SetTable.turns;omega,by rw[e1];exact hn0⟩ (fun i hi=>by cases hi)
 refine⟨_,a1,by rw[Array.size_setIfInBounds];exact I.size,fun j hj k=>?_,fun j HK=>?_,?_,fun k j h' hk hh'=>?_⟩
 ·have hz:j<ow.size:=by rw[I.size];omega
  rw[Array.getElem?_setIfInBounds]
  by_cases c:(aN m h n).j=j
  ·rw[if_pos c,if_pos (by rw[c];exact hz)]
   constructor
   ·intro z
    have:F.length=k:=Option.some.inj (Option.some.inj z)
    rw[←this,List.getElem?_append_right (Nat.le_refl _),Nat.sub_self,←c];rfl
   ·intro z
    by_cases ck:k<F.length
    ·rw[List.getElem?_append_left ck] at z
     exact absurd (List.mem_of_getElem? z) (by rw[←c];exact a2)
    ·have:=(List.getElem?_eq_some_iff.mp z).1
     rw[List.length_append,List.length_singleton] at this
     rw[show k=F.length by omega]
  ·rw[if_neg c,I.own j hj k]
   constructor
   ·intro z
    rw[List.getElem?_append_left (List.getElem?_eq_some_iff.mp z).1];exact z
   ·intro z
    by_cases ck:k<F.length
    ·rwa [List.getElem?_append_left ck] at z
    ·have:=(List.getElem?_eq_some_iff.mp z).1
     rw[List.length_append,List.length_singleton] at this
     rw[show k=F.length by omega,List.getElem?_append_right (Nat.le_refl _),Nat.sub_self] at z
     exact absurd (Option.some.inj z) c
 ·rcases List.mem_append.mp HK with q | q
  ·exact I.le j q
  ·rw[List.mem_singleton.mp q];exact a3
 ·rw[List.nodup_append]
  exact⟨I.nd,by simp,fun a ha b hb z=>a2 (by rw[←List.mem_singleton.mp hb,←z];exact ha)⟩
 ·by_cases ck:k<F.length
  ·rw[List.getElem?_append_left ck] at hk
   obtain⟨n',b1,b2⟩:=I.rc k j h' hk hh'
   exact⟨n',b1,fun i hi=>List.mem_append_left _ (b2 i hi)⟩
  ·have:=(List.getElem?_eq_some_iff.mp hk).1
   rw[List.length_append,List.length_singleton] at this
   have ek:k=F.length:=by omega
   subst ek
   rw[List.getElem?_append_right (Nat.le_refl _),Nat.sub_self] at hk
   rw[hh] at hh'
   cases hh'
   exact⟨n,Option.some.inj hk,fun i hi=>List.mem_append_left _ (a4 i hi)⟩
end ST
namespace ST
def stp (m:Nat) (acc:Option (Array (Option Nat)×Nat)) (h:Int):Option (Array (Option Nat)×Nat):=do
 let (owner,k) ←acc
 let j ←SetTable.layClean.free m owner (SetTable.turns m) (SetTable.bits h % (m+1)) (SetTable.bits h)
 pure (owner.setIfInBounds j (some k),k+1)
theorem HL (m:Nat) (hashes:Array Int):SetTable.layClean m hashes=(hashes.toList.foldl (stp m) (some (Array.replicate (m+1) none,0))).map (·.1):=by
 unfold SetTable.layClean
 rw[←Array.foldl_toList]
 rfl
theorem vj {m:Nat} (hm:Mk m) {hs:List Int} (hl:hs.length≤m):∀(suf pre:List Int) (ow:Array (Option Nat)) (F:List Nat),OI m hs ow F→hs=pre++suf→F.length=pre.length→
  ∃Ld F',suf.foldl (stp m) (some (ow,F.length))=some (Ld,hs.length)∧OI m hs Ld F'∧F'.length=hs.length
 | [],pre,ow,F,I,e,el=>⟨ow,F,by rw[List.foldl_nil,el,e,List.append_nil],I,by rw[el,e,List.append_nil]⟩
 | h::suf,pre,ow,F,I,e,el=>by
  have hh:hs[F.length]? =some h:=by rw[e,el,List.getElem?_append_right (Nat.le_refl _),Nat.sub_self];rfl
  have hF:F.length≤m:=by have:=(List.getElem?_eq_some_iff.mp hh).1;omega
  obtain⟨j,ej,I'⟩:=I.more hm hF hh
  have ih:=vj hm hl suf (pre++[h]) _ (F++[j]) I' (by rw[e];simp) (by rw[List.length_append,List.length_append,el];rfl)
  rw[List.foldl_cons]
  have es:stp m (some (ow,F.length)) h=some (ow.setIfInBounds j (some F.length),(F++[j]).length):=by
   unfold stp
   show(SetTable.layClean.free m ow (SetTable.turns m) (SetTable.bits h % (m+1)) (SetTable.bits h)).bind _=_
   rw[ej,List.length_append];rfl
  rw[es]
  exact ih
theorem HM (m:Nat) (hs:List Int):OI m hs (Array.replicate (m+1) none) [] where
 size:=by simp
 own:=fun j hj k=>by
  constructor
  ·intro z
   rw[Array.getElem?_replicate] at z
   split at z
   ·cases z
   ·cases z
  ·intro z;simp at z
 le:=fun j h=>by cases h
 nd:=List.nodup_nil
 rc:=fun k j h hk=>by simp at hk
def lives (m:Nat) (ow:Array (Option Nat)):List (Nat×Nat):=(List.range (m+1)).filterMap fun j=>(ow.getD j none).map (j, ·)
theorem fE {m:Nat} {hs:List Int} {ow:Array (Option Nat)} {F:List Nat} (I:OI m hs ow F) {p:Nat×Nat}:p∈lives m ow↔F[p.2]? =some p.1:=by
 unfold lives
 rw[List.mem_filterMap]
 have gd:∀j,j≤m→ow.getD j none=(ow[j]?).getD none:=fun j hj=>Array.getD_eq_getD_getElem? ..
 constructor
 ·rintro⟨j,hj,e⟩
  have hj:=List.mem_range.mp hj
  rw[gd j (by omega)] at e
  cases q:ow[j]? with
  | none=>rw[q] at e;cases e
  | some o=>
   rw[q] at e
   cases o with
   | none=>cases e
   | some k=>
    have:(j,k)=p:=Option.some.inj e
    subst this
    exact(I.own j (by omega) k).mp q
 ·intro h
  have hj:=I.le p.1 (List.mem_of_getElem? h)
  refine⟨p.1,List.mem_range.mpr (by omega),?_⟩
  rw[gd p.1 hj,(I.own p.1 hj p.2).mpr h];rfl
theorem vm (m:Nat) (ow:Array (Option Nat)):((lives m ow).map (·.1)).Pairwise (· < ·):=by
 unfold lives
 rw[List.pairwise_map,List.pairwise_filterMap]
 refine(List.pairwise_lt_range (n:=m+1)).imp fun {a b} hab x hx y hy=>?_
 cases q:ow.getD a none with
 | none=>rw[q] at hx;cases hx
 | some k=>
  cases q2:ow.getD b none with
  | none=>rw[q2] at hy;cases hy
  | some k2=>
   rw[q] at hx
   rw[q2] at hy
   have hx:(a,k)=x:=Option.some.inj hx
   have hy:(b,k2)=y:=Option.some.inj hy
   rw[←hx,←hy];exact hab
theorem C_ {l:List Nat} (h:l.Pairwise (· < ·)):l.Nodup:=by
 rw[List.nodup_iff_pairwise_ne]
 exact h.imp fun q=>by omega
theorem oB {m:Nat} {hs:List Int} {ow:Array (Option Nat)} {F:List Nat} (I:OI m hs ow F):((lives m ow).map (·.2)).Perm (List.range F.length):=by
 have pX:((lives m ow).map (·.2)).Nodup:=by
  rw[List.nodup_iff_pairwise_ne,List.pairwise_map]
  have up:=C_ (vm m ow)
  rw[List.nodup_iff_pairwise_ne,List.pairwise_map] at up
  refine List.Pairwise.imp_of_mem (fun {a b} ha hb hne q=>?_) up
  have h1:=(fE I).mp ha
  have h2:=(fE I).mp hb
  rw[q,h2] at h1
  exact hne (Option.some.inj h1).symm
 rw[List.perm_ext_iff_of_nodup pX List.nodup_range]
 intro k
 rw[List.mem_range,List.mem_map]
 constructor
 ·rintro⟨p,hp,rfl⟩
  exact(List.getElem?_eq_some_iff.mp ((fE I).mp hp)).1
 ·intro hk
  exact⟨(F[k],k),(fE I).mpr (List.getElem?_eq_getElem hk),rfl⟩
theorem Bm {m fg mv:Nat} {ld pn:Bool} (hm:Mk m) {L:List (Int×Value)} (hl:L.length≤m):
  ∃t' order E',SetTable.laid m fg mv ld pn (L.map (·.1)).toArray=some (t',order)∧TI t' E'∧t'.mask=m∧t'.finger=fg∧t'.moves=mv∧t'.led=ld∧t'.plain=pn∧order.filterMap (L.toArray[·]?)=(E'.map (·.2)).toArray∧(E'.map (·.2)).Perm L:=by
 have hl':(L.map (·.1)).length≤m:=by rw[List.length_map];exact hl
 obtain⟨ow,F,ef,I,lF⟩:=vj hm hl' (L.map (·.1)) [] _ [] (HM m _) rfl rfl
 have ef:(L.map (·.1)).foldl (stp m) (some (Array.replicate (m+1) none,0))=some (ow,(L.map (·.1)).length):=ef
 have Nj:SetTable.layClean m (L.map (·.1)).toArray=some ow:=by
  rw[HL]
  show((L.map (·.1)).foldl (stp m) _).map (·.1)=_
  rw[ef];rfl
 rw[List.length_map] at lF
 have QK:∀p∈lives m ow,∃x,L[p.2]? =some x:=fun p hp=>by
  have:=(List.getElem?_eq_some_iff.mp ((fE I).mp hp)).1
  exact⟨_,List.getElem?_eq_getElem (by omega)⟩
 let g:Nat×Nat→En:=fun p=>(p.1,L.getD p.2 (0,.none))
 have hg:∀p∈lives m ow,L[p.2]? =some (g p).2:=fun p hp=>by
  obtain⟨x,hx⟩:=QK p hp
  show _=some (L.getD p.2 (0,.none))
  rw[List.getD_eq_getElem?_getD,hx];rfl
 refine⟨{mask:=m,place:=((lives m ow).map (·.1)).toArray,dummies:= #[],finger:=fg,led:=ld,moves:=mv,plain:=pn},((lives m ow).map (·.2)).toArray,(lives m ow).map g,?_,?_,rfl,rfl,rfl,rfl,rfl,?_,?_⟩
 ·unfold SetTable.laid
  rw[Nj];rfl
 ·have e1:((lives m ow).map g).map (·.1)=(lives m ow).map (·.1):=by rw[List.map_map];rfl
  refine⟨hm,by rw[e1],rfl,by rw[e1];exact vm m ow,fun e he=>?_,?_,fun e he=>?_⟩
  ·obtain⟨p,hp,rfl⟩:=List.mem_map.mp he
   exact I.le _ (List.mem_of_getElem? ((fE I).mp hp))
  ·rw[List.length_map]
   have:=(oB I).length_eq
   rw[List.length_map,List.length_range] at this
   show _≤m
   omega
  ·obtain⟨p,hp,rfl⟩:=List.mem_map.mp he
   have hF:=(fE I).mp hp
   obtain⟨n,h1,h2⟩:=I.rc p.2 p.1 (g p).2.1 hF (by rw[List.getElem?_map,hg p hp];rfl)
   refine⟨n,h1,fun k hk=>?_⟩
   obtain⟨i,hi⟩:=List.getElem?_of_mem (h2 k hk)
   exact⟨g ((aN m (g p).2.1 k).j,i),List.mem_map.mpr ⟨_,(fE I).mpr hi,rfl⟩,rfl⟩
 ·apply Array.toList_inj.mp
  rw[Array.toList_filterMap]
  show((lives m ow).map (·.2)).filterMap (L.toArray[·]?)=((lives m ow).map g).map (·.2)
  rw[List.filterMap_map,List.map_map]
  have:∀(l:List (Nat×Nat)),(∀p∈l,L[p.2]? =some (g p).2)→l.filterMap ((L.toArray[·]?)∘(·.2))=l.map ((·.2)∘g):=fun l=>by
   induction l with
   | nil=>intro _;rfl
   | cons p l ih=>
    intro h
    rw[List.filterMap_cons_some (b:=(g p).2) (by show L.toArray[p.2]? =_;rw[List.getElem?_toArray];exact h p List.mem_cons_self),ih fun q hq=>h q (List.mem_cons_of_mem _ hq)];rfl
  exact this _ hg
 ·have e2:((lives m ow).map g).map (·.2)=((lives m ow).map (·.2)).map fun k=>L.getD k (0,.none):=by rw[List.map_map,List.map_map];rfl
  rw[e2]
  refine((oB I).map _).trans ?_
  rw[lF]
  have:(List.range L.length).map (fun k=>L.getD k (0,.none))=L:=by
   apply List.ext_getElem?
   intro i
   rw[List.getElem?_map]
   by_cases hi:i<L.length
   ·rw[List.getElem?_range hi,List.getElem?_eq_getElem hi]
    show some (L.getD i _)=_
    rw[List.getD_eq_getElem?_getD,List.getElem?_eq_getElem hi];rfl
   ·rw[List.getElem?_eq_none (by rw[List.length_range];omega),List.getElem?_eq_none (by omega)];rfl
  rw[this]
theorem TI.grow {t:SetTable} {E:List En} (I:TI t E) (hs:E.length≤70) (hf:E.length*5 ≥ t.mask*3) (hb:(E.length-1)*5<t.mask*3) (h0:1≤E.length):
  Mk (SetTable.sizeAbove (SetTable.grown E.length)-1)∧E.length*5<(SetTable.sizeAbove (SetTable.grown E.length)-1)*3:=by
 have:E.length=5∨E.length=19:=by
  rcases I.ms with e | e | e<;>rw[e] at hf hb<;>omega
 rcases this with e | e<;>rw[e]
 ·exact⟨.inr (.inl (by decide+kernel)),by decide+kernel⟩
 ·exact⟨.inr (.inr (by decide+kernel)),by decide+kernel⟩
end ST
end L2
namespace L2
open PySem PyProof.Rows
namespace SR
section
variable {prog:Program} {w:World} {A:Around} {E:Value→Shared→Prop} {s:Shared} {a₀:Array Keyed} {κ:SortKind}
def h9 (prog:Program) (w:World) (A:Around) (s:Shared) (κ:SortKind) (a₀:Array Keyed):Prop:=∀p∈a₀.toList,∀q∈a₀.toList,∃b:Bool,∀(Q:Bool→Shared→Prop) (E:Value→Shared→Prop),Q b s→wpAny (model prog w) A (keyLt' κ p.1 q.1) Q E s
structure SP (a₀:Array Keyed) (κ:SortKind) (pd:Array (Nat×Nat×Nat)) (st:SortSt):Prop where
 perm:(arrOf st).Perm a₀
 kind:kindOf st=κ
 failed:failedOf st=none
 pend:pendingOf st=pd
theorem SP.size {pd:Array (Nat×Nat×Nat)} {st:SortSt} (h:SP a₀ κ pd st):(arrOf st).size=a₀.size:=h.perm.size_eq
theorem SP.setArr {pd:Array (Nat×Nat×Nat)} {st:SortSt} (h:SP a₀ κ pd st) {xs:Array Keyed} (hp:xs.Perm (arrOf st)):SP a₀ κ pd (setArr st xs):=⟨hp.trans h.perm,h.kind,h.failed,h.pend⟩
def In (a₀ arr:Array Keyed):Prop:=∀p∈arr.toList,p∈a₀.toList
theorem SP.in {pd:Array (Nat×Nat×Nat)} {st:SortSt} (h:SP a₀ κ pd st):In a₀ (arrOf st):=fun _ hp=>(Array.perm_iff_toList_perm.mp h.perm).mem_iff.mp hp
theorem In.at {arr:Array Keyed} (h:In a₀ arr) {i:Nat} (hi:i<arr.size):∃p,arr[i]? =some p∧p∈a₀.toList:=⟨arr[i],getElem?_pos arr i hi,h _ (by simp)⟩
theorem In.extract {arr:Array Keyed} (h:In a₀ arr) (i j:Nat):In a₀ (arr.extract i j):=fun p hp=>h p (by
 rw[Array.toList_extract] at hp
 exact List.mem_of_mem_take (List.mem_of_mem_drop (by simpa[List.extract_eq_drop_take,List.drop_take] using hp)))
theorem aQ {arr:Array Keyed} (h:In a₀ arr) {i:Nat} (hi:i<arr.size) {Q:Keyed→SortSt→Prop} {st:SortSt} (hq:∀p,arr[i]? =some p→p∈a₀.toList→Q p st):wpS (model prog w) A E s (elem' arr i) Q st:=by
 obtain⟨p,e,hp⟩:=h.at hi
 rw[elem'_eq,e]
 exact wpS_pure (hq p e hp)
theorem p4 (L:h9 prog w A s κ a₀) {p q:Keyed} (hp:p∈a₀.toList) (hq:q∈a₀.toList) {st:SortSt} (hk:kindOf st=κ) {Q:Option Bool→SortSt→Prop} (h:∀b,Q (some b) st):wpS (model prog w) A E s (lt' p q) Q st:=by
 rw[lt'_eq]
 refine wpS_bind (wpS_get ?_)
 rw[hk]
 obtain⟨b,hb⟩:=L p hp q hq
 refine wpS_bind (wpS_lift (wpAny_attempt (hb _ _ ⟨rfl,?_⟩)))
 exact wpS_pure (h b)
theorem kD (L:h9 prog w A s κ a₀) {pd:Array (Nat×Nat×Nat)} {st:SortSt} (S:SP a₀ κ pd st) {i j:Nat} (hi:i<a₀.size) (hj:j<a₀.size) {Q:Option Bool→SortSt→Prop} (h:∀b,Q (some b) st):wpS (model prog w) A E s (ltAt' i j) Q st:=by
 rw[ltAt'_eq]
 refine wpS_bind (wpS_get ?_)
 show wpS _ _ _ _ (do let x ←elem' (arrOf st) i;let y ←elem' (arrOf st) j;lt' x y) Q st
 refine wpS_bind (aQ S.in (by rw[S.size];exact hi) fun p _ hp=>wpS_bind (aQ S.in (by rw[S.size];exact hj) fun q _ hq=>?_))
 exact p4 L hp hq S.kind h
theorem mR (L:h9 prog w A s κ a₀) {pd:Array (Nat×Nat×Nat)} {lo a nrem:Nat} {st:SortSt} (S:SP a₀ κ pd st) (h1:1≤a) (h2:a≤nrem) (h3:lo+nrem≤a₀.size) {Q:Option (Option Nat)×Nat→SortSt→Prop} (h:∀n,a≤n→n≤nrem→Q (none,n) st):
  wpS (model prog w) A E s (forIn [a:nrem] ((none,a):Option (Option Nat)×Nat) fun _ __s=>do
  let __x ←ltAt' (lo+__s.snd) (lo+__s.snd-1)
  match __x with
  | some smaller=>if smaller=true then pure (ForInStep.done (none,__s.snd)) else pure (ForInStep.yield (none,__s.snd+1))
  | _=>pure (ForInStep.done (some none,__s.snd))) Q st:=by
 refine wpS_forRange (I:=fun x c st'=>st'=st∧c=(none,x)) ?step ?fin ⟨rfl,rfl⟩
 case fin=>
  rintro c st' ⟨rfl,rfl⟩
  rw[show max a nrem=nrem by omega]
  exact h nrem h2 (Nat.le_refl _)
 case step=>
  rintro x c st' hax hxn ⟨rfl,rfl⟩
  dsimp only
  refine wpS_bind (kD L S (by omega) (by omega) fun b=>?_)
  cases b with
  | true=>exact wpS_pure (h x hax (by omega))
  | false=>exact wpS_pure ⟨rfl,rfl⟩
theorem yG (L:h9 prog w A s κ a₀) {pd:Array (Nat×Nat×Nat)} {lo n nrem:Nat} {st:SortSt} (S:SP a₀ κ pd st) (h1:1≤n) (h2:n≤nrem) (h3:lo+nrem≤a₀.size) {Q:Option (Option Nat)×Nat×Nat→SortSt→Prop} (h:∀m q st',SP a₀ κ pd st'→n≤m→m≤nrem→Q (none,m,q) st'):
  wpS (model prog w) A E s (forIn [n:nrem] ((none,n,0):Option (Option Nat)×Nat×Nat) fun _ __s=>do
    let __x ←ltAt' (lo+__s.snd.fst) (lo+__s.snd.fst-1)
    match __x with
    | some smaller=>
     if smaller=true then
      if __s.snd.snd>0 then do
       reverseSlice' (lo+__s.snd.fst-(__s.snd.snd+1)) (lo+__s.snd.fst)
       pure (ForInStep.yield (none,__s.snd.fst+1,0))
      else pure (ForInStep.yield (none,__s.snd.fst+1,0))
     else do
      let __x ←ltAt' (lo+__s.snd.fst-1) (lo+__s.snd.fst)
      match __x with
      | some larger=>
       if larger=true then pure (ForInStep.done (none,__s.snd.fst,__s.snd.snd))
       else pure (ForInStep.yield (none,__s.snd.fst+1,__s.snd.snd+1))
      | _=>pure (ForInStep.done (some none,__s.snd.fst,__s.snd.snd))
    | _=>pure (ForInStep.done (some none,__s.snd.fst,__s.snd.snd))) Q st:=by
 refine wpS_forRange (I:=fun x c st'=>∃q,c=(none,x,q)∧SP a₀ κ pd st') ?step ?fin ⟨0,rfl,S⟩
 case fin=>
  rintro c st' ⟨q,rfl,S2⟩
  exact h _ q st' S2 (by omega) (by omega)
 case step=>
  rintro x c st2 hax hxn ⟨q,rfl,S2⟩
  dsimp only
  refine wpS_bind (kD L S2 (by omega) (by omega) fun b=>?_)
  cases b with
  | true=>
   dsimp only
   rw[if_pos rfl]
   split
   ·exact wpS_bind (wpS_reverse (wpS_pure ⟨0,rfl,S2.setArr (mirror_perm _ _ _ _)⟩))
   ·exact wpS_pure ⟨0,rfl,S2⟩
  | false=>
   dsimp only
   rw[if_neg (by decide)]
   refine wpS_bind (kD L S2 (by omega) (by omega) fun b=>?_)
   cases b with
   | true=>exact wpS_pure (h x q _ S2 hax (by omega))
   | false=>exact wpS_pure ⟨q+1,rfl,S2⟩
theorem C0 (L:h9 prog w A s κ a₀) {pd:Array (Nat×Nat×Nat)} {lo nrem:Nat} {st:SortSt} (S:SP a₀ κ pd st) (h2:1≤nrem) (h3:lo+nrem≤a₀.size) {Q:Option Nat→SortSt→Prop} (h:∀m st',SP a₀ κ pd st'→1≤m→m≤nrem→Q (some m) st'):
  wpS (model prog w) A E s (countRun' lo nrem) Q st:=by
 rw[countRun'_eq]
 refine wpS_bind (mR L S (Nat.le_refl 1) h2 h3 fun n h4 h5=>?_)
 dsimp only
 by_cases hn:n=nrem
 ·rw[if_pos (by simpa using hn)]
  exact wpS_pure (h n st S h4 h5)
 rw[if_neg (by simpa using hn)]
 have last:∀{m:Nat} {st':SortSt},SP a₀ κ pd st'→n+1≤m→m≤nrem→∀k,m≤k→k≤nrem→Q (some k) st':=fun S' a b k c d=>h k _ S' (by omega) d
 by_cases hg:n>1
 ·rw[if_pos hg]
  refine wpS_bind (kD L S (by omega) (by omega) fun b=>?_)
  cases b with
  | true=>exact wpS_pure (h n st S h4 h5)
  | false=>
   refine wpS_bind (wpS_reverse (wpS_bind (wpS_lift (wpAny_rule ⟨rfl,?_⟩))))
   refine wpS_bind (yG L (S.setArr (mirror_perm _ _ _ _)) (by omega) (by omega) h3 fun m q st3 S3 h5 h6=>?_)
   dsimp only
   split
   ·exact wpS_bind (wpS_reverse (wpS_bind (wpS_reverse (wpS_bind (mR L ((S3.setArr (mirror_perm _ _ _ _)).setArr (mirror_perm _ _ _ _)) (by omega) h6 h3 fun k h7 h8=>wpS_pure (last ((S3.setArr (mirror_perm _ _ _ _)).setArr (mirror_perm _ _ _ _)) h5 h6 k h7 h8))))))
   ·exact wpS_bind (wpS_reverse (wpS_bind (mR L (S3.setArr (mirror_perm _ _ _ _)) (by omega) h6 h3 fun k h7 h8=>wpS_pure (last (S3.setArr (mirror_perm _ _ _ _)) h5 h6 k h7 h8))))
 ·rw[if_neg hg]
  refine wpS_bind (wpS_lift (wpAny_rule ⟨rfl,?_⟩))
  refine wpS_bind (yG L S (by omega) (by omega) h3 fun m q st3 S3 h5 h6=>?_)
  dsimp only
  split
  ·exact wpS_bind (wpS_reverse (wpS_bind (wpS_reverse (wpS_bind (mR L ((S3.setArr (mirror_perm _ _ _ _)).setArr (mirror_perm _ _ _ _)) (by omega) h6 h3 fun k h7 h8=>wpS_pure (last ((S3.setArr (mirror_perm _ _ _ _)).setArr (mirror_perm _ _ _ _)) h5 h6 k h7 h8))))))
  ·exact wpS_bind (wpS_reverse (wpS_bind (mR L (S3.setArr (mirror_perm _ _ _ _)) (by omega) h6 h3 fun k h7 h8=>wpS_pure (last (S3.setArr (mirror_perm _ _ _ _)) h5 h6 k h7 h8))))
theorem HN (L:h9 prog w A s κ a₀) {pd:Array (Nat×Nat×Nat)} {lo n ok:Nat} {st:SortSt} (S:SP a₀ κ pd st) (h3:lo+n≤a₀.size) {Q:Bool→SortSt→Prop} (h:∀st',SP a₀ κ pd st'→Q true st'):
  wpS (model prog w) A E s (binarySort' lo n ok) Q st:=by
 rw[binarySort'_eq]
 refine wpS_bind (wpS_mono (wpS_forRange (I:=fun k c st'=>c=(none,())∧SP a₀ κ pd st') (Q:=fun c st'=>c=(none,())∧SP a₀ κ pd st') ?step ?fin ⟨rfl,S⟩) ?post)
 case post=>
  rintro c st' ⟨rfl,S'⟩
  exact wpS_pure (h st' S')
 case fin=>exact fun c st' x=>x
 case step=>
  rintro k c st' hak hkn ⟨rfl,S'⟩
  refine wpS_bind (wpS_mono (wpS_forRange (I:=fun x c st''=>st''=st'∧∃l r,c=(none,l,r)∧r≤k) (Q:=fun c st''=>st''=st'∧∃l r,c=(none,l,r)) ?istep ?ifin ⟨rfl,0,k,rfl,Nat.le_refl _⟩) ?ipost)
  case ifin=>
   rintro c st'' ⟨rfl,l,r,rfl,_⟩
   exact⟨rfl,l,r,rfl⟩
  case istep=>
   rintro x c st'' _ hxk ⟨rfl,l,r,rfl,hr⟩
   dsimp only
   by_cases hge:l ≥ r
   ·rw[if_pos hge]
    exact wpS_pure ⟨rfl,l,r,rfl⟩
   ·rw[if_neg hge]
    refine wpS_bind (kD L S' (by omega) (by omega) fun b=>?_)
    cases b with
    | true=>exact wpS_pure ⟨rfl,l,_,rfl,by omega⟩
    | false=>exact wpS_pure ⟨rfl,_,r,rfl,hr⟩
  case ipost=>
   rintro c st'' ⟨rfl,l,r,rfl⟩
   show wpS _ _ _ _ (do moveDown' (lo+k) (lo+l);pure (ForInStep.yield (none,()))) _ _
   rw[moveDown'_eq]
   exact wpS_bind (wpS_modify (wpS_pure ⟨rfl,S'.setArr (bubble_perm _ _ _)⟩))
end
end SR
namespace SR
noncomputable def ct (p:Keyed) (l:List Keyed):Nat:=by classical exact l.count p
theorem jr (p:Keyed) (l m:List Keyed):ct p (l++m)=ct p l+ct p m:=by unfold ct;exact List.count_append
theorem yH {l m:List Keyed} (h:∀p,ct p l=ct p m):l.Perm m:=by classical exact List.perm_iff_count.mpr fun p=>by have:=h p;unfold ct at this;exact this
theorem zL {l m:List Keyed} (h:l.Perm m) (p:Keyed):ct p l=ct p m:=by unfold ct;classical exact h.count_eq _
theorem vn (p:Keyed) (l:List Keyed) (i:Nat):ct p (l.take i)+ct p (l.drop i)=ct p l:=by rw[←jr,List.take_append_drop]
theorem nY (p:Keyed) (out:Array Keyed) (x:Keyed):ct p (out.push x).toList=ct p out.toList+ct p [x]:=by rw[Array.toList_push,jr]
theorem n_ {l:List Keyed} {i:Nat} {x:Keyed} (h:l[i]? =some x) (p:Keyed):ct p (l.take (i+1))=ct p (l.take i)+ct p [x]:=by
 rw[List.take_add_one,h,jr];rfl
theorem pb (a:Array Keyed) (i j:Nat):(a.extract i j).toList=(a.toList.take j).drop i:=by
 rw[Array.toList_extract,List.extract_eq_drop_take,List.drop_take]
theorem kE (p:Keyed) (a:Array Keyed) {i j:Nat} (h:i≤j):ct p (a.toList.take i)+ct p (a.extract i j).toList=ct p (a.toList.take j):=by
 rw[pb,←vn p (a.toList.take j) i,List.take_take,Nat.min_eq_left h]
theorem n5 (p:Keyed) (a:Array Keyed) (i:Nat):ct p (a.toList.take i)+ct p (a.extract i a.size).toList=ct p a.toList:=by
 rw[pb,show a.toList.take a.size=a.toList from List.take_of_length_le (by simp),vn]
theorem p6 (p:Keyed) (a:Array Keyed):ct p a.reverse.toList=ct p a.toList:=by rw[Array.toList_reverse];exact zL (List.reverse_perm _) p
theorem fi (p:Keyed) (a b:Array Keyed):ct p (a++b).toList=ct p a.toList+ct p b.toList:=by rw[Array.toList_append,jr]
theorem n8 (p:Keyed) (a:Array Keyed) (j:Nat):ct p (a.extract 0 j).toList=ct p (a.toList.take j):=by rw[pb,List.drop_zero]
def i7 (left:Bool) (key:Keyed) (arr:Array Keyed) (base i:Nat):StateT SortSt Sem (Option Bool):=do
 let x ←elem' arr (base+i)
 if left then lt' x key else return (←lt' key x).map (!·)
def gE:Bool→Keyed→Array Keyed→Nat→Nat→Nat→StateT SortSt Sem (Option Nat):=sortPriv% PySem.Builtin.gallop
theorem zM (left:Bool) (key:Keyed) (arr:Array Keyed) (base n hint:Nat):gE left key arr base n hint=(do
 let mut lastofs:=0
 let mut ofs:=1
 let mut lo:=0
 let mut hi:=0
 let some right ←i7 left key arr base hint | return none
 if right then
  let maxofs:=n-hint
  for _ in [0:n] do
   if ofs ≥ maxofs then break
   let some more ←i7 left key arr base (hint+ofs) | return none
   if !more then break
   lastofs:=ofs
   ofs:=2*ofs+1
  lo:=hint+lastofs+1
  hi:=hint+min ofs maxofs
 else
  let maxofs:=hint+1
  for _ in [0:n] do
   if ofs ≥ maxofs then break
   let some found ←i7 left key arr base (hint-ofs) | return none
   if found then break
   lastofs:=ofs
   ofs:=2*ofs+1
  lo:=hint+1-min ofs maxofs
  hi:=hint-lastofs
 for _ in [0:n] do
  if lo ≥ hi then break
  let m:=lo+(hi-lo) / 2
  let some more ←i7 left key arr base m | return none
  if more then lo:=m+1 else hi:=m
 return some hi):=rfl
section
variable {prog:Program} {w:World} {A:Around} {E:Value→Shared→Prop} {s:Shared} {a₀:Array Keyed} {κ:SortKind}
theorem iE (L:h9 prog w A s κ a₀) {left:Bool} {key:Keyed} {arr:Array Keyed} {base i:Nat} {st:SortSt} (hk:kindOf st=κ) (hin:In a₀ arr) (hkey:key∈a₀.toList) (hi:base+i<arr.size) {Q:Option Bool→SortSt→Prop} (h:∀b,Q (some b) st):
  wpS (model prog w) A E s (i7 left key arr base i) Q st:=by
 unfold i7
 refine wpS_bind (aQ hin hi fun p _ hp=>?_)
 cases left with
 | true=>exact p4 L hp hkey hk h
 | false=>exact wpS_bind (p4 L hkey hp hk fun b=>wpS_pure (h _))
theorem eQ (L:h9 prog w A s κ a₀) {left:Bool} {key:Keyed} {arr:Array Keyed} {base n hint:Nat} {st:SortSt} (hk:kindOf st=κ) (hin:In a₀ arr) (hkey:key∈a₀.toList) (hh:hint<n) (hb:base+n≤arr.size) {Q:Option Nat→SortSt→Prop} (h:∀k,k≤n→Q (some k) st):
  wpS (model prog w) A E s (gE left key arr base n hint) Q st:=by
 rw[zM]
 dsimp only
 refine wpS_bind (iE L hk hin hkey (by omega) fun b=>?_)
 cases b with
 | true=>
  dsimp only
  rw[if_pos rfl]
  refine wpS_bind (wpS_mono (wpS_forRange (I:=fun x c st'=>st'=st∧∃l o,c=(none,l,o)∧l<n-hint) (Q:=fun c st'=>st'=st∧∃l o,c=(none,l,o)∧l<n-hint) ?step (fun _ _ x=>x) ⟨rfl,0,1,rfl,by omega⟩) ?post)
  case step=>
   rintro x c st' _ _ ⟨rfl,l,o,rfl,hl⟩
   dsimp only
   by_cases hg:o ≥ n-hint
   ·rw[if_pos hg]
    exact wpS_pure ⟨rfl,l,o,rfl,hl⟩
   ·rw[if_neg hg]
    refine wpS_bind (iE L hk hin hkey (by omega) fun b=>?_)
    cases b with
    | true=>exact wpS_pure ⟨rfl,o,_,rfl,by omega⟩
    | false=>exact wpS_pure ⟨rfl,l,o,rfl,hl⟩
  case post=>
   rintro c st' ⟨rfl,l,o,rfl,hl⟩
   dsimp only
   refine wpS_bind (wpS_mono (wpS_forRange (I:=fun x c st''=>st''=st'∧∃l r,c=(none,l,r)∧r≤n) (Q:=fun c st''=>st''=st'∧∃l r,c=(none,l,r)∧r≤n) ?zN (fun _ _ x=>x) ⟨rfl,_,_,rfl,by omega⟩) ?zO)
   case zO=>
    rintro c st'' ⟨rfl,l,r,rfl,hr⟩
    exact wpS_pure (h r hr)
   case zN=>
    rintro x c st'' _ _ ⟨rfl,l,r,rfl,hr⟩
    dsimp only
    by_cases hg:l ≥ r
    ·rw[if_pos hg]
     exact wpS_pure ⟨rfl,l,r,rfl,hr⟩
    ·rw[if_neg hg]
     refine wpS_bind (iE L hk hin hkey (by omega) fun b=>?_)
     cases b with
     | true=>exact wpS_pure ⟨rfl,_,r,rfl,hr⟩
     | false=>exact wpS_pure ⟨rfl,l,_,rfl,by omega⟩
 | false=>
  dsimp only
  rw[if_neg (by decide)]
  refine wpS_bind (wpS_mono (wpS_forRange (I:=fun x c st'=>st'=st∧∃l o,c=(none,l,o)) (Q:=fun c st'=>st'=st∧∃l o,c=(none,l,o)) ?step (fun _ _ x=>x) ⟨rfl,0,1,rfl⟩) ?post)
  case step=>
   rintro x c st' _ _ ⟨rfl,l,o,rfl⟩
   dsimp only
   by_cases hg:o ≥ hint+1
   ·rw[if_pos hg]
    exact wpS_pure ⟨rfl,l,o,rfl⟩
   ·rw[if_neg hg]
    refine wpS_bind (iE L hk hin hkey (by omega) fun b=>?_)
    cases b with
    | true=>exact wpS_pure ⟨rfl,l,o,rfl⟩
    | false=>exact wpS_pure ⟨rfl,o,_,rfl⟩
  case post=>
   rintro c st' ⟨rfl,l,o,rfl⟩
   dsimp only
   refine wpS_bind (wpS_mono (wpS_forRange (I:=fun x c st''=>st''=st'∧∃l r,c=(none,l,r)∧r≤n) (Q:=fun c st''=>st''=st'∧∃l r,c=(none,l,r)∧r≤n) ?zN (fun _ _ x=>x) ⟨rfl,_,_,rfl,by omega⟩) ?zO)
   case zO=>
    rintro c st'' ⟨rfl,l,r,rfl,hr⟩
    exact wpS_pure (h r hr)
   case zN=>
    rintro x c st'' _ _ ⟨rfl,l,r,rfl,hr⟩
    dsimp only
    by_cases hg:l ≥ r
    ·rw[if_pos hg]
     exact wpS_pure ⟨rfl,l,r,rfl,hr⟩
    ·rw[if_neg hg]
     refine wpS_bind (iE L hk hin hkey (by omega) fun b=>?_)
     cases b with
     | true=>exact wpS_pure ⟨rfl,_,r,rfl,hr⟩
     | false=>exact wpS_pure ⟨rfl,l,_,rfl,by omega⟩
end
def fQ (g:Nat):StateT SortSt Sem Unit:=modify fun s=>SortSt.mk' (kindOf s) (arrOf s) (pendingOf s) g (failedOf s)
def pe:Array Keyed→Array Keyed→StateT SortSt Sem (Array Keyed):=sortPriv% PySem.Builtin.mergeLo
theorem xo (a b:Array Keyed):pe a b=(do
 rule "list.sort.merge-lo"
 let total:=a.size+b.size
 let done (out:Array Keyed) (ia ib:Nat):=out++a.extract ia a.size++b.extract ib b.size
 let lastOfA (out:Array Keyed) (ia ib:Nat):=out++b.extract ib b.size++a.extract ia a.size
 let mut out:Array Keyed:= #[←elem' b 0]
 let mut ia:=0
 let mut ib:=1
 if ib == b.size then return done out ia ib
 if ia+1 == a.size then return lastOfA out ia ib
 let mut minGallop:=gallopOf (←get)
 for _ in [0:total] do
  let mut acount:=0
  let mut bcount:=0
  for _ in [0:total] do
   let some bWins ←lt' (←elem' b ib) (←elem' a ia) | return done out ia ib
   if bWins then
    out:=out.push (←elem' b ib);ib:=ib+1;bcount:=bcount+1;acount:=0
    if ib == b.size then return done out ia ib
    if bcount ≥ minGallop then break
   else
    out:=out.push (←elem' a ia);ia:=ia+1;acount:=acount+1;bcount:=0
    if ia+1 == a.size then return lastOfA out ia ib
    if acount ≥ minGallop then break
  rule "list.sort.gallop"
  minGallop:=minGallop+1
  for _ in [0:total] do
   if minGallop>1 then minGallop:=minGallop-1
   fQ minGallop
   let some k ←gE false (←elem' b ib) a ia (a.size-ia) 0 | return done out ia ib
   acount:=k
   if k>0 then
    out:=out++a.extract ia (ia+k);ia:=ia+k
    if ia+1 == a.size then return lastOfA out ia ib
    if ia == a.size then return done out ia ib
   out:=out.push (←elem' b ib);ib:=ib+1
   if ib == b.size then return done out ia ib
   let some k ←gE true (←elem' a ia) b ib (b.size-ib) 0 | return done out ia ib
   bcount:=k
   if k>0 then
    out:=out++b.extract ib (ib+k);ib:=ib+k
    if ib == b.size then return done out ia ib
   out:=out.push (←elem' a ia);ia:=ia+1
   if ia+1 == a.size then return lastOfA out ia ib
   if acount<7&&bcount<7 then break
  minGallop:=minGallop+1
  fQ minGallop
 unsupported "internal:list.sort.merge-bound"):=rfl
def pf:Array Keyed→Array Keyed→StateT SortSt Sem (Array Keyed):=sortPriv% PySem.Builtin.mergeHi
theorem xp (a b:Array Keyed):pf a b=(do
 rule "list.sort.merge-hi"
 let total:=a.size+b.size
 let done (out:Array Keyed) (na nb:Nat):=a.extract 0 na++b.extract 0 nb++out.reverse
 let firstOfB (out:Array Keyed) (na nb:Nat):=b.extract 0 nb++a.extract 0 na++out.reverse
 let mut na:=a.size-1
 let mut nb:=b.size
 let mut out:Array Keyed:= #[←elem' a na]
 if na == 0 then return done out na nb
 if nb == 1 then return firstOfB out na nb
 let mut minGallop:=gallopOf (←get)
 for _ in [0:total] do
  let mut acount:=0
  let mut bcount:=0
  for _ in [0:total] do
   let some aWins ←lt' (←elem' b (nb-1)) (←elem' a (na-1)) | return done out na nb
   if aWins then
    na:=na-1;out:=out.push (←elem' a na);acount:=acount+1;bcount:=0
    if na == 0 then return done out na nb
    if acount ≥ minGallop then break
   else
    nb:=nb-1;out:=out.push (←elem' b nb);bcount:=bcount+1;acount:=0
    if nb == 1 then return firstOfB out na nb
    if bcount ≥ minGallop then break
  rule "list.sort.gallop"
  minGallop:=minGallop+1
  for _ in [0:total] do
   if minGallop>1 then minGallop:=minGallop-1
   fQ minGallop
   let some at_ ←gE false (←elem' b (nb-1)) a 0 na (na-1) | return done out na nb
   let k:=na-at_
   acount:=k
   if k>0 then
    out:=out++(a.extract at_ na).reverse;na:=at_
    if na == 0 then return done out na nb
   nb:=nb-1;out:=out.push (←elem' b nb)
   if nb == 1 then return firstOfB out na nb
   let some at_ ←gE true (←elem' a (na-1)) b 0 nb (nb-1) | return done out na nb
   let k:=nb-at_
   bcount:=k
   if k>0 then
    out:=out++(b.extract at_ nb).reverse;nb:=at_
    if nb == 1 then return firstOfB out na nb
    if nb == 0 then return done out na nb
   na:=na-1;out:=out.push (←elem' a na)
   if na == 0 then return done out na nb
   if acount<7&&bcount<7 then break
  minGallop:=minGallop+1
  fQ minGallop
 unsupported "internal:list.sort.merge-bound"):=rfl
theorem xq (i:Nat):mergeAt' i=(do
 let s ←get
 let (some (sa,na,power),some (sb,nb,_)):=((pendingOf s)[i]?,(pendingOf s)[i+1]?) | unsupported "internal:list.sort.pending"
 set (setPending s (((pendingOf s).setIfInBounds i (sa,na+nb,power)).eraseIdxIfInBounds (i+1)))
 let some k ←gE false (←elem' (arrOf s) sb) (arrOf s) sa na 0 | return false
 let (sa,na):=(sa+k,na-k)
 if na == 0 then return true
 let some nb ←gE true (←elem' (arrOf s) (sa+na-1)) (arrOf s) sb nb (nb-1) | return false
 if nb == 0 then return true
 let x:=(arrOf s).extract sa sb
 let y:=(arrOf s).extract sb (sb+nb)
 let merged ←if na≤nb then pe x y else pf x y
 modify fun s=>setArr s (merged.toList.zipIdx.foldl (fun a (p,j)=>a.setIfInBounds (sa+j) p) (arrOf s))
 return (failedOf (←get)).isNone):=rfl
end SR
namespace SR
structure Kp (st st':SortSt):Prop where
 arr:arrOf st'=arrOf st
 kind:kindOf st'=kindOf st
 failed:failedOf st'=failedOf st
 pend:pendingOf st'=pendingOf st
theorem Kp.refl (st:SortSt):Kp st st:=⟨rfl,rfl,rfl,rfl⟩
theorem Kp.trans {st st1 st2:SortSt} (a:Kp st st1) (b:Kp st1 st2):Kp st st2:=⟨b.arr.trans a.arr,b.kind.trans a.kind,b.failed.trans a.failed,b.pend.trans a.pend⟩
section
variable {prog:Program} {w:World} {A:Around} {E:Value→Shared→Prop} {s:Shared} {a₀:Array Keyed} {κ:SortKind}
theorem bK {α σ:Type} {M:Model} {c:Prop} [Decidable c] {x y:StateT σ Sem α} {Q:α→σ→Prop} {st:σ} (h1:c→wpS M A E s x Q st) (h2:¬c→wpS M A E s y Q st):wpS M A E s (if c then x else y) Q st:=by
 by_cases h:c
 ·rw[if_pos h];exact h1 h
 ·rw[if_neg h];exact h2 h
theorem bz {α σ:Type} {M:Model} {m n:Nat} {x y:StateT σ Sem α} {Q:α→σ→Prop} {st:σ} (h1:m=n→wpS M A E s x Q st) (h2:¬m=n→wpS M A E s y Q st):wpS M A E s (if(m == n)=true then x else y) Q st:=
 bK (fun h=>h1 (beq_iff_eq.mp h)) fun h=>h2 (mt beq_iff_eq.mpr h)
theorem oa {st:SortSt} {g:Nat} {Q:Unit→SortSt→Prop} (h:∀st',Kp st st'→Q () st'):wpS (model prog w) A E s (fQ g) Q st:=by
 unfold fQ
 exact wpS_modify (h _ ⟨rfl,rfl,rfl,rfl⟩)
def Lo (a b out:Array Keyed) (ia ib:Nat):Prop:=∀p,ct p out.toList=ct p (a.toList.take ia)+ct p (b.toList.take ib)
theorem Lo.done {a b out:Array Keyed} {ia ib:Nat} (h:Lo a b out ia ib) (p:Keyed):ct p (out++a.extract ia a.size++b.extract ib b.size).toList=ct p a.toList+ct p b.toList:=by
 rw[fi,fi,h p,←n5 p a ia,←n5 p b ib];omega
theorem Lo.last {a b out:Array Keyed} {ia ib:Nat} (h:Lo a b out ia ib) (p:Keyed):ct p (out++b.extract ib b.size++a.extract ia a.size).toList=ct p a.toList+ct p b.toList:=by
 rw[fi,fi,h p,←n5 p a ia,←n5 p b ib];omega
theorem Lo.gK {a b out:Array Keyed} {ia ib:Nat} {x:Keyed} (h:Lo a b out ia ib) (e:a[ia]? =some x):Lo a b (out.push x) (ia+1) ib:=fun p=>by
 rw[nY,h p,n_ (show a.toList[ia]? =some x by rw[Array.getElem?_toList];exact e)];omega
theorem Lo.lz {a b out:Array Keyed} {ia ib:Nat} {x:Keyed} (h:Lo a b out ia ib) (e:b[ib]? =some x):Lo a b (out.push x) ia (ib+1):=fun p=>by
 rw[nY,h p,n_ (show b.toList[ib]? =some x by rw[Array.getElem?_toList];exact e)];omega
theorem Lo.oe {a b out:Array Keyed} {ia ib:Nat} (h:Lo a b out ia ib) (k:Nat):Lo a b (out++a.extract ia (ia+k)) (ia+k) ib:=fun p=>by
 rw[fi,h p,←kE p a (show ia≤ia+k by omega)];omega
theorem Lo.gL {a b out:Array Keyed} {ia ib:Nat} (h:Lo a b out ia ib) (k:Nat):Lo a b (out++b.extract ib (ib+k)) ia (ib+k):=fun p=>by
 rw[fi,h p,←kE p b (show ib≤ib+k by omega)];omega
theorem zP (L:h9 prog w A s κ a₀) {a b:Array Keyed} {st:SortSt} (hk:kindOf st=κ) (ha:In a₀ a) (hb:In a₀ b) (h1:1≤a.size) (h2:1≤b.size) {Q:Array Keyed→SortSt→Prop} (h:∀R st',(∀p,ct p R.toList=ct p a.toList+ct p b.toList)→Kp st st'→Q R st'):
  wpS (model prog w) A E s (pe a b) Q st:=by
 rw[xo]
 refine wpS_bind (wpS_lift (wpAny_rule ⟨rfl,?_⟩))
 dsimp only
 refine wpS_bind (aQ hb (by omega) fun x0 e0 _=>?_)
 have l0:Lo a b #[x0] 0 1:=fun p=>by
  rw[List.take_zero,n_ (i:=0) (show b.toList[0]? =some x0 by rw[Array.getElem?_toList];exact e0),List.take_zero]
  show ct p [x0]=0+(0+ct p [x0])
  omega
 by_cases c1:1=b.size
 ·rw[if_pos (by simpa using c1)]
  exact wpS_pure (h _ _ l0.done (Kp.refl _))
 rw[if_neg (by simpa using c1)]
 by_cases c2:1=a.size
 ·rw[if_pos (by simpa using c2)]
  exact wpS_pure (h _ _ l0.last (Kp.refl _))
 rw[if_neg (by simpa using c2)]
 refine wpS_bind (wpS_get ?_)
 refine wpS_bind (wpS_mono (wpS_forRange (I:=fun x c st'=>Kp st st'∧∃out ia ib mg,c=(none,out,ia,ib,mg)∧Lo a b out ia ib∧ia+1<a.size∧ib<b.size∧x+1≤ia+ib)
  (Q:=fun c st'=>∃R r,c=(some R,r)∧Kp st st'∧∀p,ct p R.toList=ct p a.toList+ct p b.toList) ?step ?fin ⟨Kp.refl _,_,0,1,_,rfl,l0,by omega,by omega,by omega⟩) ?post)
 case post=>
  rintro c st' ⟨R,r,rfl,k1,hR⟩
  exact wpS_pure (h R st' hR k1)
 case fin=>
  rintro c st' ⟨k1,out,ia,ib,mg,rfl,_,b1,b2,b3⟩
  omega
 case step=>
  rintro x c st' _ hx ⟨k1,out,ia,ib,mg,rfl,lo,b1,b2,b3⟩
  dsimp only
  refine wpS_bind (wpS_mono (wpS_forRange (I:=fun y c st''=>Kp st st''∧∃out fF fG ac bc,c=(none,out,fF,fG,ac,bc)∧Lo a b out fF fG∧fF+1<a.size∧fG<b.size∧ia+ib+y≤fF+fG)
   (Q:=fun c st''=>Kp st st''∧((∃out fF fG ac bc,c=(none,out,fF,fG,ac,bc)∧Lo a b out fF fG∧fF+1<a.size∧fG<b.size∧ia+ib+1≤fF+fG)∨∃R r,c=(some R,r)∧∀p,ct p R.toList=ct p a.toList+ct p b.toList)) ?istep ?ifin ⟨k1,out,ia,ib,_,_,rfl,lo,b1,b2,by omega⟩) ?ipost)
  case ifin=>
   rintro c st'' ⟨k2,out,fF,fG,ac,bc,rfl,lo,b1,b2,b3⟩
   exact⟨k2,.inl ⟨out,fF,fG,ac,bc,rfl,lo,b1,b2,by omega⟩⟩
  case istep=>
   rintro y c st'' _ hy ⟨k2,out,fF,fG,ac,bc,rfl,lo,b1,b2,b3⟩
   dsimp only
   have hk2:kindOf st''=κ:=k2.kind.trans hk
   refine wpS_bind (aQ hb b2 fun q eq hq=>wpS_bind (aQ ha (by omega) fun r er hr=>wpS_bind (p4 L hq hr hk2 fun bw=>?_)))
   cases bw with
   | true=>
    dsimp only
    rw[if_pos rfl]
    refine wpS_bind (aQ hb b2 fun q eq hq=>?_)
    have lo2:=lo.lz eq
    by_cases c3:fG+1=b.size
    ·rw[if_pos (by simpa using c3)]
     exact wpS_pure ⟨k2,.inr ⟨_,_,rfl,lo2.done⟩⟩
    rw[if_neg (by simpa using c3)]
    exact bK (fun _=>wpS_pure ⟨k2,.inl ⟨_,_,_,_,_,rfl,lo2,b1,by omega,by omega⟩⟩) fun _=>wpS_pure ⟨k2,_,_,_,_,_,rfl,lo2,b1,by omega,by omega⟩
   | false=>
    dsimp only
    rw[if_neg (by decide)]
    refine wpS_bind (aQ ha (by omega) fun q eq hq=>?_)
    have lo2:=lo.gK eq
    by_cases c3:fF+1+1=a.size
    ·rw[if_pos (by simpa using c3)]
     exact wpS_pure ⟨k2,.inr ⟨_,_,rfl,lo2.last⟩⟩
    rw[if_neg (by simpa using c3)]
    exact bK (fun _=>wpS_pure ⟨k2,.inl ⟨_,_,_,_,_,rfl,lo2,by omega,b2,by omega⟩⟩) fun _=>wpS_pure ⟨k2,_,_,_,_,_,rfl,lo2,by omega,b2,by omega⟩
  case ipost=>
   rintro c st2 ⟨k2,⟨out,HP,HQ,ac,bc,rfl,lo,b1,b2,b4⟩ | ⟨R,r,rfl,hR⟩⟩
   rotate_left
   ·exact wpS_pure ⟨R,_,rfl,k2,hR⟩
   dsimp only
   refine wpS_bind (wpS_lift (wpAny_rule ⟨rfl,?_⟩))
   refine wpS_bind (wpS_mono (wpS_forRange (I:=fun y c st''=>Kp st st''∧∃out fF fG mg ac bc,c=(none,out,fF,fG,mg,ac,bc)∧Lo a b out fF fG∧fF+1<a.size∧fG<b.size∧HP+HQ≤fF+fG)
    (Q:=fun c st''=>Kp st st''∧((∃out fF fG mg ac bc,c=(none,out,fF,fG,mg,ac,bc)∧Lo a b out fF fG∧fF+1<a.size∧fG<b.size∧HP+HQ≤fF+fG)∨∃R r,c=(some R,r)∧∀p,ct p R.toList=ct p a.toList+ct p b.toList)) ?p7 ?C1 ⟨k2,out,HP,HQ,_,_,_,rfl,lo,b1,b2,by omega⟩) ?p8)
   case C1=>exact fun c st'' ⟨k3,x⟩=>⟨k3,.inl x⟩
   case p8=>
    rintro c st3 ⟨k3,⟨out,QL,QM,mg,ac,bc,rfl,lo,b1,b2,b5⟩ | ⟨R,r,rfl,hR⟩⟩
    ·dsimp only
     refine wpS_bind (oa fun rP k4=>wpS_pure ⟨k3.trans k4,_,_,_,_,rfl,lo,b1,b2,by omega⟩)
    ·exact wpS_pure ⟨R,_,rfl,k3,hR⟩
   case p7=>
    rintro y c st3 _ hy ⟨k3,out,QL,QM,mg,ac,bc,rfl,lo,b1,b2,b5⟩
    dsimp only
    have hk3:kindOf st3=κ:=k3.kind.trans hk
    refine bK (fun _=>?_) fun _=>?_
    all_goals
     refine wpS_bind (oa fun rP k4=>wpS_bind (aQ hb b2 fun q eq hq=>wpS_bind (eQ L (k4.kind.trans hk3) ha hq (by omega) (by omega) fun k hkk=>?_)))
     have kk:=k3.trans k4
     dsimp only
     refine bK (fun p1=>?_) fun _=>?_
     ·skip
      refine bz (fun _=>wpS_pure ⟨kk,.inr ⟨_,_,rfl,(lo.oe k).last⟩⟩) fun c3=>?_
      refine bz (fun _=>wpS_pure ⟨kk,.inr ⟨_,_,rfl,(lo.oe k).done⟩⟩) fun c4=>?_
      refine wpS_bind (aQ hb b2 fun q2 e2 h2=>?_)
      have f':=(lo.oe k).lz e2
      refine bz (fun _=>wpS_pure ⟨kk,.inr ⟨_,_,rfl,f'.done⟩⟩) fun c5=>?_
      refine wpS_bind (aQ ha (by omega) fun q3 e3 h3=>wpS_bind (eQ L (kk.kind.trans hk) hb h3 (by omega) (by omega) fun k2 hk2=>?_))
      dsimp only
      refine bK (fun p2=>?_) fun _=>?_
      ·skip
       refine bz (fun _=>wpS_pure ⟨kk,.inr ⟨_,_,rfl,(f'.gL k2).done⟩⟩) fun c6=>?_
       refine wpS_bind (aQ ha (by omega) fun q4 e4 h4=>?_)
       have dq:=(f'.gL k2).gK e4
       refine bz (fun _=>wpS_pure ⟨kk,.inr ⟨_,_,rfl,dq.last⟩⟩) fun c7=>?_
       exact bK (fun _=>wpS_pure ⟨kk,.inl ⟨_,_,_,_,_,_,rfl,dq,by omega,by omega,by omega⟩⟩) fun _=>wpS_pure ⟨kk,_,_,_,_,_,_,rfl,dq,by omega,by omega,by omega⟩
      ·refine wpS_bind (aQ ha (by omega) fun q4 e4 h4=>?_)
       have dq:=f'.gK e4
       refine bz (fun _=>wpS_pure ⟨kk,.inr ⟨_,_,rfl,dq.last⟩⟩) fun c7=>?_
       exact bK (fun _=>wpS_pure ⟨kk,.inl ⟨_,_,_,_,_,_,rfl,dq,by omega,by omega,by omega⟩⟩) fun _=>wpS_pure ⟨kk,_,_,_,_,_,_,rfl,dq,by omega,by omega,by omega⟩
     ·refine wpS_bind (aQ hb b2 fun q2 e2 h2=>?_)
      have f':=lo.lz e2
      refine bz (fun _=>wpS_pure ⟨kk,.inr ⟨_,_,rfl,f'.done⟩⟩) fun c5=>?_
      refine wpS_bind (aQ ha (by omega) fun q3 e3 h3=>wpS_bind (eQ L (kk.kind.trans hk) hb h3 (by omega) (by omega) fun k2 hk2=>?_))
      dsimp only
      refine bK (fun p2=>?_) fun _=>?_
      ·skip
       refine bz (fun _=>wpS_pure ⟨kk,.inr ⟨_,_,rfl,(f'.gL k2).done⟩⟩) fun c6=>?_
       refine wpS_bind (aQ ha (by omega) fun q4 e4 h4=>?_)
       have dq:=(f'.gL k2).gK e4
       refine bz (fun _=>wpS_pure ⟨kk,.inr ⟨_,_,rfl,dq.last⟩⟩) fun c7=>?_
       exact bK (fun _=>wpS_pure ⟨kk,.inl ⟨_,_,_,_,_,_,rfl,dq,by omega,by omega,by omega⟩⟩) fun _=>wpS_pure ⟨kk,_,_,_,_,_,_,rfl,dq,by omega,by omega,by omega⟩
      ·refine wpS_bind (aQ ha (by omega) fun q4 e4 h4=>?_)
       have dq:=f'.gK e4
       refine bz (fun _=>wpS_pure ⟨kk,.inr ⟨_,_,rfl,dq.last⟩⟩) fun c7=>?_
       exact bK (fun _=>wpS_pure ⟨kk,.inl ⟨_,_,_,_,_,_,rfl,dq,by omega,by omega,by omega⟩⟩) fun _=>wpS_pure ⟨kk,_,_,_,_,_,_,rfl,dq,by omega,by omega,by omega⟩
def Hi (a b out:Array Keyed) (na nb:Nat):Prop:=∀p,ct p out.toList+(ct p (a.toList.take na)+ct p (b.toList.take nb))=ct p a.toList+ct p b.toList
theorem Hi.done {a b out:Array Keyed} {na nb:Nat} (h:Hi a b out na nb) (p:Keyed):ct p (a.extract 0 na++b.extract 0 nb++out.reverse).toList=ct p a.toList+ct p b.toList:=by
 rw[fi,fi,p6,n8,n8,←h p];omega
theorem Hi.first {a b out:Array Keyed} {na nb:Nat} (h:Hi a b out na nb) (p:Keyed):ct p (b.extract 0 nb++a.extract 0 na++out.reverse).toList=ct p a.toList+ct p b.toList:=by
 rw[fi,fi,p6,n8,n8,←h p];omega
theorem qO {a:Array Keyed} {n:Nat} {x:Keyed} (h:1≤n) (e:a[n-1]? =some x) (p:Keyed):ct p (a.toList.take n)=ct p (a.toList.take (n-1))+ct p [x]:=by
 have:=n_ (show a.toList[n-1]? =some x by rw[Array.getElem?_toList];exact e) p
 rwa [show n-1+1=n by omega] at this
theorem Hi.gK {a b out:Array Keyed} {na nb:Nat} {x:Keyed} (h:Hi a b out na nb) (h1:1≤na) (e:a[na-1]? =some x):Hi a b (out.push x) (na-1) nb:=fun p=>by
 have:=h p
 rw[qO h1 e p] at this
 rw[nY];omega
theorem Hi.lz {a b out:Array Keyed} {na nb:Nat} {x:Keyed} (h:Hi a b out na nb) (h1:1≤nb) (e:b[nb-1]? =some x):Hi a b (out.push x) na (nb-1):=fun p=>by
 have:=h p
 rw[qO h1 e p] at this
 rw[nY];omega
theorem Hi.oe {a b out:Array Keyed} {na nb k:Nat} (h:Hi a b out na nb) (hk:k≤na):Hi a b (out++(a.extract k na).reverse) k nb:=fun p=>by
 have:=h p
 rw[←kE p a hk] at this
 rw[fi,p6];omega
theorem Hi.gL {a b out:Array Keyed} {na nb k:Nat} (h:Hi a b out na nb) (hk:k≤nb):Hi a b (out++(b.extract k nb).reverse) na k:=fun p=>by
 have:=h p
 rw[←kE p b hk] at this
 rw[fi,p6];omega
theorem zQ (L:h9 prog w A s κ a₀) {a b:Array Keyed} {st:SortSt} (hk:kindOf st=κ) (ha:In a₀ a) (hb:In a₀ b) (h1:1≤a.size) (h2:1≤b.size) {Q:Array Keyed→SortSt→Prop} (h:∀R st',(∀p,ct p R.toList=ct p a.toList+ct p b.toList)→Kp st st'→Q R st'):
  wpS (model prog w) A E s (pf a b) Q st:=by
 rw[xp]
 refine wpS_bind (wpS_lift (wpAny_rule ⟨rfl,?_⟩))
 dsimp only
 refine wpS_bind (aQ ha (by omega) fun x0 e0 _=>?_)
 have l0:Hi a b #[x0] (a.size-1) b.size:=fun p=>by
  have e1:=qO h1 e0 p
  rw[show a.toList.take a.size=a.toList from List.take_of_length_le (by simp)] at e1
  rw[show b.toList.take b.size=b.toList from List.take_of_length_le (by simp),e1]
  show ct p [x0]+_=_
  omega
 refine bz (fun _=>wpS_pure (h _ _ l0.done (Kp.refl _))) fun c1=>?_
 refine bz (fun _=>wpS_pure (h _ _ l0.first (Kp.refl _))) fun c2=>?_
 refine wpS_bind (wpS_get ?_)
 refine wpS_bind (wpS_mono (wpS_forRange (I:=fun x c st'=>Kp st st'∧∃na nb out mg,c=(none,na,nb,out,mg)∧Hi a b out na nb∧(1≤na∧na≤a.size)∧(2≤nb∧nb≤b.size)∧x+1+(na+nb)≤a.size+b.size)
  (Q:=fun c st'=>∃R r,c=(some R,r)∧Kp st st'∧∀p,ct p R.toList=ct p a.toList+ct p b.toList) ?step ?fin ⟨Kp.refl _,_,_,_,_,rfl,l0,by omega,by omega,by omega⟩) ?post)
 case post=>
  rintro c st' ⟨R,r,rfl,k1,hR⟩
  exact wpS_pure (h R st' hR k1)
 case fin=>
  rintro c st' ⟨k1,na,nb,out,mg,rfl,_,b1,b2,b3⟩
  omega
 case step=>
  rintro x c st' _ hx ⟨k1,na,nb,out,mg,rfl,lo,b1,b2,b3⟩
  dsimp only
  refine wpS_bind (wpS_mono (wpS_forRange (I:=fun y c st''=>Kp st st''∧∃eU cU out ac bc,c=(none,eU,cU,out,ac,bc)∧Hi a b out eU cU∧(1≤eU∧eU≤a.size)∧(2≤cU∧cU≤b.size)∧y+(eU+cU)≤na+nb)
   (Q:=fun c st''=>Kp st st''∧((∃eU cU out ac bc,c=(none,eU,cU,out,ac,bc)∧Hi a b out eU cU∧(1≤eU∧eU≤a.size)∧(2≤cU∧cU≤b.size)∧1+(eU+cU)≤na+nb)∨∃R r,c=(some R,r)∧∀p,ct p R.toList=ct p a.toList+ct p b.toList)) ?istep ?ifin ⟨k1,na,nb,out,_,_,rfl,lo,b1,b2,by omega⟩) ?ipost)
  case ifin=>
   rintro c st'' ⟨k2,eU,cU,out,ac,bc,rfl,lo,b1,b2,b3⟩
   exact⟨k2,.inl ⟨eU,cU,out,ac,bc,rfl,lo,b1,b2,by omega⟩⟩
  case istep=>
   rintro y c st'' _ hy ⟨k2,eU,cU,out,ac,bc,rfl,lo,b1,b2,b3⟩
   dsimp only
   have hk2:kindOf st''=κ:=k2.kind.trans hk
   refine wpS_bind (aQ hb (by omega) fun q eq hq=>wpS_bind (aQ ha (by omega) fun r er hr=>wpS_bind (p4 L hq hr hk2 fun bw=>?_)))
   cases bw with
   | true=>
    dsimp only
    rw[if_pos rfl]
    refine wpS_bind (aQ ha (by omega) fun q eq hq=>?_)
    have lo2:=lo.gK (by omega) eq
    refine bz (fun _=>wpS_pure ⟨k2,.inr ⟨_,_,rfl,lo2.done⟩⟩) fun c3=>?_
    exact bK (fun _=>wpS_pure ⟨k2,.inl ⟨_,_,_,_,_,rfl,lo2,by omega,by omega,by omega⟩⟩) fun _=>wpS_pure ⟨k2,_,_,_,_,_,rfl,lo2,by omega,by omega,by omega⟩
   | false=>
    dsimp only
    rw[if_neg (by decide)]
    refine wpS_bind (aQ hb (by omega) fun q eq hq=>?_)
    have lo2:=lo.lz (by omega) eq
    refine bz (fun _=>wpS_pure ⟨k2,.inr ⟨_,_,rfl,lo2.first⟩⟩) fun c3=>?_
    exact bK (fun _=>wpS_pure ⟨k2,.inl ⟨_,_,_,_,_,rfl,lo2,by omega,by omega,by omega⟩⟩) fun _=>wpS_pure ⟨k2,_,_,_,_,_,rfl,lo2,by omega,by omega,by omega⟩
  case ipost=>
   rintro c st2 ⟨k2,⟨HR,HS,out,ac,bc,rfl,lo,b1,b2,b4⟩ | ⟨R,r,rfl,hR⟩⟩
   rotate_left
   ·exact wpS_pure ⟨R,_,rfl,k2,hR⟩
   dsimp only
   refine wpS_bind (wpS_lift (wpAny_rule ⟨rfl,?_⟩))
   refine wpS_bind (wpS_mono (wpS_forRange (I:=fun y c st''=>Kp st st''∧∃eU cU out mg ac bc,c=(none,eU,cU,out,mg,ac,bc)∧Hi a b out eU cU∧(1≤eU∧eU≤a.size)∧(2≤cU∧cU≤b.size)∧eU+cU≤HR+HS)
    (Q:=fun c st''=>Kp st st''∧((∃eU cU out mg ac bc,c=(none,eU,cU,out,mg,ac,bc)∧Hi a b out eU cU∧(1≤eU∧eU≤a.size)∧(2≤cU∧cU≤b.size)∧eU+cU≤HR+HS)∨∃R r,c=(some R,r)∧∀p,ct p R.toList=ct p a.toList+ct p b.toList)) ?p7 ?C1 ⟨k2,HR,HS,out,_,_,_,rfl,lo,b1,b2,by omega⟩) ?p8)
   case C1=>exact fun c st'' ⟨k3,x⟩=>⟨k3,.inl x⟩
   case p8=>
    rintro c st3 ⟨k3,⟨QN,QO,out,mg,ac,bc,rfl,lo,b1,b2,b5⟩ | ⟨R,r,rfl,hR⟩⟩
    ·dsimp only
     refine wpS_bind (oa fun rP k4=>wpS_pure ⟨k3.trans k4,_,_,_,_,rfl,lo,b1,b2,by omega⟩)
    ·exact wpS_pure ⟨R,_,rfl,k3,hR⟩
   case p7=>
    rintro y c st3 _ hy ⟨k3,QN,QO,out,mg,ac,bc,rfl,lo,b1,b2,b5⟩
    dsimp only
    have hk3:kindOf st3=κ:=k3.kind.trans hk
    refine bK (fun _=>?_) fun _=>?_
    all_goals
     refine wpS_bind (oa fun rP k4=>wpS_bind (aQ hb (by omega) fun q eq hq=>wpS_bind (eQ L (k4.kind.trans hk3) ha hq (by omega) (by omega) fun k hkk=>?_)))
     have kk:=k3.trans k4
     dsimp only
     refine bK (fun p1=>?_) fun _=>?_
     ·skip
      refine bz (fun _=>wpS_pure ⟨kk,.inr ⟨_,_,rfl,(lo.oe hkk).done⟩⟩) fun c3=>?_
      refine wpS_bind (aQ hb (by omega) fun q2 e2 h2=>?_)
      have f':=(lo.oe hkk).lz (by omega) e2
      refine bz (fun _=>wpS_pure ⟨kk,.inr ⟨_,_,rfl,f'.first⟩⟩) fun c5=>?_
      refine wpS_bind (aQ ha (by omega) fun q3 e3 h3=>wpS_bind (eQ L (kk.kind.trans hk) hb h3 (by omega) (by omega) fun k2 hk2=>?_))
      dsimp only
      refine bK (fun p2=>?_) fun _=>?_
      ·skip
       refine bz (fun _=>wpS_pure ⟨kk,.inr ⟨_,_,rfl,(f'.gL hk2).first⟩⟩) fun c6=>?_
       refine bz (fun _=>wpS_pure ⟨kk,.inr ⟨_,_,rfl,(f'.gL hk2).done⟩⟩) fun c8=>?_
       refine wpS_bind (aQ ha (by omega) fun q4 e4 h4=>?_)
       have dq:=(f'.gL hk2).gK (by omega) e4
       refine bz (fun _=>wpS_pure ⟨kk,.inr ⟨_,_,rfl,dq.done⟩⟩) fun c7=>?_
       exact bK (fun _=>wpS_pure ⟨kk,.inl ⟨_,_,_,_,_,_,rfl,dq,by omega,by omega,by omega⟩⟩) fun _=>wpS_pure ⟨kk,_,_,_,_,_,_,rfl,dq,by omega,by omega,by omega⟩
      ·refine wpS_bind (aQ ha (by omega) fun q4 e4 h4=>?_)
       have dq:=f'.gK (by omega) e4
       refine bz (fun _=>wpS_pure ⟨kk,.inr ⟨_,_,rfl,dq.done⟩⟩) fun c7=>?_
       exact bK (fun _=>wpS_pure ⟨kk,.inl ⟨_,_,_,_,_,_,rfl,dq,by omega,by omega,by omega⟩⟩) fun _=>wpS_pure ⟨kk,_,_,_,_,_,_,rfl,dq,by omega,by omega,by omega⟩
     ·refine wpS_bind (aQ hb (by omega) fun q2 e2 h2=>?_)
      have f':=lo.lz (by omega) e2
      refine bz (fun _=>wpS_pure ⟨kk,.inr ⟨_,_,rfl,f'.first⟩⟩) fun c5=>?_
      refine wpS_bind (aQ ha (by omega) fun q3 e3 h3=>wpS_bind (eQ L (kk.kind.trans hk) hb h3 (by omega) (by omega) fun k2 hk2=>?_))
      dsimp only
      refine bK (fun p2=>?_) fun _=>?_
      ·skip
       refine bz (fun _=>wpS_pure ⟨kk,.inr ⟨_,_,rfl,(f'.gL hk2).first⟩⟩) fun c6=>?_
       refine bz (fun _=>wpS_pure ⟨kk,.inr ⟨_,_,rfl,(f'.gL hk2).done⟩⟩) fun c8=>?_
       refine wpS_bind (aQ ha (by omega) fun q4 e4 h4=>?_)
       have dq:=(f'.gL hk2).gK (by omega) e4
       refine bz (fun _=>wpS_pure ⟨kk,.inr ⟨_,_,rfl,dq.done⟩⟩) fun c7=>?_
       exact bK (fun _=>wpS_pure ⟨kk,.inl ⟨_,_,_,_,_,_,rfl,dq,by omega,by omega,by omega⟩⟩) fun _=>wpS_pure ⟨kk,_,_,_,_,_,_,rfl,dq,by omega,by omega,by omega⟩
      ·refine wpS_bind (aQ ha (by omega) fun q4 e4 h4=>?_)
       have dq:=f'.gK (by omega) e4
       refine bz (fun _=>wpS_pure ⟨kk,.inr ⟨_,_,rfl,dq.done⟩⟩) fun c7=>?_
       exact bK (fun _=>wpS_pure ⟨kk,.inl ⟨_,_,_,_,_,_,rfl,dq,by omega,by omega,by omega⟩⟩) fun _=>wpS_pure ⟨kk,_,_,_,_,_,_,rfl,dq,by omega,by omega,by omega⟩
end
end SR
namespace SR
theorem yI (o:Nat):∀(m:List Keyed) (k:Nat) (A:Array Keyed),o+k+m.length≤A.size→((m.zipIdx k).foldl (fun a (p,j)=>a.setIfInBounds (o+j) p) A).toList=A.toList.take (o+k)++m++A.toList.drop (o+k+m.length)
 | [],k,A,h=>by simp
 | x::r,k,A,h=>by
  rw[List.zipIdx_cons,List.foldl_cons]
  rw[List.length_cons] at h
  rw[yI o r (k+1) _ (by rw[Array.size_setIfInBounds];omega),Array.toList_setIfInBounds]
  have e1:(A.toList.set (o+k) x).take (o+(k+1))=A.toList.take (o+k)++[x]:=by
   rw[show o+(k+1)=o+k+1 by omega,List.take_add_one,List.getElem?_set_self (by rw[Array.length_toList];omega),List.take_set_of_le (Nat.le_refl _)]
   rfl
  have e2:(A.toList.set (o+k) x).drop (o+(k+1)+r.length)=A.toList.drop (o+k+(r.length+1)):=by
   rw[List.drop_set_of_lt (by omega)]
   congr 1
   omega
  rw[e1,e2,List.length_cons]
  simp
section
variable {prog:Program} {w:World} {A:Around} {E:Value→Shared→Prop} {s:Shared} {a₀:Array Keyed} {κ:SortKind}
theorem FJ {σ:Type} {M:Model} {x:σ} {Q:PUnit→σ→Prop} {st:σ} (h:Q ⟨⟩ x):wpS M A E s (set x:StateT σ Sem PUnit) Q st:=by
 unfold wpS;rw[StateT.run_set];exact wpAny_pure ⟨rfl,h⟩
theorem zR (L:h9 prog w A s κ a₀) {pd:Array (Nat×Nat×Nat)} {st:SortSt} (S:SP a₀ κ pd st) {i sa na pw nb QP:Nat} (e1:pd[i]? =some (sa,na,pw)) (e2:pd[i+1]? =some (sa+na,nb,QP)) (h1:1≤na) (h2:1≤nb) (h3:sa+na+nb≤a₀.size) {Q:Bool→SortSt→Prop}
  (h:∀st',SP a₀ κ ((pd.setIfInBounds i (sa,na+nb,pw)).eraseIdxIfInBounds (i+1)) st'→Q true st'):wpS (model prog w) A E s (mergeAt' i) Q st:=by
 rw[xq]
 refine wpS_bind (wpS_get ?_)
 rw[S.pend,e1,e2]
 dsimp only
 refine wpS_bind (FJ ?_)
 have sz:=S.size
 have S1:SP a₀ κ ((pd.setIfInBounds i (sa,na+nb,pw)).eraseIdxIfInBounds (i+1)) (setPending st ((pd.setIfInBounds i (sa,na+nb,pw)).eraseIdxIfInBounds (i+1))):=⟨S.perm,S.kind,S.failed,rfl⟩
 refine wpS_bind (aQ S.in (by omega) fun q eq hq=>wpS_bind (eQ L S1.kind S.in hq (by omega) (by omega) fun k hk=>?_))
 dsimp only
 refine bz (fun _=>wpS_pure (h _ S1)) fun c1=>?_
 refine wpS_bind (aQ S.in (by omega) fun q2 eq2 hq2=>wpS_bind (eQ L S1.kind S.in hq2 (by omega) (by omega) fun cU hk2=>?_))
 dsimp only
 refine bz (fun _=>wpS_pure (h _ S1)) fun c2=>?_
 have fin:∀(R:Array Keyed) (st':SortSt),(∀p,ct p R.toList=ct p ((arrOf st).extract (sa+k) (sa+na)).toList+ct p ((arrOf st).extract (sa+na) (sa+na+cU)).toList)→Kp (setPending st ((pd.setIfInBounds i (sa,na+nb,pw)).eraseIdxIfInBounds (i+1))) st'→
   SP a₀ κ ((pd.setIfInBounds i (sa,na+nb,pw)).eraseIdxIfInBounds (i+1)) (setArr st' (R.toList.zipIdx.foldl (fun a (p,j)=>a.setIfInBounds (sa+k+j) p) (arrOf st'))):=by
  intro R st' hR kp
  refine⟨?_,kp.kind.trans S.kind,kp.failed.trans S.failed,kp.pend⟩
  refine Array.Perm.trans ?_ S.perm
  have ea:arrOf st'=arrOf st:=kp.arr
  show(R.toList.zipIdx.foldl (fun a (p,j)=>a.setIfInBounds (sa+k+j) p) (arrOf st')).Perm (arrOf st)
  rw[ea]
  have hl:R.toList.length=(na-k)+cU:=by
   have p:=(yH (l:=R.toList) (m:=((arrOf st).extract (sa+k) (sa+na)).toList++((arrOf st).extract (sa+na) (sa+na+cU)).toList) fun p=>by rw[hR,jr]).length_eq
   rw[p,List.length_append,Array.length_toList,Array.length_toList,Array.size_extract,Array.size_extract]
   omega
  refine Array.perm_iff_toList_perm.mpr (yH fun p=>?_)
  rw[yI (sa+k) R.toList 0 _ (by omega),jr,jr,hR,hl,←vn p (arrOf st).toList (sa+na+cU),←kE p (arrOf st) (show sa+na≤sa+na+cU by omega),←kE p (arrOf st) (show sa+k≤sa+na by omega)]
  rw[show sa+k+0+(na-k+cU)=sa+na+cU by omega,show sa+k+0=sa+k by omega]
  omega
 refine bK (fun _=>?_) fun _=>?_
 ·exact wpS_bind (zP L S1.kind (S.in.extract _ _) (S.in.extract _ _) (by rw[Array.size_extract];omega) (by rw[Array.size_extract];omega) fun R st' hR kp=>wpS_bind (wpS_modify (wpS_bind (wpS_get (by
   have F:=fin R st' hR kp
   show wpS _ _ _ _ (pure (failedOf (setArr st' _)).isNone) _ _
   rw[F.failed]
   exact wpS_pure (h _ F))))))
 ·exact wpS_bind (zQ L S1.kind (S.in.extract _ _) (S.in.extract _ _) (by rw[Array.size_extract];omega) (by rw[Array.size_extract];omega) fun R st' hR kp=>wpS_bind (wpS_modify (wpS_bind (wpS_get (by
   have F:=fin R st' hR kp
   show wpS _ _ _ _ (pure (failedOf (setArr st' _)).isNone) _ _
   rw[F.failed]
   exact wpS_pure (h _ F))))))
end
def Ch:List (Nat×Nat×Nat)→Nat→Nat→Prop
 | [],a,b=>a=b
 | (s,n,_)::r,a,b=>s=a∧1≤n∧Ch r (a+n) b
theorem Ch.app:∀{l:List (Nat×Nat×Nat)} {a b n q:Nat},Ch l a b→1≤n→Ch (l++[(b,n,q)]) a (b+n)
 | [],a,b,n,q,h,hn=>by cases h;exact⟨rfl,hn,rfl⟩
 | (s,m,_)::r,a,b,n,q,h,hn=>⟨h.1,h.2.1,Ch.app h.2.2 hn⟩
theorem Ch.le:∀{l:List (Nat×Nat×Nat)} {a b:Nat},Ch l a b→a≤b
 | [],a,b,h=>Nat.le_of_eq h
 | (s,m,_)::r,a,b,h=>Nat.le_trans (Nat.le_add_right _ _) (Ch.le h.2.2)
theorem Ch.pw (f:Nat):∀{l:List (Nat×Nat×Nat)} {a b i:Nat},Ch l a b→Ch (l.modify i fun(s,n,_)=>(s,n,f)) a b
 | [],a,b,i,h=>by cases i<;>exact h
 | (s,m,_)::r,a,b,0,h=>h
 | (s,m,_)::r,a,b,i+1,h=>⟨h.1,h.2.1,Ch.pw f h.2.2⟩
theorem Ch.two:∀{l:List (Nat×Nat×Nat)} {a b i:Nat},Ch l a b→i+1<l.length→∃s n q m r,l[i]? =some (s,n,q)∧l[i+1]? =some (s+n,m,r)∧1≤n∧1≤m∧s+n+m≤b∧Ch ((l.set i (s,n+m,q)).eraseIdx (i+1)) a b
 | (s,n,q)::(s2,m,r)::t,a,b,0,h,_=>by
  obtain⟨rfl,hn,rfl,hm,ht⟩:=h
  refine⟨s,n,q,m,r,rfl,rfl,hn,hm,ht.le,rfl,by omega,?_⟩
  show Ch t (s+(n+m)) b
  rw[←Nat.add_assoc]
  exact ht
 | (s,n,q)::t,a,b,i+1,h,hi=>by
  obtain⟨s2,n2,q2,m2,r2,e1,e2,h1,h2,h3,c⟩:=Ch.two h.2.2 (i:=i) (by simpa using hi)
  exact⟨s2,n2,q2,m2,r2,e1,e2,h1,h2,h3,h.1,h.2.1,c⟩
 | [_],a,b,0,h,hi=>by simp at hi
 | [],a,b,i,h,hi=>by simp at hi
section
variable {prog:Program} {w:World} {A:Around} {E:Value→Shared→Prop} {s:Shared} {a₀:Array Keyed} {κ:SortKind}
def Rn (a₀:Array Keyed) (κ:SortKind) (lo:Nat) (st:SortSt):Prop:=∃pd,SP a₀ κ pd st∧Ch pd.toList 0 lo
theorem vo (L:h9 prog w A s κ a₀) {lo i:Nat} {st:SortSt} (R:Rn a₀ κ lo st) (hl:lo≤a₀.size) (hi:i+1<(pendingOf st).size) {Q:Bool→SortSt→Prop} (h:∀st',Rn a₀ κ lo st'→Q true st'):wpS (model prog w) A E s (mergeAt' i) Q st:=by
 obtain⟨pd,S,c⟩:=R
 rw[S.pend] at hi
 obtain⟨sa,na,q,nb,r,e1,e2,h1,h2,h3,c2⟩:=c.two (i:=i) (by rw[Array.length_toList];exact hi)
 rw[Array.getElem?_toList] at e1 e2
 refine zR L S e1 e2 h1 h2 (by omega) fun st' S'=>h st' ⟨_,S',?_⟩
 rw[Array.toList_eraseIdxIfInBounds,Array.toList_setIfInBounds]
 exact c2
theorem FK (L:h9 prog w A s κ a₀) {st:SortSt} (S:SP a₀ κ #[] st) {Q:Unit→SortSt→Prop} (h:∀st',(arrOf st').Perm a₀→failedOf st'=none→Q () st'):wpS (model prog w) A E s sortRuns' Q st:=by
 rw[sortRuns'_eq]
 refine wpS_bind (wpS_get ?_)
 dsimp only
 rw[S.size]
 refine wpS_bind (wpS_mono (wpS_forRange (I:=fun x c st'=>∃lo,c=(none,lo)∧lo≤a₀.size∧Rn a₀ κ lo st') (Q:=fun c st'=>∃lo,c=(none,lo)∧lo≤a₀.size∧Rn a₀ κ lo st') ?step (fun _ _ x=>x) ⟨0,rfl,Nat.zero_le _, #[],S,rfl⟩) ?post)
 case step=>
  rintro x c st' _ _ ⟨lo,rfl,hl,R⟩
  dsimp only
  by_cases c0:lo ≥ a₀.size
  ·rw[if_pos c0]
   exact wpS_pure ⟨lo,rfl,hl,R⟩
  rw[if_neg c0]
  obtain⟨pd,S1,c1⟩:=R
  refine wpS_bind (C0 L S1 (by omega) (by omega) fun m st2 S2 h1 h2=>?_)
  dsimp only
  refine bK (fun _=>wpS_bind (wpS_lift (wpAny_rule ⟨rfl,wpS_bind (HN L S2 (by omega) fun st3 S3=>?_)⟩))) fun _=>?_
  rotate_left
  have S3:=S2
  rotate_left
  rw[if_neg (by decide)]
  all_goals
   refine wpS_bind (wpS_get ?_)
   rw[S3.pend]
   have fin:∀(n:Nat) (fu:SortSt),1≤n→Rn a₀ κ lo fu→Rn a₀ κ (lo+n) (setPending fu ((pendingOf fu).push (lo,n,0))):=fun n fu hn ⟨Le,S5,c5⟩=>⟨_,⟨S5.perm,S5.kind,S5.failed,rfl⟩,by
    rw[Array.toList_push,S5.pend]
    exact c5.app hn⟩
   cases hb:pd.back? with
   | none=>exact wpS_bind (wpS_modify (wpS_pure ⟨_,rfl,by omega,fin _ _ (by omega) ⟨pd,S3,c1⟩⟩))
   | some t=>
    obtain⟨s1,n1,q1⟩:=t
    dsimp only
    refine wpS_bind (wpS_mono (wpS_forRange (I:=fun x c st'=>c=(none,())∧Rn a₀ κ lo st') (Q:=fun c st'=>c=(none,())∧Rn a₀ κ lo st') ?istep (fun _ _ x=>x) ⟨rfl,pd,S3,c1⟩) ?ipost)
    case istep=>
     rintro y c fu _ _ ⟨rfl,R5⟩
     refine wpS_bind (wpS_get ?_)
     skip
     cases ho:(if(pendingOf fu).size>1 then(pendingOf fu)[(pendingOf fu).size-2]? else none) with
     | none=>exact wpS_pure ⟨rfl,R5⟩
     | some t=>
      obtain⟨u,v,older⟩:=t
      dsimp only
      have hp:(pendingOf fu).size>1:=by
       by_cases hp:(pendingOf fu).size>1
       ·exact hp
       ·rw[if_neg hp] at ho;cases ho
      refine bK (fun _=>wpS_pure ⟨rfl,R5⟩) fun _=>?_
      refine wpS_bind (vo L R5 hl (by omega) fun QQ R6=>?_)
      rw[if_neg (by decide)]
      exact wpS_pure ⟨rfl,R6⟩
    case ipost=>
     rintro c fu ⟨rfl,R5⟩
     dsimp only
     refine wpS_bind (wpS_modify (wpS_bind (wpS_modify (wpS_pure ⟨_,rfl,by omega,fin _ _ (by omega) ?_⟩))))
     obtain⟨Le,S5,c5⟩:=R5
     exact⟨_,⟨S5.perm,S5.kind,S5.failed,rfl⟩,by
      rw[Array.toList_modify,S5.pend]
      exact c5.pw _⟩
 case post=>
  rintro c st' ⟨lo,rfl,hl,R⟩
  dsimp only
  refine wpS_bind (wpS_mono (wpS_forRange (I:=fun x c st'=>c=(none,())∧Rn a₀ κ lo st') (Q:=fun c st'=>c=(none,())∧Rn a₀ κ lo st') ?p7 (fun _ _ x=>x) ⟨rfl,R⟩) ?p8)
  case p7=>
   rintro y c fu _ _ ⟨rfl,R5⟩
   refine wpS_bind (wpS_get ?_)
   skip
   refine bK (fun _=>wpS_pure ⟨rfl,R5⟩) fun hp=>?_
   refine wpS_bind (vo L R5 hl ?_ fun QQ R6=>?_)
   ·have e1:∀(c:Prop) [Decidable c],(if c then(pendingOf fu).size-2-1 else(pendingOf fu).size-2)+1<(pendingOf fu).size:=fun c _=>by split<;>omega
    exact e1 _
   ·rw[if_neg (by decide)]
    exact wpS_pure ⟨rfl,R6⟩
  case p8=>
   rintro c fu ⟨rfl,Le,S5,c5⟩
   exact wpS_pure (h _ S5.perm S5.failed)
end
end SR
end L2
namespace L2
open PySem PySem.Spec PyProof.Rows
abbrev Mark:=Int×List Int
def C2 (h:Heap) (b:Addr) (ns:List Int):Prop:=∃vs:List Value,IsTup h b vs.toArray∧IntsAre vs ns
def cp (h:Heap) (u:Value) (m:Mark):Prop:=∃a b t,u=.ref a∧IsTup h a [.int m.1 t,.ref b].toArray∧C2 h b m.2
def su (h h':Heap):Prop:=∀b o,h.get? b=some o→o.cls=.type "tuple"→h'.get? b=some o
theorem IsTup.kp {h h':Heap} {a:Addr} {vs:Array Value} (k:su h h') (t:IsTup h a vs):IsTup h' a vs:=by
 obtain⟨o,ho,hc,n,hd⟩:=t
 exact⟨o,k a o ho hc,hc,n,hd⟩
theorem cp.kp {h h':Heap} {u:Value} {m:Mark} (k:su h h') (t:cp h u m):cp h' u m:=by
 obtain⟨a,b,t,rfl,h1,vs,h2,h3⟩:=t
 exact⟨a,b,t,rfl,IsTup.kp k h1,vs,IsTup.kp k h2,h3⟩
theorem qP {h:Heap} {a:Addr} {vs ws:List Value} (t:IsTup h a vs.toArray) (t':IsTup h a ws.toArray):vs=ws:=by
 obtain⟨o,ho,_,n,hd⟩:=t
 obtain⟨o',ho',_,n',hd'⟩:=t'
 rw[ho] at ho'
 cases ho'
 rw[hd] at hd'
 injection hd' with e _
 simpa using e
theorem ph:∀{vs:List Value} {ns ms:List Int},IntsAre vs ns→IntsAre vs ms→ns=ms
 | _,_,_,.nil,.nil=>rfl
 | _,_,_,.cons a t r,.cons _ _ r'=>by rw[ph r r']
theorem cp.inj {h:Heap} {u:Value} {m m':Mark} (x:cp h u m) (y:cp h u m'):m=m':=by
 obtain⟨a,b,t,rfl,h1,vs,h2,h3⟩:=x
 obtain⟨a',b',t',e,h1',vs',h2',h3'⟩:=y
 cases e
 have e1:=qP h1 h1'
 simp only[List.cons.injEq,Value.int.injEq,Value.ref.injEq,and_true] at e1
 obtain⟨⟨e1,_⟩,rfl⟩:=e1
 have e2:=qP h2 h2'
 subst e2
 exact Prod.ext e1 (ph h3 h3')
theorem qQ (A:Around) (s:Shared) (a:Int) (t:Tok) (c:Int) (u:Tok):SeqAt.EqAt A s (.int a t) (.int c u) (decide (a=c)):=by
 obtain⟨e,h,i⟩:=HT.uE A s a t c u
 cases e with
 | true=>rw[decide_eq_true (i.mp rfl)];exact h
 | false=>rw[decide_eq_false (fun q=>absurd (i.mpr q) Bool.false_ne_true)];exact h
theorem HU (ns ms:List Int):((List.range (min ns.length ms.length)).all (fun j=>decide (ns[j]? =ms[j]?))&&ns.length == ms.length)=decide (ns=ms):=by
 by_cases e:ns=ms
 ·subst e;simp
 ·rw[decide_eq_false e]
  by_cases hl:ns.length=ms.length
  ·rw[hl,Nat.min_self,beq_self_eq_true,Bool.and_true]
   apply Classical.byContradiction
   intro q
   have q:=eq_true_of_ne_false q
   refine e (List.ext_getElem? fun i=>?_)
   by_cases hi:i<ms.length
   ·exact of_decide_eq_true (List.all_eq_true.mp q i (List.mem_range.mpr hi))
   ·rw[List.getElem?_eq_none (by omega),List.getElem?_eq_none (by omega)]
  ·rw[show(ns.length == ms.length)=false by simpa using hl,Bool.and_false]
theorem vp {A:Around} {s:Shared} {b b':Addr} {ns ms:List Int} (hu:A.units<cLine) (x:C2 s.heap b ns) (y:C2 s.heap b' ms):SeqAt.EqAt A s (.ref b) (.ref b') (decide (ns=ms)):=by
 obtain⟨vs,h1,i1⟩:=x
 obtain⟨ws,h2,i2⟩:=y
 by_cases e:b=b'
 ·subst e
  have:=qP h1 h2
  subst this
  rw[decide_eq_true (ph i1 i2)]
  exact SeqAt.EqAt.same _
 ·have l1:=i1.length
  have l2:=i2.length
  have:=SeqAt.RcAt.tuples (A:=A) (s:=s) (e:=fun j=>decide (ns[j]? =ms[j]?)) h1 h2 hu fun j a c=>by
   have a':j<vs.length:=by simpa using a
   have c':j<ws.length:=by simpa using c
   obtain⟨p,t,e1,f1⟩:=yA i1 j a'
   obtain⟨q,u,e2,f2⟩:=yA i2 j c'
   rw[List.getElem_toArray,List.getElem_toArray,e1,e2]
   have g1:ns[j]? =some p:=by rw[←Nat.add_zero j,←List.getElem?_drop,f1];rfl
   have g2:ms[j]? =some q:=by rw[←Nat.add_zero j,←List.getElem?_drop,f2];rfl
   rw[g1,g2,show decide (some p=some q)=decide (p=q) by simp]
   exact qQ _ _ _ _ _ _
  rw[List.size_toArray,List.size_toArray,l1,l2,HU] at this
  exact SeqAt.EqAt.of_refs e this
theorem cp.C3 {A:Around} {s:Shared} {u v:Value} {m m':Mark} (hu:A.units+2<cLine) (x:cp s.heap u m) (y:cp s.heap v m'):SeqAt.EqAt A s u v (decide (m=m')):=by
 have x0:=x
 have y0:=y
 obtain⟨a,b,t,rfl,h1,x2⟩:=x
 obtain⟨a',b',t',rfl,h1',y2⟩:=y
 by_cases e:a=a'
 ·subst e
  rw[decide_eq_true (x0.inj y0)]
  exact SeqAt.EqAt.same _
 ·have in1:A.in1.units≤A.units+1:=by simp[Around.in1_units]
  have:=SeqAt.RcAt.tuples (A:=A) (s:=s) (e:=fun j=>if j=0 then decide (m.1=m'.1) else decide (m.2=m'.2)) h1 h1' (by omega) fun j p q=>by
   have p':j<2:=by simpa using p
   match j,p' with
   | 0,_=>exact qQ _ _ _ _ _ _
   | 1,_=>exact vp (by omega) x2 y2
  have e2:((List.range (min [Value.int m.1 t,.ref b].toArray.size [Value.int m'.1 t',.ref b'].toArray.size)).all (fun j=>if j=0 then decide (m.1=m'.1) else decide (m.2=m'.2))&&[Value.int m.1 t,.ref b].toArray.size == [Value.int m'.1 t',.ref b'].toArray.size)=decide (m=m'):=by
   show((List.range 2).all _&&true)=_
   rw[show List.range 2=[0,1] from rfl]
   simp only[List.all_cons,List.all_nil,Bool.and_true,if_true,Nat.one_ne_zero,if_false]
   rw[Bool.eq_iff_iff]
   simp[Prod.ext_iff]
  rw[e2] at this
  exact SeqAt.EqAt.of_refs e this
def Nk (w:World) (ns:List Int):Int:=reduceHash (Builtin.Tuple.tupleHashOf (ns.map fun i=>PySem.W.hashW w.params (.int i)))
def eV (w:World) (m:Mark):Int:=reduceHash (Builtin.Tuple.tupleHashOf [PySem.W.hashW w.params (.int m.1),Nk w m.2])
section
variable {P:Program} {w:World} {A:Around} {E:Value→Shared→Prop} {s:Shared}
theorem lA:∀{vs:List Value} {ns:List Int},IntsAre vs ns→∀v∈vs,∃i t,v=.int i t
 | _,_,.nil,v,hv=>by cases hv
 | _,_,.cons a t r,v,hv=>by
  rcases List.mem_cons.mp hv with e | e
  ·exact⟨a,t,e⟩
  ·exact lA r v e
theorem cp.quiet {u:Value} {m:Mark} {Q:Bool→Shared→Prop} (x:cp s.heap u m) (q:Q true s):wpAny (model P w) A (eqIsQuiet 8 u) Q E s:=by
 obtain⟨a,b,t,rfl,h1,vs,h2,i⟩:=x
 refine sj h1 (fun v hv Q' q'=>?_) q
 rcases List.mem_cons.mp hv with z | z
 ·rw[z];exact si _ rfl q'
 ·rw[List.mem_singleton.mp z]
  refine sj h2 (fun v hv Q' q'=>?_) q'
  obtain⟨i,t,rfl⟩:=lA i v hv
  exact si _ rfl q'
theorem sv {n:Nat} {a:Addr} {vs:List Value} {Q:Bool→Shared→Prop} (ht:IsTup s.heap a vs.toArray) (hq:∀v∈vs,∀Q':Bool→Shared→Prop,Q' true s→wpAny (model P w) A (hashByValue n v) Q' E s) (q:Q true s):wpAny (model P w) A (hashByValue (n+1) (.ref a)) Q E s:=by
 obtain⟨o,ho,hc,m,hd⟩:=ht
 have hT:s.TypeIs (.ref a) "tuple":=⟨o,ho,hc⟩
 unfold hashByValue
 refine wpAny_bind (wpAny_specialOf hT PySem.F.slot_tuple_hash.lookup ?_)
 show wpAny _ _ (seqItems? (.ref a) >>= _) _ _ s
 refine wpAny_bind ?_
 unfold seqItems?
 dsimp only
 refine wpAny_bind (wpAny_load ho ?_)
 rw[hd]
 refine wpAny_pure ?_
 refine wpAny_bind ?_
 show wpAny _ _ (forIn vs.toArray _ _) _ _ s
 rw[←Array.forIn_toList]
 refine wpAny_forIn_list _ (fun rest r s'=>r.1=none∧s'=s∧∀v∈rest,v∈vs) _ (fun v rest r s' ⟨hr,hs,hall⟩=>?_) (fun⟨r1,r2⟩ s' ⟨hr,hs,_⟩=>?_) _ _ ⟨rfl,rfl,fun v hv=>hv⟩
 ·subst hs
  refine wpAny_bind (hq v (hall v List.mem_cons_self) _ ?_)
  simp only[Bool.not_true,Bool.false_eq_true,if_false]
  exact wpAny_pure ⟨rfl,rfl,fun z hz=>hall z (List.mem_cons_of_mem _ hz)⟩
 ·subst hs
  simp only at hr
  subst hr
  exact wpAny_pure q
theorem cp.Kz {u:Value} {m:Mark} {Q:Bool→Shared→Prop} (x:cp s.heap u m) (q:Q true s):wpAny (model P w) A (hashByValue 8 u) Q E s:=by
 obtain⟨a,b,t,rfl,h1,vs,h2,i⟩:=x
 refine sv h1 (fun v hv Q' q'=>?_) q
 rcases List.mem_cons.mp hv with z | z
 ·rw[z];exact wpAny_pure q'
 ·rw[List.mem_singleton.mp z]
  refine sv h2 (fun v hv Q' q'=>?_) q'
  obtain⟨i,t,rfl⟩:=lA i v hv
  exact wpAny_pure q'
theorem sx {n:Nat} {a:Addr} {vs:List Value} {Q:Bool→Shared→Prop} (ht:IsTup s.heap a vs.toArray) (hq:∀v∈vs,∀Q':Bool→Shared→Prop,Q' false s→wpAny (model P w) A (ofAClassStatement n v) Q' E s) (q:Q false s):wpAny (model P w) A (ofAClassStatement (n+1) (.ref a)) Q E s:=by
 obtain⟨o,ho,hc,m,hd⟩:=ht
 have hT:s.TypeIs (.ref a) "tuple":=⟨o,ho,hc⟩
 unfold ofAClassStatement
 refine wpAny_bind (wpAny_typeOf hT ?_)
 dsimp only
 rw[if_pos (by decide)]
 refine wpAny_bind (wpAny_pure ?_)
 simp only[Bool.not_true,Bool.false_eq_true,if_false]
 refine wpAny_bind ?_
 unfold seqItems?
 dsimp only
 refine wpAny_bind (wpAny_load ho ?_)
 rw[hd]
 refine wpAny_pure ?_
 dsimp only
 refine wpAny_bind ?_
 show wpAny _ _ (forIn vs.toArray _ _) _ _ s
 rw[←Array.forIn_toList]
 refine wpAny_forIn_list _ (fun rest r s'=>r.1=none∧s'=s∧∀v∈rest,v∈vs) _ (fun v rest r s' ⟨hr,hs,hall⟩=>?_) (fun⟨r1,r2⟩ s' ⟨hr,hs,_⟩=>?_) _ _ ⟨rfl,rfl,fun v hv=>hv⟩
 ·subst hs
  refine wpAny_bind (hq v (hall v List.mem_cons_self) _ ?_)
  simp only[Bool.false_eq_true,if_false]
  exact wpAny_pure ⟨rfl,rfl,fun z hz=>hall z (List.mem_cons_of_mem _ hz)⟩
 ·subst hs
  simp only at hr
  subst hr
  exact wpAny_pure q
theorem cp.class {u:Value} {m:Mark} {Q:Bool→Shared→Prop} (x:cp s.heap u m) (q:Q false s):wpAny (model P w) A (ofAClassStatement 8 u) Q E s:=by
 obtain⟨a,b,t,rfl,h1,vs,h2,i⟩:=x
 refine sx h1 (fun v hv Q' q'=>?_) q
 rcases List.mem_cons.mp hv with z | z
 ·rw[z];exact wpAny_pure q'
 ·rw[List.mem_singleton.mp z]
  refine sx h2 (fun v hv Q' q'=>?_) q'
  obtain⟨i,t,rfl⟩:=lA i v hv
  exact wpAny_pure q'
theorem HV {u:Value} {m:Mark} {l:List Value} {Q:Bool→Shared→Prop} (x:cp s.heap u m) (hl:∀v∈l,∃m',cp s.heap v m') (q:Q false s):wpAny (model P w) A (searchCouldBeSeen u l) Q E s:=by
 unfold searchCouldBeSeen
 refine wpAny_bind ?_
 refine wpAny_forIn_list _ (fun rest r s'=>r.1=none∧s'=s∧∀v∈rest,v∈l) _ (fun v rest r s' ⟨hr,hs,hall⟩=>?_) (fun⟨r1,r2⟩ s' ⟨hr,hs,_⟩=>?_) _ _ ⟨rfl,rfl,fun v hv=>hv⟩
 ·subst hs
  obtain⟨m',y⟩:=hl v (hall v List.mem_cons_self)
  have go:∀z∈rest,z∈l:=fun z hz=>hall z (List.mem_cons_of_mem _ hz)
  dsimp only
  refine wpAny_ite_split (fun _=>wpAny_pure ⟨rfl,rfl,go⟩) fun _=>?_
  refine wpAny_bind (x.quiet ?_)
  simp only[Bool.not_true,Bool.false_eq_true,if_false]
  refine wpAny_bind (y.quiet ?_)
  simp only[Bool.not_true,Bool.false_eq_true,if_false]
  refine wpAny_bind (x.class ?_)
  simp only[Bool.false_eq_true,if_false]
  refine wpAny_bind (y.class ?_)
  simp only[Bool.false_eq_true,if_false]
  exact wpAny_pure ⟨rfl,rfl,go⟩
 ·subst hs
  simp only at hr
  subst hr
  exact wpAny_pure q
theorem cp.lt {u v:Value} {m m':Mark} (hu:A.units+2<cLine) (x:cp s.heap u m) (y:cp s.heap v m'):∃b:Bool,∀(Q:Bool→Shared→Prop) (E:Value→Shared→Prop),Q b s→wpAny (model P w) A (keyLt' (tuples' true) u v) Q E s:=by
 obtain⟨a,b,t,rfl,h1,vs,h2,i⟩:=x
 obtain⟨a',b',t',rfl,h1',vs',h2',i'⟩:=y
 refine⟨if m.1=m'.1 then(if m.2=m'.2 then false else HT.lexLt m.2 m'.2) else decide (m.1<m'.1),fun Q E q=>?_⟩
 have q1:IsTup s.heap a [.int m.1 t,.ref b].toArray:=h1
 obtain⟨o,ho,hc,n,hd⟩:=h1
 obtain⟨o',ho',hc',n',hd'⟩:=h1'
 refine PySem.W.kat_lt ho hd ho' hd' ?_
 show PySem.W.KatLex P w A true (decide (2<2)) Q [(.int m.1 t,.int m'.1 t'),(.ref b,.ref b')] 0 s
 refine PySem.W.kat_cons (qQ A s m.1 t m'.1 t' P w _ _ ?_)
 by_cases e:m.1=m'.1
 ·rw[if_pos e] at q
  rw[decide_eq_true e]
  refine PySem.W.kat_yes (PySem.W.kat_cons (vp (by omega) ⟨vs,h2,i⟩ ⟨vs',h2',i'⟩ P w _ _ ?_))
  by_cases e2:m.2=m'.2
  ·rw[if_pos e2] at q
   rw[decide_eq_true e2]
   exact PySem.W.kat_yes (PySem.W.kat_nil q)
  ·rw[if_neg e2] at q
   rw[decide_eq_false e2]
   refine PySem.W.kat_no (PySem.W.kat_one _ _ ?_)
   exact HT.zu h2 h2' (by simpa using i) (by simpa using i') (by omega) q
 ·rw[if_neg e] at q
  rw[decide_eq_false e]
  exact PySem.W.kat_no (oneLt_int q)
end
theorem jN {α β:Type} {R:α→β→Prop} {l l':List α} (p:l'.Perm l):∀{m:List β},Paired R l m→∃m',Paired R l' m'∧m'.Perm m:=by
 induction p with
 | nil=>intro m h;cases h;exact⟨[],.nil,.refl _⟩
 | cons x _ ih=>
  intro m h
  cases h with
  | cons r t=>
   obtain⟨k',a,b⟩:=ih t
   exact⟨_::k',.cons r a,b.cons _⟩
 | swap x y l=>
  intro m h
  cases h with
  | cons a r=>
   cases r with
   | cons b r=>exact⟨_,.cons b (.cons a r),.swap _ _ _⟩
 | trans _ _ ih1 ih2=>
  intro m h
  obtain⟨k1,a1,b1⟩:=ih2 h
  obtain⟨k2,a2,b2⟩:=ih1 a1
  exact⟨k2,a2,b2.trans b1⟩
theorem eX {α β:Type} {R R':α→β→Prop} (f:∀a b,R a b→R' a b):∀{l:List α} {m:List β},Paired R l m→Paired R' l m
 | _,_,.nil=>.nil
 | _,_,.cons h t=>.cons (f _ _ h) (eX f t)
theorem fk {α β:Type} {R:α→β→Prop}:∀{l:List α} {m:List β} {i:Nat} {x:α},Paired R l m→l[i]? =some x→∃y,m[i]? =some y∧R x y
 | _,_,_,_,.nil,e=>by simp at e
 | _,_,0,_,.cons r _,e=>by simp at e;subst e;exact⟨_,rfl,r⟩
 | _,_,i+1,_,.cons _ t,e=>by
  simp only[List.getElem?_cons_succ] at e ⊢
  exact fk t e
theorem HW (m:Nat) (h:Int):∀n,(ST.aN m h n).j+(ST.aN m h n).more≤m:=by
 have top:∀i,i≤m→i+(SetTable.runEnd m i-i)≤m:=fun i hi=>by have:=ST.yF hi;omega
 intro n
 induction n with
 | zero=>exact top (SetTable.bits h % (m+1)) (by have:=Nat.mod_lt (SetTable.bits h) (show 0<m+1 by omega);omega)
 | succ n ih=>
  show(ST.kB m (ST.aN m h n)).j+(ST.kB m (ST.aN m h n)).more≤m
  unfold ST.kB
  split
  ·dsimp only;omega
  ·refine top _ ?_
   unfold SetTable.leap
   have:=Nat.mod_lt ((ST.aN m h n).i*5+1+(ST.aN m h n).perturb / 32) (show 0<m+1 by omega)
   dsimp only
   omega
structure gx (w:World) (h:Heap) (a:Addr) (es:Array (Int×Value)) (ep:Nat) (t:SetTable) (ms:List Mark):Prop where
 obj:∃o,h.get? a=some o∧o.ExactSet∧o.data=.set es ep t
 tab:∃E,ST.TI t E∧es=(E.map (·.2)).toArray
 led:t.led= !w.params.followText "set-order"
 plain:t.plain=true
 load:es.size*5<t.mask*3
 vals:Paired (fun e m=>cp h e.2 m∧e.1=eV w m) es.toList ms
 once:ms.Nodup
 few:ms.length≤64
theorem fits_of {t:SetTable} {E:List ST.En} (I:ST.TI t E):t.fits (E.map (·.2)).toArray.size=true:=by
 unfold SetTable.fits SetTable.fill
 rw[I.pl,I.dm]
 have:=I.lt
 simp
 exact this
theorem gx.len {w:World} {h:Heap} {a:Addr} {es:Array (Int×Value)} {ep:Nat} {t:SetTable} {ms:List Mark} (S:gx w h a es ep t ms):es.size=ms.length:=by
 rw[←dh S.vals,Array.length_toList]
theorem gx.at {w:World} {h h':Heap} {a:Addr} {es:Array (Int×Value)} {ep:Nat} {t:SetTable} {ms:List Mark} (S:gx w h a es ep t ms) (k:∀o,h.get? a=some o→h'.get? a=some o) (kt:su h h'):gx w h' a es ep t ms:=by
 obtain⟨o,e,r⟩:=S.obj
 exact⟨⟨o,k o e,r⟩,S.tab,S.led,S.plain,S.load,eX (fun e m x=>⟨x.1.kp kt,x.2⟩) S.vals,S.once,S.few⟩
theorem qb {a:Addr} {h h':Heap} (hs:Heap.SameBut a h h') (ha:∀o,h.get? a=some o→o.cls≠.type "tuple"):su h h':=fun b o e hc=>by
 by_cases q:b=a
 ·subst q;exact absurd hc (ha o e)
 ·exact(hs.2 b q).trans e
section
variable {P:Program} {w:World} {A:Around} {Er:Value→Shared→Prop} {s:Shared}
theorem zS {a:Addr} {o:Obj} {ep:Nat} {t:SetTable} {E:List ST.En} {ms:List Mark} {u:Value} {m:Mark} {Q:SetFound→Shared→Prop} (ho:s.heap.get? a=some o) (hd:o.data=.set (E.map (·.2)).toArray ep t) (I:ST.TI t E)
  (hv:Paired (fun e m=>cp s.heap e.2 m∧e.1=eV w m) (E.map (·.2)) ms) (x:cp s.heap u m) (hu:A.units+3<cLine) (hold:m∈ms→Q (.there none) s)
  (hfree:∀n,(∀e∈E,e.1≠(ST.aN t.mask (eV w m) n).j)→(∀k,k<n→∃e∈E,e.1=(ST.aN t.mask (eV w m) k).j∧¬cp s.heap e.2.2 m)→Q (.free (ST.aN t.mask (eV w m) n).j false) s):
  ∀(fuel n:Nat) (stand:Option SetTable.Probe),stand.getD (t.probeStart (eV w m))=ST.aN t.mask (eV w m) n→(∀k,k<n→∃e∈E,e.1=(ST.aN t.mask (eV w m) k).j∧¬cp s.heap e.2.2 m)→1500≤fuel+n→
   wpAny (model P w) A (setSearchFrom a u (eV w m) true fuel stand) Q Er s:=by
 have hf:=fits_of I
 have hmk:t.mask≤127:=by rcases I.ms with e | e | e<;>omega
 have odd:t.gaveWay=false:=by unfold SetTable.gaveWay;rcases I.ms with e | e | e<;>rw[e]<;>rfl
 intro fuel
 induction fuel with
 | zero=>
  intro n stand hst hn hfu
  obtain⟨n0,h1,h2⟩:=I.vh (eV w m)
  obtain⟨e,he,z,_⟩:=hn n0 (by omega)
  exact absurd z (h2 e he)
 | succ fuel ih=>
  intro n stand hst hn hfu
  unfold setSearchFrom
  refine wpAny_bind (wpAny_setState_of ho hd hf ?_)
  dsimp only
  rw[odd,if_neg (by decide),hst]
  generalize hpr:SetTable.probe t _ _ _=pr
  have key:=I.CY (eV w m) n fun k hk=>let ⟨e,he,z,_⟩:=hn k hk;⟨e,he,z⟩
  rcases key with⟨n',h1,h2,h3,h4⟩ | ⟨n',i,e,h1,h2,h3,h4,h5,h6⟩
  ·have:pr=some (.empty (ST.aN t.mask (eV w m) n').j none):=by rw[←hpr];exact h4
   subst this
   dsimp only
   refine wpAny_pure (hfree n' h2 fun k hk=>?_)
   by_cases q:k<n
   ·exact hn k q
   ·obtain⟨e,he,z,nh⟩:=h3 k (by omega) hk
    refine⟨e,he,z,fun y=>nh ?_⟩
    obtain⟨i,hi⟩:=List.getElem?_of_mem he
    obtain⟨m',_,y',e'⟩:=fk hv (show(E.map (·.2))[i]? =some e.2 by rw[List.getElem?_map,hi];rfl)
    rw[e',y'.inj y]
  ·have:pr=some (.candidate (ST.aN t.mask (eV w m) n').j i (ST.aN t.mask (eV w m) (n'+1))):=by rw[←hpr];exact h6
   subst this
   dsimp only
   obtain⟨m',hm',y,ey⟩:=fk hv (show(E.map (·.2))[i]? =some e.2 by rw[List.getElem?_map,h3];rfl)
   have ee:(E.map (·.2)).toArray[i]? =some e.2:=by rw[List.getElem?_toArray,List.getElem?_map,h3];rfl
   have sl:t.slot (ST.aN t.mask (eV w m) n').j=.live i:=by rw[←h4];exact I.sr h3
   have seen:∀v∈((((E.map (·.2)).toArray.filter fun z=>z.1 == eV w m)).toList.map (·.2)),∃m',cp s.heap v m':=fun v HX=>by
    obtain⟨z,hz,rfl⟩:=List.mem_map.mp HX
    rw[Array.toList_filter] at hz
    obtain⟨j,hj⟩:=List.getElem?_of_mem (List.mem_filter.mp hz).1
    obtain⟨m',_,y',_⟩:=fk hv hj
    exact⟨m',y'⟩
   have next:∀k,k<n'+1→¬m'=m→∃e∈E,e.1=(ST.aN t.mask (eV w m) k).j∧¬cp s.heap e.2.2 m:=fun k hk ne=>by
    by_cases q:k<n
    ·exact hn k q
    ·by_cases q2:k<n'
     ·obtain⟨e,he,z,nh⟩:=h2 k (by omega) q2
      refine⟨e,he,z,fun y=>nh ?_⟩
      obtain⟨i,hi⟩:=List.getElem?_of_mem he
      obtain⟨m',_,y',e'⟩:=fk hv (show(E.map (·.2))[i]? =some e.2 by rw[List.getElem?_map,hi];rfl)
      rw[e',y'.inj y]
     ·have:k=n':=by omega
      subst this
      exact⟨e,List.mem_of_getElem? h3,h4,fun y2=>ne (y.inj y2)⟩
   obtain⟨ya,yb,yt,eu,_⟩:=id y
   cases hl:t.led with
   | true=>
    simp only[Bool.not_true,Bool.false_eq_true,if_false]
    rw[ee]
    dsimp only
    refine wpAny_bind (wpAny_holding (y.C3 (by omega) x P w _ _ ?_))
    refine wpAny_bind (wpAny_setState_of ho hd hf ?_)
    by_cases q:m'=m
    ·rw[decide_eq_true q]
     dsimp only
     exact wpAny_pure (hold (q▸List.mem_of_getElem? hm'))
    ·rw[decide_eq_false q]
     dsimp only
     simp only[Bool.and_false,Bool.false_eq_true,if_false]
     rw[show t.sameMemory t.moves t.mask=some true by unfold SetTable.sameMemory;rw[if_pos (by simp)]]
     dsimp only
     rw[if_pos rfl,sl]
     dsimp only
     rw[ee]
     dsimp only
     rw[eu]
     refine wpAny_bind (wpAny_isSame_ref_self (wpAny_bind (wpAny_pure ?_)))
     simp only[if_true]
     exact ih (n'+1) (some _) rfl (fun k hk=>next k hk q) (by omega)
   | false=>
    simp only[Bool.not_false,if_true]
    refine wpAny_bind (HV x seen ?_)
    simp only[Bool.false_eq_true,if_false]
    rw[ee]
    dsimp only
    refine wpAny_bind (wpAny_holding (y.C3 (by omega) x P w _ _ ?_))
    refine wpAny_bind (wpAny_setState_of ho hd hf ?_)
    by_cases q:m'=m
    ·rw[decide_eq_true q]
     dsimp only
     exact wpAny_pure (hold (q▸List.mem_of_getElem? hm'))
    ·rw[decide_eq_false q]
     dsimp only
     simp only[Bool.and_false,Bool.false_eq_true,if_false]
     rw[show t.sameMemory t.moves t.mask=some true by unfold SetTable.sameMemory;rw[if_pos (by simp)]]
     dsimp only
     rw[if_pos rfl,sl]
     dsimp only
     rw[ee]
     dsimp only
     rw[eu]
     refine wpAny_bind (wpAny_isSame_ref_self (wpAny_bind (wpAny_pure ?_)))
     simp only[if_true]
     exact ih (n'+1) (some _) rfl (fun k hk=>next k hk q) (by omega)
theorem stored {h:Heap} {a:Addr} {o:Obj} {es:Array (Int×Value)} {ep:Nat} {t:SetTable} (ho:h.get? a=some o) (hex:o.ExactSet) (hd:o.data=.set es ep t) (es':Array (Int×Value)) (t':SetTable):
  ∃o',(h.update a (Obj.putSet es' t')).get? a=some o'∧o'.ExactSet∧o'.data=.set es' (ep+1) t':=by
 have:=Heap.get?_update_self (Obj.putSet es' t') ho (by rw[putSet_of es' t' hd];rfl)
 rw[putSet_of es' t' hd] at this
 exact⟨_,this,hex,rfl⟩
theorem C4 {a:Addr} {es:Array (Int×Value)} {ep:Nat} {t:SetTable} {ms:List Mark} {u:Value} {m:Mark} {Q:Bool→Shared→Prop} (S:gx w s.heap a es ep t ms) (room:ms.length+1≤64) (x:cp s.heap u m) (hu:A.units+3<cLine)
  (hold:m∈ms→Q false s)
  (hnew:m ∉ ms→∀h' es' ep' t' c_,Heap.SameBut a s.heap h'→gx w h' a es' ep' t' c_→c_.Perm (m::ms)→(es'.toList.map (·.2)).Perm (u::es.toList.map (·.2))→Q true {s with heap:=h'}):
  wpAny (model P w) A (setAddHashed a u (eV w m)) Q Er s:=by
 obtain⟨o,ho,hex,hd⟩:=S.obj
 obtain⟨E,I,rfl⟩:=S.tab
 have hf:=fits_of I
 have HY:=S.len
 have lE:E.length=ms.length:=by simpa using HY
 have hsc:byScan u (E.map (·.2)).toArray=false:=by
  obtain⟨a,b,t,rfl,_⟩:=x
  rfl
 unfold setAddHashed setAddHashedIn
 refine wpAny_holding (wpAny_bind (wpAny_setState_of ho hd hf ?_))
 dsimp only
 rw[hsc,if_neg (by decide)]
 unfold setSearch
 refine wpAny_bind (zS ho hd I S.vals x hu (fun hm=>wpAny_pure (hold hm)) (fun n h1 h2=>?_) 100000 0 none rfl (fun k hk=>by omega) (by omega))
 dsimp only
 refine wpAny_bind (wpAny_setState_of ho hd hf ?_)
 have hn:∀k,k<n→∃e∈E,e.1=(ST.aN t.mask (eV w m) k).j:=fun k hk=>let ⟨e,he,z,_⟩:=h2 k hk;⟨e,he,z⟩
 have load:E.length*5<t.mask*3:=by have:=S.load;simpa using this
 have nm:m ∉ ms:=fun hm=>by
  obtain⟨i,hi⟩:=List.getElem?_of_mem hm
  obtain⟨e2,he2,y,ey⟩:=iq S.vals hi
  have he2:(E.map (·.2))[i]? =some e2:=he2
  rw[List.getElem?_map] at he2
  cases hE:E[i]? with
  | none=>rw[hE] at he2;cases he2
  | some e=>
   rw[hE] at he2
   cases he2
   refine I.Bl (D':=fun e=>cp s.heap e.2.2 m) h1 h2 (fun e he y=>?_) e (List.mem_of_getElem? hE) y
   obtain⟨j,hj⟩:=List.getElem?_of_mem he
   obtain⟨m',_,y',e'⟩:=fk S.vals (show(E.map (·.2))[j]? =some e.2 by rw[List.getElem?_map,hj];rfl)
   rw[e',y'.inj y]
 have hj:(ST.aN t.mask (eV w m) n).j≤t.mask:=Nat.le_trans (Nat.le_add_right _ _) (HW t.mask (eV w m) n)
 obtain⟨E',pE,I',Nl,eT⟩:=I.put (h:=eV w m) (x:=u) h1 hn (by omega) hj
 have UK:E'.length=E.length+1:=by rw[pE.length_eq];rfl
 obtain⟨t1,e1,p1,l1,m1,g1,f1⟩:∃t1,(t.put (ST.aN t.mask (eV w m) n).j).1=t1∧t1.plain=true∧t1.led=t.led∧t1.mask=t.mask∧t1.moves=t.moves∧t1.finger=t.finger:=⟨_,rfl,by rw[eT];exact S.plain,by rw[eT],by rw[eT],by rw[eT],by rw[eT]⟩
 rw[e1] at I'
 dsimp only
 rw[Nl,e1]
 rw[p1,if_pos rfl]
 refine wpAny_bind (x.Kz ?_)
 rw[if_pos rfl]
 refine wpAny_bind (wpAny_storeSet_of ho hd ?_ (by rw[sizeLine_eq];simp;omega))
 obtain⟨o1,ho1,HZ,hd1⟩:=stored ho hex hd (E'.map (·.2)).toArray t1
 have Ea:=Heap.SameBut.update s.heap a (Obj.putSet (E'.map (·.2)).toArray t1)
 have Lf:=qb Ea fun o2 e2=>by rw[ho] at e2;cases e2;rw[hex.1];decide
 have v1:∃c_,Paired (fun e m=>cp s.heap e.2 m∧e.1=eV w m) (E'.map (·.2)) c_∧c_.Perm (m::ms):=jN (pE.map (·.2)) (.cons ⟨x,rfl⟩ S.vals)
 obtain⟨c_,v1,pm⟩:=v1
 have nd:c_.Nodup:=pm.nodup_iff.mpr (List.nodup_cons.mpr ⟨nm,S.once⟩)
 have lm:c_.length≤64:=by rw[pm.length_eq];exact room
 generalize s.heap.update a (Obj.putSet (E'.map (·.2)).toArray t1)=hp at ho1 Ea Lf ⊢
 have fl:t1.tooFull=decide (E'.length*5 ≥ t.mask*3):=by
  unfold SetTable.tooFull SetTable.fill
  rw[I'.pl,I'.dm,m1]
  simp
 rw[fl]
 by_cases c:E'.length*5 ≥ t.mask*3
 ·rw[decide_eq_true c,if_pos (by decide)]
  obtain⟨mk2,UL⟩:=I'.grow (by omega) (by rw[m1];exact c) (by rw[m1];omega) (by omega)
  obtain⟨t2,order,E2,el,I2,q1,q2,q3,q4,q5,q6,q7⟩:=ST.Bm (fg:=t1.finger) (mv:=t1.movedTo (SetTable.sizeAbove (SetTable.grown E'.length)-1)) (ld:=t1.led) (pn:=t1.plain) mk2 (L:=E'.map (·.2)) (by rw[List.length_map];omega)
  unfold setRelay
  have sz:(E.map (·.2)).toArray.size+1=E'.length:=by simp;omega
  rw[sz]
  refine wpAny_bind (wpAny_bind (wpAny_setState_of ho1 hd1 (fits_of I') ?_))
  dsimp only
  rw[if_neg (by
   have:SetTable.sizeAbove (SetTable.grown E'.length)-1≤127:=by rcases mk2 with e | e | e<;>omega
   rw[sizeLine_eq];omega)]
  have eR:t1.relaid ((E'.map (·.2)).toArray.map (·.1)) (SetTable.grown E'.length)=some (t2,order):=by
   rw[←el]
   unfold SetTable.relaid
   rw[List.map_toArray]
  rw[eR]
  refine wpAny_bind ?_
  show wpAny (model P w) A (do
   let es':=order.filterMap ((E'.map (·.2)).toArray[·]?)
   if es'.size != (E'.map (·.2)).toArray.size then unsupported "internal:set-table-lost-an-element"
   pure (es',t2)) _ _ _
  rw[q6]
  have QR:E2.length=E'.length:=by have:=q7.length_eq;simpa using this
  dsimp only
  rw[if_neg (by simp[QR])]
  refine wpAny_pure ?_
  dsimp only
  refine wpAny_storeSet_of ho1 hd1 ?_ (by rw[sizeLine_eq];simp;omega)
  obtain⟨o2,ho2,hex2,hd2⟩:=stored ho1 HZ hd1 (E2.map (·.2)).toArray t2
  have Lg:=Ea.trans (Heap.SameBut.update hp a (Obj.putSet (E2.map (·.2)).toArray t2))
  have H_:=qb Lg fun o2 e2=>by rw[ho] at e2;cases e2;rw[hex.1];decide
  obtain⟨ms2,v2,sy⟩:=jN q7 v1
  refine wpAny_pure (hnew nm _ _ _ _ ms2 Lg ⟨⟨o2,ho2,hex2,hd2⟩,⟨E2,I2,rfl⟩,by rw[q4,l1];exact S.led,by rw[q5];exact p1,?_,eX (fun e m x=>⟨x.1.kp H_,x.2⟩) v2,sy.nodup_iff.mpr nd,by rw[sy.length_eq];exact lm⟩ (sy.trans pm) ((q7.map (·.2)).trans ((pE.map (·.2)).map (·.2))))
  rw[q1]
  simp
  omega
 ·rw[decide_eq_false c,if_neg (by simp)]
  refine wpAny_pure (hnew nm hp _ _ _ c_ Ea ⟨⟨o1,ho1,HZ,hd1⟩,⟨E',I',rfl⟩,by rw[l1];exact S.led,p1,?_,eX (fun e m x=>⟨x.1.kp Lf,x.2⟩) v1,nd,lm⟩ pm ((pE.map (·.2)).map (·.2)))
  rw[m1]
  simp
  omega
end
structure ft (w:World) (h:Heap) (a:Addr) (es:Array (Int×Value)) (ep:Nat) (t:SetTable):Prop where
 obj:∃o,h.get? a=some o∧o.ExactSet∧o.data=.set es ep t
 tab:∃E,ST.TI t E∧es=(E.map (·.2)).toArray
 led:t.led= !w.params.followText "set-order"
 plain:t.plain=true
 few:es.size≤64
theorem gx.w {w:World} {h:Heap} {a:Addr} {es:Array (Int×Value)} {ep:Nat} {t:SetTable} {ms:List Mark} (S:gx w h a es ep t ms):ft w h a es ep t:=⟨S.obj,S.tab,S.led,S.plain,by rw[S.len];exact S.few⟩
theorem ft.fits {w:World} {h:Heap} {a:Addr} {es:Array (Int×Value)} {ep:Nat} {t:SetTable} (S:ft w h a es ep t):t.fits es.size=true:=by
 obtain⟨E,I,rfl⟩:=S.tab
 exact fits_of I
theorem ft.line {w:World} {h:Heap} {a:Addr} {es:Array (Int×Value)} {ep:Nat} {t:SetTable} (S:ft w h a es ep t):es.size≤sizeLine:=by have:=S.few;rw[sizeLine_eq];omega
theorem ft.at {w:World} {h h':Heap} {a:Addr} {es:Array (Int×Value)} {ep:Nat} {t:SetTable} (S:ft w h a es ep t) (k:∀o,h.get? a=some o→h'.get? a=some o):ft w h' a es ep t:=by
 obtain⟨o,e,r⟩:=S.obj
 exact⟨⟨o,k o e,r⟩,S.tab,S.led,S.plain,S.few⟩
section
variable {P:Program} {w:World} {A:Around} {E:Value→Shared→Prop} {s:Shared}
theorem yJ {I a:Addr} {sl i ep':Nat} {es:Array (Int×Value)} {ep:Nat} {t:SetTable} {v:Value} {nx:Nat} {Q:Option Value→Shared→Prop} (hI:oX s.heap I #[rawInt sl,rawInt i,.ref a,rawInt es.size,rawInt ep'])
  (S:ft w s.heap a es ep t) (hn:∀(B:Around) (E':Value→Shared→Prop) (Q':Option (Value×Nat)→Shared→Prop),Q' (some (v,nx)) s→wpAny (model P w) B (setNext a sl i ep') Q' E' s)
  (h:∀h',oX h' I #[rawInt nx,rawInt (i+1:Nat),.ref a,rawInt es.size,rawInt ep']→Heap.SameBut I s.heap h'→Q (some v) {s with heap:=h'}):wpAny (model P w) A (pyNext (.ref I)) Q E s:=by
 have hT:s.TypeIs (.ref I) "set_iterator":=⟨_,hI,rfl⟩
 obtain⟨o,ho,hex,hd⟩:=S.obj
 unfold pyNext
 refine wpAny_bind (wpAny_attempt (wpAny_callSpecial?_slot (name:=Str.ofString "__next__") hT SI.slot_next (wpAny_call_entry SI.slot_next hT SI.entry_next ?_ (SI.args_next _))))
 refine wpAny_bind (wpAny_pure ?_)
 refine wpAny_bind (wpAny_fieldsOf hI rfl ?_)
 refine wpAny_bind (wpAny_setEntries_of ho hd S.fits ?_)
 rw[if_neg (by simp[rawInt])]
 dsimp only[rawInt]
 rw[Int.toNat_natCast,Int.toNat_natCast,Int.toNat_natCast]
 refine wpAny_bind (hn _ _ _ ?_)
 dsimp only
 refine wpAny_bind (wpAny_setField_rec hI (by simp) fun h1 e1 b1=>?_)
 refine wpAny_bind (wpAny_setField_rec e1 (by simp) fun h2 e2 b2=>?_)
 refine wpAny_pure ⟨v,rfl,wpAny_pure (h h2 ?_ (b1.trans b2))⟩
 simpa[rawInt] using e2
theorem Bn {I a:Addr} {sl i ep':Nat} {es:Array (Int×Value)} {ep:Nat} {t:SetTable} {Q:Option Value→Shared→Prop} (hh:A.handled=none) (hI:oX s.heap I #[rawInt sl,rawInt i,.ref a,rawInt es.size,rawInt ep'])
  (S:ft w s.heap a es ep t) (hn:∀(B:Around) (E':Value→Shared→Prop) (Q':Option (Value×Nat)→Shared→Prop),Q' none s→wpAny (model P w) B (setNext a sl i ep') Q' E' s)
  (h:∀h',Heap.ExtBut I s.heap h'→Q none {s with heap:=h'}):wpAny (model P w) A (pyNext (.ref I)) Q E s:=by
 have hT:s.TypeIs (.ref I) "set_iterator":=⟨_,hI,rfl⟩
 obtain⟨o,ho,hex,hd⟩:=S.obj
 unfold pyNext
 refine wpAny_bind (wpAny_attempt (wpAny_callSpecial?_slot (name:=Str.ofString "__next__") hT SI.slot_next (wpAny_call_entry SI.slot_next hT SI.entry_next ?_ (SI.args_next _))))
 refine wpAny_bind (wpAny_pure ?_)
 refine wpAny_bind (wpAny_fieldsOf hI rfl ?_)
 refine wpAny_bind (wpAny_setEntries_of ho hd S.fits ?_)
 rw[if_neg (by simp[rawInt])]
 dsimp only[rawInt]
 rw[Int.toNat_natCast,Int.toNat_natCast,Int.toNat_natCast]
 refine wpAny_bind (hn _ _ _ ?_)
 dsimp only
 exact Fx (k0:=none) hh hI (by simp) h
theorem yK {a:Addr} {es:Array (Int×Value)} {ep:Nat} {t:SetTable} {sl i:Nat} {Q:Option (Value×Nat)→Shared→Prop} (S:ft w s.heap a es ep t) (hb:w.params.followText "set-order"=true)
  (h:Q (((pickOrder (w.params.setOrder a ep) es)[i]?).map fun e=>(e.2,sl)) s):wpAny (model P w) A (setNext a sl i ep) Q E s:=by
 obtain⟨o,ho,hex,hd⟩:=S.obj
 unfold setNext
 refine wpAny_bind (wpAny_setState_of ho hd S.fits ?_)
 dsimp only
 refine wpAny_bind (nQ (a:=a) ?_)
 rw[hb,if_pos rfl,if_neg (by simp)]
 refine wpAny_bind ?_
 unfold setWalk
 refine wpAny_bind (wpAny_setState_of ho hd S.fits ?_)
 dsimp only
 refine wpAny_bind (nQ (a:=a) ?_)
 rw[hb,if_pos rfl]
 refine wpAny_bind (wpAny_askSetting (wpAny_pure ?_))
 exact wpAny_pure h
theorem Bo {a:Addr} {es:Array (Int×Value)} {ep:Nat} {t:SetTable} {sl i:Nat} {Q:Option (Value×Nat)→Shared→Prop} (S:ft w s.heap a es ep t) (hb:w.params.followText "set-order"=false)
  (h:Q (match es[SetTable.below t.place sl]?,t.place[SetTable.below t.place sl]? with | some (_,x),some j=>some (x,j+1) | _,_=>none) s):wpAny (model P w) A (setNext a sl i ep) Q E s:=by
 obtain⟨o,ho,hex,hd⟩:=S.obj
 have hl:t.led=true:=by rw[S.led,hb];rfl
 unfold setNext
 refine wpAny_bind (wpAny_setState_of ho hd S.fits ?_)
 dsimp only
 refine wpAny_bind (nQ (a:=a) ?_)
 rw[hb,if_neg (by decide)]
 refine wpAny_ite_split (fun hab=>?_) (fun _=>?_)
 ·have hab':(!t.plain&&decide (es.size>1))=true:=hab
  rw[S.plain] at hab'
  cases hab'
 refine wpAny_bind ?_
 show wpAny (model P w) A (if(!t.led&& !es.isEmpty)=true then unsupported _ else pure ()) _ _ s
 rw[hl,if_neg (by simp)]
 exact wpAny_pure (wpAny_pure h)
theorem vq {xs:Array Nat} (hs:xs.toList.Pairwise (· < ·)) (i:Nat) (hi:i≤xs.size):SetTable.below xs (if i=0 then 0 else xs.getD (i-1) 0+1)=i:=by
 generalize hj:(if i=0 then 0 else xs.getD (i-1) 0+1)=j
 obtain⟨h1,h2,h3⟩:=ST.p3 j hs
 have at_:∀k,k<xs.size→xs.toList[k]? =some (xs.getD k 0):=fun k hk=>by rw[Array.getElem?_toList,Array.getElem?_eq_getElem hk,Array.getD_eq_getD_getElem?,Array.getElem?_eq_getElem hk];rfl
 rcases Nat.lt_trichotomy (SetTable.below xs j) i with q | q | q
 ·have b1:=h3 _ _ (Nat.le_refl _) (at_ _ (by omega))
  have e0:i≠0:=by omega
  rw[if_neg e0] at hj
  by_cases z:SetTable.below xs j=i-1
  ·rw[z] at b1;omega
  ·have:=ST.fD hs (show SetTable.below xs j<i-1 by omega) (at_ _ (by omega)) (at_ _ (by omega))
   omega
 ·exact q
 ·have b1:=h2 i _ q (at_ i (by omega))
  by_cases e0:i=0
  ·rw[if_pos e0] at hj;omega
  ·rw[if_neg e0] at hj
   have:=ST.fD hs (show i-1<i by omega) (at_ _ (by omega)) (at_ _ (by omega))
   omega
abbrev Ia (vs:List Value):Nat→Value→Prop:=fun i v=>vs[i]? =some v
theorem C5 {I a:Addr} {es:Array (Int×Value)} {ep:Nat} {t:SetTable} (hh:A.handled=none) (hne:a≠I) (hb:w.params.followText "set-order"=true) (hsz:(pickOrder (w.params.setOrder a ep) es).size=es.size):
  Walks P w A I [I,a] [I] es.size (Ia ((pickOrder (w.params.setOrder a ep) es).toList.map (·.2))) (fun i h=>oX h I #[rawInt 0,rawInt i,.ref a,rawInt es.size,rawInt ep]∧ft w h a es ep t) where
 sub:=fun b hb=>by simp at hb;simp[hb]
 frame:=fun _ _ _ st hk=>⟨hk I (by simp) _ st.1,st.2.at fun o q=>hk a (by simp) o q⟩
 item:=fun i s Q E hi st hQ=>by
  obtain⟨e,he⟩:∃e,(pickOrder (w.params.setOrder a ep) es)[i]? =some e:=⟨_,Array.getElem?_eq_getElem (by omega)⟩
  refine yJ (sl:=0) (v:=e.2) (nx:=0) st.1 st.2 (fun B E' Q' q=>yK st.2 hb (by rw[he];exact q)) fun h' e1 b1=>hQ e.2 h' s.toks ?_ ⟨e1,st.2.at fun o q=>(b1.2 a hne).trans q⟩ fun b o hb q=>(b1.2 b (by simpa using hb)).trans q
  show((pickOrder (w.params.setOrder a ep) es).toList.map (·.2))[i]? =some e.2
  rw[List.getElem?_map,Array.getElem?_toList,he];rfl
 done:=fun s Q E st hQ=>by
  have he:(pickOrder (w.params.setOrder a ep) es)[es.size]? =none:=Array.getElem?_eq_none (by omega)
  exact Bn (sl:=0) hh st.1 st.2 (fun B E' Q' q=>yK st.2 hb (by rw[he];exact q)) fun h' x=>hQ h' s.toks fun b o hb q=>x b o (by simpa using hb) q
 self:=fun _ _ _ _ st hQ=>yB st.1 hQ
theorem C6 {I a:Addr} {es:Array (Int×Value)} {ep:Nat} {t:SetTable} (hh:A.handled=none) (hne:a≠I) (hb:w.params.followText "set-order"=false):
  Walks P w A I [I,a] [I] es.size (Ia (es.toList.map (·.2))) (fun i h=>oX h I #[rawInt (if i=0 then 0 else t.place.getD (i-1) 0+1:Nat),rawInt i,.ref a,rawInt es.size,rawInt ep]∧ft w h a es ep t) where
 sub:=fun b hb=>by simp at hb;simp[hb]
 frame:=fun _ _ _ st hk=>⟨hk I (by simp) _ st.1,st.2.at fun o q=>hk a (by simp) o q⟩
 item:=fun i s Q E hi st hQ=>by
  obtain⟨Er,I',eE⟩:=st.2.tab
  have up:t.place.toList.Pairwise (· < ·):=by rw[I'.pl];exact I'.up
  have ps:t.place.size=es.size:=by rw[I'.pl,eE];simp
  obtain⟨e,he⟩:∃e,es[i]? =some e:=⟨_,Array.getElem?_eq_getElem (by omega)⟩
  have hp:t.place[i]? =some (t.place.getD i 0):=by rw[Array.getD_eq_getD_getElem?,Array.getElem?_eq_getElem (by omega)];rfl
  refine yJ (v:=e.2) (nx:=t.place.getD i 0+1) st.1 st.2 (fun B E' Q' q=>Bo st.2 hb ?_) fun h' e1 b1=>hQ e.2 h' s.toks ?_ ⟨?_,st.2.at fun o q=>(b1.2 a hne).trans q⟩ fun b o hb q=>(b1.2 b (by simpa using hb)).trans q
  ·rw[vq up i (by omega),he,hp]
   exact q
  ·show(es.toList.map (·.2))[i]? =some e.2
   rw[List.getElem?_map,Array.getElem?_toList,he];rfl
  ·rw[if_neg (by omega)]
   exact e1
 done:=fun s Q E st hQ=>by
  obtain⟨Er,I',eE⟩:=st.2.tab
  have up:t.place.toList.Pairwise (· < ·):=by rw[I'.pl];exact I'.up
  have ps:t.place.size=es.size:=by rw[I'.pl,eE];simp
  refine Bn hh st.1 st.2 (fun B E' Q' q=>Bo st.2 hb ?_) fun h' x=>hQ h' s.toks fun b o hb q=>x b o (by simpa using hb) q
  rw[vq up es.size (by omega),Array.getElem?_eq_none (by omega)]
  exact q
 self:=fun _ _ _ _ st hQ=>yB st.1 hQ
theorem FL {a:Addr} {es:Array (Int×Value)} {ep:Nat} {t:SetTable} {Q:Value→Shared→Prop} (S:ft w s.heap a es ep t)
  (h:∀(I:Addr) (h1:Heap) (d1:Drawn) (fx:List Addr) (vs':List Value) (St:Nat→Heap→Prop),vs'.Perm (es.toList.map (·.2))→s.heap.objs.size≤I→I<h1.objs.size→(∀b∈fx,s.heap.objs.size≤b∧b<h1.objs.size)→(∀b o,s.heap.get? b=some o→h1.get? b=some o)→St 0 h1→
   (∀B:Around,B.handled=none→Walks P w B I (I::a::fx) [I] es.size (Ia vs') St)→Q (.ref I) {s with heap:=h1,drawn:=d1}):
  wpAny (model P w) A (pyIter (.ref a)) Q E s:=by
 obtain⟨o,ho,hex,hd⟩:=S.obj
 have hT:s.TypeIs (.ref a) "set":=⟨o,ho,hex.1⟩
 have la:a<s.heap.objs.size:=Heap.lt_size ho
 refine wpAny_pyIter_slot hT PySem.F.slot_set_iter (wpAny_call_entry PySem.F.slot_set_iter hT SI.qI ?_ (PySem.F.args_set_iter_1 _))
 unfold Builtin.«frozenset.__iter__» Builtin.Frozenset.slot0 slotArgs
 simp only[List.isEmpty_nil,Bool.not_true,Bool.false_eq_true, ↓reduceIte,bind_assoc,List.length_nil,bne_self_eq_false]
 unfold Builtin.Frozenset.addrOf Builtin.Frozenset.sizeOf
 refine wpAny_bind (wpAny_pure ?_)
 try dsimp only
 refine wpAny_bind (wpAny_pure ?_)
 refine wpAny_bind (wpAny_bind (wpAny_setEntries_of ho hd S.fits (wpAny_pure ?_)))
 unfold setDrawn
 refine wpAny_bind (wpAny_bind (wpAny_setState_of ho hd S.fits ?_))
 dsimp only
 refine wpAny_bind (nQ (a:=a) (wpAny_pure ?_))
 refine wpAny_ite_split (fun hab=>?_) (fun hab=>?_)
 ·have hab':(!w.params.followText "set-order"&&(!t.plain&&decide (es.size>1)))=true:=hab
  rw[S.plain] at hab'
  simp at hab'
 ·refine wpAny_bind (wpAny_pure ?_)
  refine wpAny_bind (wpAny_setEpoch_of ho hd S.fits ?_)
  refine wpAny_bind (wpAny_newObj_type (wpAny_pure ⟨_,rfl,"set_iterator",_,⟨_,Heap.get?_push_size _ rfl,rfl⟩,SI.slot_next.lookup,?_⟩))
  have yE:a≠s.heap.objs.size:=Nat.ne_of_lt la
  cases hb:w.params.followText "set-order" with
  | true=>
   have pp:(pickOrder (w.params.setOrder a ep) es).toList.Perm es.toList:=rZ (w.params.setOrder a ep) es.size 0 es.toList #[] (by simp)
   have sz:(pickOrder (w.params.setOrder a ep) es).size=es.size:=by
    have:=pp.length_eq
    rw[Array.length_toList,Array.length_toList] at this
    exact this
   exact h s.heap.objs.size (s.heap.push _) s.drawn [] _ _ (pp.map (·.2)) (Nat.le_refl _) (by rw[Heap.size_push];exact Nat.lt_succ_self _) (fun b hb=>by simp at hb) (fun b o q=>Heap.get?_push_of_some _ q) ⟨Heap.get?_push_size _ rfl,S.at fun o q=>Heap.get?_push_of_some _ q⟩
    (fun B hB=>C5 (ep:=ep) (t:=t) hB yE hb sz)
  | false=>
   exact h s.heap.objs.size (s.heap.push _) s.drawn [] _ _ (.refl _) (Nat.le_refl _) (by rw[Heap.size_push];exact Nat.lt_succ_self _) (fun b hb=>by simp at hb) (fun b o q=>Heap.get?_push_of_some _ q) ⟨Heap.get?_push_size _ rfl,S.at fun o q=>Heap.get?_push_of_some _ q⟩
    (fun B hB=>C6 (ep:=ep) (t:=t) hB yE hb)
theorem zT {a:Addr} {es:Array (Int×Value)} {ep:Nat} {t:SetTable} {Q:List Value→Shared→Prop} (S:ft w s.heap a es ep t) (hh:A.handled=none)
  (h:∀(h':Heap) (tk:Nat) (d':Drawn) (acc:List Value),(∀b o,s.heap.get? b=some o→h'.get? b=some o)→acc.Perm (es.toList.map (·.2))→Q acc {s with heap:=h',toks:=tk,drawn:=d'}):
  wpAny (model P w) A (collect (.ref a)) Q E s:=by
 obtain⟨o,ho,hex,hd⟩:=S.obj
 have la:a<s.heap.objs.size:=Heap.lt_size ho
 unfold collect
 refine wpAny_bind (wpAny_runValue (codeAny_builtin entry_proto_collect' ?_))
 rw[Around.under_plainId PySem.F.plain_proto_collect]
 show wpAny (model P w) A.in1 (newList [] >>= fun l=>again (.builtin "list.__iadd__" ⟨[l,.ref a],[]⟩)) _ _ s
 refine wpAny_bind (wpAny_newObj_type ?_)
 refine wpAny_pure ⟨plainId_quiet PySem.F.plain_list_iadd _,codeAny_builtin entry_list_iadd' ?_⟩
 rw[Around.under_plainId PySem.F.plain_list_iadd]
 have g1:(s.heap.push {cls:=.type "list",data:=.seq ([]:List Value).toArray}).get? s.heap.objs.size=some {cls:=.type "list",data:=.seq #[]}:=Heap.get?_push_size _ rfl
 have z1:(s.heap.push {cls:=.type "list",data:=.seq ([]:List Value).toArray}).objs.size=s.heap.objs.size+1:=Heap.size_push ..
 have k1:∀b o,s.heap.get? b=some o→(s.heap.push {cls:=.type "list",data:=.seq ([]:List Value).toArray}).get? b=some o:=fun b o q=>Heap.get?_push_of_some _ q
 show wpAny (model P w) A.in1 (Builtin.List.listExtendWith (.ref s.heap.objs.size) (.ref a) (.ref s.heap.objs.size)) _ _ _
 generalize s.heap.push {cls:=.type "list",data:=.seq ([]:List Value).toArray}=h1 at g1 z1 k1 ⊢
 have S1:ft w h1 a es ep t:=S.at fun o q=>k1 a o q
 have T1:Shared.TypeIs {s with heap:=h1} (.ref a) "set":=⟨o,k1 a o ho,hex.1⟩
 unfold Builtin.List.listExtendWith
 refine wpAny_bind (wpAny_typeOf T1 ?_)
 have n1:Builtin.List.listSameRef (.ref s.heap.objs.size) (.ref a)=false:=by simp[Builtin.List.listSameRef];exact Nat.ne_of_gt la
 rw[if_neg (by rw[n1];decide)]
 refine wpAny_bind (FL (s:={s with heap:=h1}) S1 fun I h2 d2 fx vs' St pv Lh ltI QS k2 st W=>?_)
 refine wpAny_bind (wpAny_holding (CM ⟨o,k2 a o (k1 a o ho),hex.1⟩ ?_))
 refine wpAny_ite_split (fun _=>?_) (fun hab=>absurd (by decide+kernel) hab)
 have lS:s.heap.objs.size<h1.objs.size:=by rw[z1];exact Nat.lt_succ_self _
 have nf:s.heap.objs.size ∉ I::a::fx:=fun m=>by
  rcases List.mem_cons.mp m with q | m
  ·exact absurd Lh (by rw[←q];exact Nat.not_le.mpr lS)
  ·rcases List.mem_cons.mp m with q | m
   ·exact absurd la (by rw[←q];exact Nat.lt_irrefl _)
   ·exact absurd (QS _ m).1 (Nat.not_le.mpr lS)
 refine wpAny_bind (wpAny_rule (wpAny_bind ?_))
 have g2:=k2 _ _ g1
 show wpAny (model P w) A.in1 (updateSeq s.heap.objs.size (·.push .none) >>= fun _=>updateSeq s.heap.objs.size (·.pop)) _ _ _
 refine wpAny_bind (wpAny_updateSeq g2 rfl ?_)
 have g3:=Heap.get?_update_self (Obj.mapSeq (·.push Value.none)) g2 rfl
 refine wpAny_updateSeq (hz:=by seq_fits) g3 rfl ?_
 have g4:=Heap.get?_update_self (Obj.mapSeq (·.pop)) g3 rfl
 have k4:∀b o,b≠s.heap.objs.size→h2.get? b=some o→((h2.update s.heap.objs.size (Obj.mapSeq (·.push Value.none))).update s.heap.objs.size (Obj.mapSeq (·.pop))).get? b=some o:=fun b o nb q=>
  (Heap.get?_update_other _ _ (Ne.symm nb)).trans ((Heap.get?_update_other _ _ (Ne.symm nb)).trans q)
 have rP:=(W A.in1 hh).frame 0 _ _ st fun b hb o q=>k4 b o (fun z=>nf (z▸hb)) q
 refine wpAny_pure ⟨plainId_quiet PySem.F.plain_extend_loop _,codeAny_extend_loopS (W A.in1 hh).toS (S.line) s.heap.objs.size nf _ es.size 0 _ #[] _ rfl (Nat.zero_le _) rP g4 (ItemsOf.nil _) fun s' acc' c' hm hS' hacc=>?_⟩
 show wpAny (model P w) A (load s.heap.objs.size >>= _) _ _ s'
 refine wpAny_bind (wpAny_load hS' ?_)
 refine wpAny_pure ?_
 rw[Moved.eq_with hm]
 refine h s'.heap s'.toks d2 acc'.toList (fun b o q=>hm.heap b o (fun m=>?_) (k4 b o (Nat.ne_of_lt (Heap.lt_size q)) (k2 b o (k1 b o q)))) ?_
 ·have lb:=Heap.lt_size q
  rcases List.mem_cons.mp m with z | m
  ·exact absurd lb (by rw[z];exact Nat.lt_irrefl _)
  ·have z:=List.mem_singleton.mp m
   exact absurd (Nat.lt_trans lb lS) (by rw[z];exact Nat.not_lt.mpr Lh)
 ·have:acc'.toList=vs':=List.ext_getElem? fun i=>by
   by_cases hi:i<es.size
   ·obtain⟨v,hv⟩:∃v,acc'[i]? =some v:=⟨_,Array.getElem?_eq_getElem (by rw[hacc.1];exact hi)⟩
    rw[Array.getElem?_toList,hv]
    exact(hacc.2 i v hv).symm
   ·rw[List.getElem?_eq_none (by rw[Array.length_toList,hacc.1];omega),List.getElem?_eq_none (by rw[pv.length_eq,List.length_map,Array.length_toList];omega)]
  rw[this]
  exact pv
end
section
variable {P:Program} {w:World} {A:Around} {E:Value→Shared→Prop}
def kF (P:Program) (w:World) (A:Around) (h:Heap) (v:Value) (n:Int):Prop:=∀(E:Value→Shared→Prop) (s:Shared) (Q:Int→Shared→Prop),s.heap=h→(∀tk,s.toks≤tk→Q n {s with toks:=tk})→wpAny (model P w) A (pyHash v) Q E s
theorem oC {h:Heap}:∀{vs:List Value} {ns:List Int} {s:Shared} {b:Array Int} {Q:Array Int→Shared→Prop},Paired (kF P w A h) vs ns→s.heap=h→(∀tk b',s.toks≤tk→b'.toList=b.toList++ns→Q b' {s with toks:=tk})→
  wpAny (model P w) A (forIn vs b fun x r=>do let n ←pyHash x;pure PUnit.unit;pure (ForInStep.yield (r.push n))) Q E s
 | _,_,s,b,Q,.nil,_,q=>wpAny_pure (q s.toks b (Nat.le_refl _) (by simp))
 | _,_,s,b,Q,.cons hv ht,e,q=>by
  rw[List.forIn_cons]
  refine wpAny_bind (wpAny_bind (hv E s _ e fun tk htk=>?_))
  refine wpAny_bind (wpAny_pure (wpAny_pure ?_))
  exact oC ht (s:={s with toks:=tk}) e fun tk' b' h' hb=>q tk' b' (Nat.le_trans htk h') (by simp[hb])
theorem sC {h:Heap} {a:Addr} {vs:List Value} {ns:List Int} (hu:A.units<cLine) (ht:IsTup h a vs.toArray) (hi:Paired (kF P w A.in1 h) vs ns):kF P w A h (.ref a) (reduceHash (Builtin.Tuple.tupleHashOf ns)):=by
 intro E s Q e q
 subst e
 obtain⟨o,ho,hc,n,hd⟩:=ht
 refine PySem.W.pyHash_slot (T:="tuple") ⟨o,ho,hc⟩ PySem.F.slot_tuple_hash PySem.F.entry_tuple_hash (PySem.F.args_tuple_hash_1 _) (beq_builtin_none _) (.inr hu) ?_
 show wpAny _ _ (Builtin.Tuple.tupleItemsOf (.ref a) >>= _) _ _ s
 refine wpAny_bind (wpAny_tupleItemsOf ho hd (wpAny_bind ?_))
 rw[←Array.forIn_toList]
 refine oC (b:= #[]) hi rfl fun tk b htk hb=>?_
 show wpAny _ _ (retInt (Builtin.Tuple.tupleHashOf b.toList)) _ _ _
 rw[hb,List.nil_append]
 exact wpAny_bind (wpAny_mkInt (wpAny_pure ⟨_,_,rfl,q _ (Nat.le_succ_of_le htk)⟩))
theorem sH {h:Heap} (i:Int) (t:Tok):kF P w A h (.int i t) (PySem.W.hashW w.params (.int i)):=fun E s Q e q=>wpAny_pyHash_int (PySem.W.hashW_int w.params i▸q _ (Nat.le_succ _))
theorem qc {h:Heap}:∀{vs:List Value} {ns:List Int},IntsAre vs ns→Paired (kF P w A h) vs (ns.map fun i=>PySem.W.hashW w.params (.int i))
 | _,_,.nil=>.nil
 | _,_,.cons a t r=>.cons (sH a t) (qc r)
theorem cp.Ib {h:Heap} {u:Value} {m:Mark} (hu:A.units+2<cLine) (x:cp h u m):kF P w A h u (eV w m):=by
 obtain⟨a,b,t,rfl,h1,vs,h2,i⟩:=x
 have in1:A.in1.units≤A.units+1:=by simp[Around.in1_units]
 exact sC (by omega) h1 (.cons (sH _ t) (.cons (sC (by omega) h2 (qc i)) .nil))
end
section
variable {P:Program} {w:World} {A:Around} {R:Result→Shared→Prop} {I S:Addr} {fp wr:List Addr} {G:Array GenState→Array GenState→Prop} {n:Nat} {St:Nat→Shared→Prop}
theorem Bp {h0:Heap} {its:Array Value} (W:WalksS P w A.in1 I fp wr G n (fun i v=>its[i]? =some v) St) (hSf:S ∉ fp) (hT:∀i s,St i s→∀b∈wr,∀o,s.heap.get? b=some o→o.cls≠.type "tuple")
  (its':Array Value) (xs:List Mark) (hn:its.size=n) (hi:Paired (cp h0) its.toList xs) (hb:n≤64) (hu:A.in1.units+4<cLine):
  ∀(k i:Nat) (s:Shared) (es:Array (Int×Value)) (ep:Nat) (t:SetTable) (ks:List Mark),n-i=k→i≤n→St i s→su h0 s.heap→gx w s.heap S es ep t ks→(∀y,y∈ks↔y∈xs.take i)→ks.length≤i→(∀v∈es.toList.map (·.2),v∈its.toList)→
   (∀s' es' ep' t' ks',Moved (S::wr) G s s'→gx w s'.heap S es' ep' t' ks'→(∀y,y∈ks'↔y∈xs)→(∀v∈es'.toList.map (·.2),v∈its.toList)→R (.ok (.ret .none)) s')→
   codeAny (model P w) A (.builtin "set.update.loop" ⟨[.ref S,.ref I],[]⟩) R s:=by
 have hSw:S ∉ wr:=fun z=>hSf (W.sub _ z)
 have more:∀b∈wr,b∈S::wr:=fun b z=>List.mem_cons_of_mem _ z
 have kt:∀{i:Nat} {s s':Shared},St i s→Moved wr G s s'→su s.heap s'.heap:=fun {i s s'} st mv b o e hc=>mv.heap b o (fun z=>hT i s st b z o e hc) e
 intro k
 induction k with
 | zero=>
  intro i s es ep t ks hk hi' st kp hS hm hl qR hR
  have e:i=n:=by omega
  subst e
  refine codeAny_builtin PyProof.Rows.F.entry_set_update_loop ?_
  rw[Around.under_plainId PyProof.Rows.F.plain_set_update_loop]
  show wpAny (model P w) A.in1 (pyNext (.ref I) >>= _) _ _ s
  refine wpAny_bind (W.done s _ _ st fun s' mv=>?_)
  show wpAny (model P w) A.in1 (ret Value.none) _ _ s'
  refine wpAny_pure (hR s' es ep t ks (mv.mono more) (hS.at (fun o q=>mv.heap S o hSw q) (kt st mv)) (fun y=>?_) qR)
  rw[hm y,List.take_of_length_le (by have:=dh hi;rw[Array.length_toList] at this;omega)]
 | succ k ih=>
  intro i s es ep t ks hk hi' st kp hS hm hl qR hR
  have lt:i<n:=by omega
  refine codeAny_builtin PyProof.Rows.F.entry_set_update_loop ?_
  rw[Around.under_plainId PyProof.Rows.F.plain_set_update_loop]
  show wpAny (model P w) A.in1 (pyNext (.ref I) >>= _) _ _ s
  refine wpAny_bind (W.item i s _ _ lt st fun v s' hv st' mv=>?_)
  obtain⟨m,ex,x0⟩:=fk hi (show its.toList[i]? =some v by rw[Array.getElem?_toList];exact hv)
  have k1:=kt st mv
  have Ic:su h0 s'.heap:=fun b o e hc=>k1 b o (kp b o e hc) hc
  have x:cp s'.heap v m:=x0.kp Ic
  have hS':gx w s'.heap S es ep t ks:=hS.at (fun o q=>mv.heap S o hSw q) k1
  have tk1:∀y,y∈xs.take (i+1)↔y∈xs.take i∨y=m:=fun y=>by rw[List.take_add_one,ex];simp
  have vi:v∈its.toList:=List.mem_of_getElem? (show its.toList[i]? =some v by rw[Array.getElem?_toList];exact hv)
  show wpAny (model P w) A.in1 (holding [v] (setAdd S v) >>= _) _ _ s'
  refine wpAny_bind (wpAny_holding ?_)
  unfold setAdd
  refine wpAny_holding (wpAny_bind (x.Ib (by omega) _ s' _ rfl fun tk htk=>?_))
  refine C4 (s:={s' with toks:=tk}) hS' (by omega) x (by omega) (fun hx=>?_) (fun hx h' es' ep' t' ks' sb S2 m2 Nm=>?_)
  ·refine wpAny_pure ⟨plainId_quiet PyProof.Rows.F.plain_set_update_loop _,ih (i+1) _ es ep t ks (by omega) lt (W.frame _ s' s'.heap _ st' htk fun b _ o q=>q) Ic hS' (fun y=>?_) (by omega) qR fun s2 es2 Ig t2 Bq mv2 S2 m2 l2=>?_⟩
   ·rw[hm y,tk1 y]
    constructor
    ·exact .inl
    ·rintro(z | z)
     ·exact z
     ·rw[z];exact(hm m).mp hx
   ·exact hR s2 es2 Ig t2 Bq (Moved.trans W.gtrans ((mv.mono more).then_heap htk fun b o _ q=>q) mv2) S2 m2 l2
  ·have H_:=qb sb fun o2 e2=>by obtain⟨o,ho,hex,_⟩:=hS'.obj;rw[ho] at e2;cases e2;rw[hex.1];decide
   refine wpAny_pure ⟨plainId_quiet PyProof.Rows.F.plain_set_update_loop _,ih (i+1) _ es' ep' t' ks' (by omega) lt (W.frame _ s' h' _ st' htk fun b hb o q=>?_) (fun b o e hc=>H_ b o (Ic b o e hc) hc) S2 (fun y=>?_) (by have:=m2.length_eq;rw[List.length_cons] at this;omega) (fun z hz=>?_) fun s2 es2 Ig t2 Bq mv2 S2 m2 l2=>?_⟩
   ·exact(sb.2 b (fun z=>hSf (z▸hb))).trans q
   ·rw[m2.mem_iff,List.mem_cons,hm y,tk1 y]
    exact Or.comm
   ·rcases List.mem_cons.mp (Nm.mem_iff.mp hz) with z | z
    ·rw[z];exact vi
    ·exact qR _ z
   ·exact hR s2 es2 Ig t2 Bq (Moved.trans W.gtrans ((mv.mono more).then_heap htk fun b o hb q=>(sb.2 b (fun z=>hb (z▸List.mem_cons_self))).trans q) mv2) S2 m2 l2
end
section
variable {P:Program} {w:World} {A:Around} {E:Value→Shared→Prop} {s:Shared}
theorem xr (h:Heap):gx w (h.push (dS w)) h.objs.size #[] 0 (.fresh 0 0 (!w.params.followText "set-order")) []:=
 ⟨⟨_,Heap.get?_push_size _ rfl,⟨rfl,rfl,rfl⟩,rfl⟩,⟨[],⟨.inl rfl,rfl,rfl,by simp,fun e he=>by simp at he,by simp,fun e he=>by simp at he⟩,rfl⟩,rfl,rfl,by show 0*5<7*3;omega,.nil,by simp,by simp⟩
theorem vt {l:Addr} {its:Array Value} {xs:List Mark} {Q:Value→Shared→Prop} (hh:A.handled=none) (hu:A.units+12<cLine) (hl:s.heap.IsList l its) (hi:Paired (cp s.heap) its.toList xs) (hb:its.size≤64)
  (h:∀(h':Heap) (tk:Nat) es ep t ks,gx w h' s.heap.objs.size es ep t ks→(∀y,y∈ks↔y∈xs)→(∀v∈es.toList.map (·.2),v∈its.toList)→(∀b o,b<s.heap.objs.size→s.heap.get? b=some o→h'.get? b=some o)→Q (.ref s.heap.objs.size) {s with heap:=h',toks:=tk}):
  wpAny (model P w) A (call (.type "set") [.ref l]) Q E s:=by
 obtain⟨c,tl,hmro⟩:=PySem.F.called_set.mro
 have hmade:=PySem.F.called_set.made
 have hsub:=PySem.F.called_set.sub
 refine wpAny_call (codeAny_of_tree ?_)
 show wpAny _ _ (callAny (.type "set") _) _ _ _
 refine wpAny_pure ⟨Code.quiet_builtin _ (by decide+kernel),codeAny_builtin PySem.F.entry_type_call ?_⟩
 rw[Around.under_plain (weight_type_call_type "set" [.ref l] []) rfl]
 have a1:=PySem.F.called_set.notType
 have a2:=PySem.F.called_set.canCreate
 have a3:=PySem.F.typeCall_set_1 (.ref l)
 repeat (any_goals (first | assumption | wp_step))
 refine codeAny_mono (CL (.ref l) (E:=E) (Q:=fun obj s₁=>obj=.ref s.heap.objs.size∧s₁={s with heap:=s.heap.push (dS w)}) ⟨rfl,rfl⟩) fun r s₁ hr=>?_
 cases r with
 | error e=>exact hr
 | ok fl=>
  cases fl with
  | ret obj=>
   obtain⟨rfl,rfl⟩:=hr
   have gS:(s.heap.push (dS w)).get? s.heap.objs.size=some (dS w):=Heap.get?_push_size _ rfl
   have hT:Shared.TypeIs {s with heap:=s.heap.push (dS w)} (.ref s.heap.objs.size) "set":=⟨_,gS,rfl⟩
   have a4:=PySem.F.called_set.init.lookup
   have a5:=PySem.F.called_set.init.bind (.ref s.heap.objs.size)
   repeat (any_goals (first | assumption | wp_step))
   refine codeAny_mono (codeAny_call_builtin (R:=wants (fun r s₂=>r=.none∧∃h' tk es ep t ks,s₂={s with heap:=h',toks:=tk}∧gx w h' s.heap.objs.size es ep t ks∧(∀y,y∈ks↔y∈xs)∧(∀v∈es.toList.map (·.2),v∈its.toList)∧
     (∀b o,b<s.heap.objs.size→s.heap.get? b=some o→h'.get? b=some o)) E) PySem.F.called_set.init.plain PySem.F.entry_set_init (check_set_init_1 hT ?_)) fun r₂ s₂ hr₂=>?_
   ·obtain⟨ol,hol,hcl,nl,hdl⟩:=hl
    obtain⟨ocls,odict,odata,oslots⟩:=ol
    simp only at hcl hdl
    subst hcl hdl
    have hol':(s.heap.push (dS w)).get? l=some {cls:=.type "list",dict:=odict,data:=.seq its nl,slots:=oslots}:=Heap.get?_push_of_some _ hol
    have b1:=PySem.F.sub_list_set
    have b2:=PySem.F.sub_list_frozenset
    have b3:(Value.type "list" == Value.type "dict")=false:=by decide
    have hl1:(s.heap.push (dS w)).IsList l its:=⟨_,hol',rfl,nl,rfl⟩
    unfold Builtin.«set.__init__» noKeywords Builtin.Frozenset.updateFrom
    generalize hPI:pyIter=PI
    wp_walk
    subst hPI
    refine wpAny_pyIter_list hl1 ?_
    refine wpAny_bind (wpAny_runValue ?_)
    have lS:l<s.heap.objs.size:=Heap.lt_size hol
    have hh3:A.in1.in1.in1.handled=none:=by simp[hh]
    have yE:l≠(s.heap.push (dS w)).objs.size:=by rw[Heap.size_push];exact Nat.ne_of_lt (Nat.lt_succ_of_lt lS)
    have nf:s.heap.objs.size ∉ [(s.heap.push (dS w)).objs.size,l]:=by
     rw[Heap.size_push]
     simp only[List.mem_cons,List.not_mem_nil,or_false,not_or]
     exact⟨Nat.ne_of_lt (Nat.lt_succ_self _),Nat.ne_of_gt lS⟩
    have lx:=dh hi
    rw[Array.length_toList] at lx
    have UM:A.in1.in1.in1.units≤A.units+3:=by simp only[Around.in1_units];omega
    refine Bp (h0:=s.heap) ((Walks.list hh3 _ l yE its).toS) nf (fun i s' st b hb o e=>?nt) its xs (by omega) hi hb (by omega) (its.size-0) 0 _ #[] 0 _ [] (by omega) (Nat.zero_le _) ⟨⟨_,Heap.get?_push_size _ rfl,rfl,rfl⟩,hl1.push _⟩ (fun b o e _=>Heap.get?_push_of_some _ (Heap.get?_push_of_some _ e)) ((xr s.heap).at (fun o q=>Heap.get?_push_of_some _ q) fun b o q _=>Heap.get?_push_of_some _ q) (fun y=>by simp) (Nat.le_refl _) (fun v hv=>by simp at hv) ?hR
    case nt=>
     obtain⟨⟨oI,eI,cI,_⟩,_⟩:=st
     rw[List.mem_singleton.mp hb,eI] at e
     cases e
     rw[cI];decide
    case hR=>
     intro s' es' ep' t' ks' hm hS' hmem hlen
     obtain⟨h',g',d',tk',os'⟩:=s'
     have eg:g'=s.gens:=hm.gens
     have ed:d'=s.drawn:=hm.drawn
     have eo:os'=s.os:=hm.os
     subst eg ed eo
     show wpAny _ _ _ _ _ _
     refine wpAny_pure ?_
     show wpAny _ _ (ret Value.none) _ _ _
     refine wpAny_pure ⟨rfl,h',tk',es',ep',t',ks',rfl,hS',hmem,hlen,fun b o hb e=>?_⟩
     refine hm.heap b o ?_ (Heap.get?_push_of_some _ (Heap.get?_push_of_some _ e))
     simp only[List.mem_cons,List.not_mem_nil,or_false,not_or]
     rw[Heap.size_push]
     exact⟨Nat.ne_of_lt hb,Nat.ne_of_lt (Nat.lt_succ_of_lt hb)⟩
   ·cases r₂ with
    | error e=>exact hr₂
    | ok fl₂=>
     cases fl₂ with
     | ret r=>
      obtain⟨rfl,h',tk,es,ep,t,ks,rfl,hS',hm,HY,hk'⟩:=hr₂
      repeat (any_goals (first | assumption | wp_step))
      exact h _ _ _ _ _ _ hS' hm HY hk'
     | _=>exact hr₂.elim
  | _=>exact hr.elim
theorem qd:∀{h:Heap} {vs:List Value},(∀v∈vs,∃m,cp h v m)→∃fs:List Value,PySem.W.KatTups h vs fs∧fs.length=vs.length∧∀v∈fs,∃i t,v=.int i t
 | h,[],_=>⟨[],PySem.W.KatTups.nil,rfl,fun v hv=>by cases hv⟩
 | h,v::vs,hv=>by
  obtain⟨fs,k,l,f⟩:=qd fun v q=>hv v (List.mem_cons_of_mem _ q)
  obtain⟨m,a,b,t,rfl,⟨o,ho,hc,n,hd⟩,_⟩:=hv _ List.mem_cons_self
  refine⟨.int m.1 t::fs,PySem.W.KatTups.cons ho hc hd rfl k,by rw[List.length_cons,List.length_cons,l],fun v q=>?_⟩
  rcases List.mem_cons.mp q with z | z
  ·exact⟨_,_,z⟩
  ·exact f v z
theorem qe {a:Addr} {vs:List Value} {n:Nat} {Q:PySem.Fin→Shared→Prop} (ho:s.heap.get? a=some (seqObj "list" vs.toArray n)) (hm:∀v∈vs,∃m,cp s.heap v m) (h64:vs.length≤64) (hu:A.units+2<cLine)
  (h:∀out:Array Value,out.toList.Perm vs→Q (.done (.ret .none)) {s with heap:=sortedHeap s.heap a vs out}):
  wpAny (model P w) A (Builtin.«list.sort» ⟨[.ref a],[]⟩) Q E s:=by
 rw[list_sort_plain]
 have ha:a<s.heap.objs.size:=Heap.lt_size ho
 refine wpAny_bind (listItems_at ho rfl ?_)
 refine wpAny_bind (listUpdate_at ho rfl ?_)
 obtain⟨e1,ho1⟩:∃e1,(s.heap.update a (Obj.mapSeq fun _=> #[])).get? a=some (seqObj "list" #[] e1):=⟨_,get?_update_seq ho (fun _=> #[])⟩
 refine wpAny_bind (seqEpoch_at ho1 rfl ?_)
 refine wpAny_bind (wpAny_newTuple ?_ (by rw[sizeLine_eq];simp;omega))
 refine wpAny_bind (wpAny_newList ?_)
 refine wpAny_holding ?_
 have ho6:(((s.heap.update a (Obj.mapSeq fun _=> #[])).push (seqObj "tuple" vs.toArray 0)).push (seqObj "list" #[] 0)).get? a=some (seqObj "list" #[] e1):=by
  rw[Heap.get?_push_ne _ _ _ (by rw[size_push',Heap.size_update];exact Nat.ne_of_lt (Nat.lt_succ_of_lt ha)),Heap.get?_push_ne _ _ _ (by rw[Heap.size_update];exact Nat.ne_of_lt ha)]
  exact ho1
 show wpAny (model P w) A _ Q E {s with heap:=((s.heap.update a (Obj.mapSeq fun _=> #[])).push (seqObj "tuple" vs.toArray 0)).push (seqObj "list" #[] 0)}
 dsimp only
 have hsz:vs.toArray.size=vs.length:=by simp
 have kt:su s.heap (((s.heap.update a (Obj.mapSeq fun _=> #[])).push (seqObj "tuple" vs.toArray 0)).push (seqObj "list" #[] 0)):=fun b o e hc=>by
  have:=qb (Heap.SameBut.update s.heap a (Obj.mapSeq fun _=> #[])) (fun o2 e2=>by rw[ho] at e2;cases e2;exact(by decide:Value.type "list"≠Value.type "tuple")) b o e hc
  exact Heap.get?_push_of_some _ (Heap.get?_push_of_some _ this)
 have hm':∀v∈vs,∃m,cp (((s.heap.update a (Obj.mapSeq fun _=> #[])).push (seqObj "tuple" vs.toArray 0)).push (seqObj "list" #[] 0)) v m:=fun v hv=>let ⟨m,x⟩:=hm v hv;⟨m,x.kp kt⟩
 have fin:∀st':SortSt,(arrOf st').Perm (pairsOf vs)→Q (.done (.ret .none)) {s with heap:=sortedHeap s.heap a vs ((arrOf st').map (·.2))}:=fun st' hp=>h _ (by
  have:=(Array.perm_iff_toList_perm.mp hp).map (·.2)
  rw[Array.toList_map]
  refine this.trans (List.Perm.of_eq ?_)
  rw[pairsOf_toList]
  exact List.map_snd_zip (Nat.le_refl _))
 by_cases h2:vs.toArray.size<2
 ·rw[if_pos h2,if_pos h2]
  refine wpAny_bind (wpAny_pure ?_)
  rw[StateT.run_pure]
  refine wpAny_bind (wpAny_pure ?_)
  dsimp only
  refine wpAny_bind (seqEpoch_at ho6 rfl ?_)
  refine wpAny_bind (listUpdate_at ho6 rfl ?_ (hsz2:=by rw[Array.size_map];show(pairsOf vs).size≤_;rw[pairsOf_size,sizeLine_eq];omega))
  simp only[bne_self_eq_false,Bool.false_eq_true,if_false]
  exact wpAny_pure (fin (SortSt.mk' general' (vs.toArray.zip vs.toArray) #[] 7 none) (Array.Perm.refl _))
 ·rw[if_neg h2,if_neg h2]
  obtain⟨fs,kk,lf,hf⟩:=qd hm'
  refine wpAny_bind (PySem.W.kat_kind (T:=.type "int") kk (by omega) (fun v hv=>?_) (by decide) ?_)
  ·obtain⟨i,t,rfl⟩:=hf v hv
   exact PySem.W.Looks.of_pure rfl
  rw[show(Value.type "int" != Value.type "tuple")=true by decide]
  refine wpAny_bind (wpAny_mono (SR.FK (a₀:=pairsOf vs) (κ:=tuples' true) (st:=SortSt.mk' (tuples' true) (vs.toArray.zip vs.toArray) #[] 7 none) (Q:=fun _ st'=>(arrOf st').Perm (pairsOf vs)∧failedOf st'=none)
   (fun p hp q hq=>?_) ⟨Array.Perm.refl _,rfl,rfl,rfl⟩ fun st' a1 a2=>⟨a1,a2⟩) ?_ fun _ _ e=>e)
  ·rw[pairsOf_toList] at hp hq
   obtain⟨m,x⟩:=hm' p.1 (List.of_mem_zip hp).1
   obtain⟨m',y⟩:=hm' q.1 (List.of_mem_zip hq).1
   exact cp.lt hu x y
  rintro⟨⟨⟩,st'⟩ s' ⟨rfl,hp,hf⟩
  dsimp only
  refine wpAny_bind (seqEpoch_at ho6 rfl ?_)
  refine wpAny_bind (listUpdate_at ho6 rfl ?_ (hsz2:=by refine Nat.le_trans (Nat.le_of_eq ((Array.size_map ..).trans (hp.size_eq.trans (pairsOf_size _)))) ?_;rw[sizeLine_eq];omega))
  rw[hf]
  simp only[bne_self_eq_false,Bool.false_eq_true,if_false]
  exact wpAny_pure (fin st' hp)
end
def fH (H:Hp) (v:V) (m:Mark):Prop:=∃p q,v=.ref p∧H p=some (.tup [.int m.1,.ref q])∧H q=some (.tup (m.2.map V.int))
theorem fH.inj {H:Hp} {v:V} {m m':Mark} (x:fH H v m) (y:fH H v m'):m=m':=by
 obtain⟨p,q,rfl,h1,h2⟩:=x
 obtain⟨p',q',e,h1',h2'⟩:=y
 cases e
 rw[h1] at h1'
 simp only[Option.some.injEq,HO.tup.injEq,List.cons.injEq,V.int.injEq,V.ref.injEq,and_true] at h1'
 obtain⟨e1,rfl⟩:=h1'
 rw[h2] at h2'
 simp only[Option.some.injEq,HO.tup.injEq] at h2'
 exact Prod.ext e1 (u6 h2')
section
variable {X:Cx} {pins:List (Addr×Obj)} {σ:St} {H:Hp} {s:Shared}
theorem ints_of:∀{ns:List Int} {us:List Value},Vals (ns.map V.int) us→IntsAre us ns
 | [],_,h=>by cases h;exact .nil
 | n::ns,_,h=>by
  cases h with
  | cons a r=>
   obtain⟨t,rfl⟩:=a
   exact .cons n t (ints_of r)
theorem fH.v {v:V} {u:Value} {m:Mark} (x:fH H v m) (I:Inv X pins σ H s) (r:RelV v u):cp s.heap u m:=by
 obtain⟨p,q,rfl,h1,h2⟩:=x
 cases r
 obtain⟨its,rv,ht,_⟩:=I.tuple (.of h1)
 obtain⟨its2,HE,QT,_⟩:=I.tuple (.of h2)
 cases rv with
 | cons a1 rv=>
  cases rv with
  | cons a2 rv=>
   cases rv
   obtain⟨t,rfl⟩:=a1
   cases a2
   exact⟨p,q,t,rfl,ht,its2,QT,ints_of HE⟩
theorem fH.all {ws:List V} {us:List Value} {ms:List Mark} (I:Inv X pins σ H s) (r:Vals ws us):Paired (fH H) ws ms→Paired (cp s.heap) us ms:=by
 intro h
 induction h generalizing us with
 | nil=>cases r;exact .nil
 | cons x _ ih=>
  cases r with
  | cons a r=>exact .cons (x.v I a) (ih r)
def uj (w:World) (a:Addr) (as:List Addr):HO:=.ext fun h=>∃es ep t,ft w h a es ep t∧es.toList.map (·.2)=as.map Value.ref
def KA (X:Cx):List V→Hp→VK→Prop:=fun xs H Q=>∃(l:Addr) (ws:List V) (ms:List Mark),xs=[.ref l]∧bJ X.K H l ws∧Paired (fH H) ws ms∧ms.length≤64∧
 ∀(p:Addr) (as:List Addr) (c_:List Mark),H p=none→Paired (fun a m=>fH H (.ref a) m) as c_→c_.Nodup→(∀m,m∈c_↔m∈ms)→Q (.ref p) (upd H p (uj X.w p as))
theorem yL {h:Heap} {ws:List V} {its:List Value} {ms:List Mark} (rv:Vals ws its) (hw:Paired (fH H) ws ms) (hv:Paired (cp h) its ms):∀{l:List (Int×Value)} {ks:List Mark},Paired (fun e m=>cp h e.2 m∧e.1=eV X.w m) l ks→(∀v∈l.map (·.2),v∈its)→
  ∃as:List Addr,l.map (·.2)=as.map Value.ref∧Paired (fun a m=>fH H (.ref a) m) as ks
 | _,_,.nil,_=>⟨[],rfl,.nil⟩
 | _,_,.cons (a:=e) (b:=m) x r,hs=>by
  obtain⟨as,e1,p1⟩:=yL rv hw hv r fun v q=>hs v (List.mem_cons_of_mem _ q)
  obtain⟨a,b,t,eu,_⟩:=id x.1
  obtain⟨i,hi⟩:=List.getElem?_of_mem (hs e.2 (by simp))
  obtain⟨m',hm',y⟩:=fk hv hi
  obtain⟨v,HX,z⟩:=iq hw hm'
  obtain⟨u,hu,ru⟩:=rv.get HX
  rw[hi] at hu
  cases hu
  have em:m=m':=x.1.inj y
  subst em
  obtain⟨p,q,rfl,z1,z2⟩:=z
  rw[eu] at ru
  cases ru
  exact⟨a::as,by rw[List.map_cons,List.map_cons,e1,eu],.cons ⟨a,q,rfl,z1,z2⟩ p1⟩
theorem Br (hc:X.calm=true) (hA:X.A.units+16<cLine):cS X (.type "set") (KA X):=by
 intro pins s σ H xs us Q I r h
 obtain⟨l,ws,ms,rfl,hq,hw,hb,q⟩:=h
 obtain⟨u,rfl,ru⟩:=vals1 r
 cases ru
 obtain⟨its,rv,p,_⟩:=I.list hq
 have hv:=fH.all I rv hw
 have hl:=dh hv
 refine vt (I.ok.hd hc) (by omega) p.isList (xs:=ms) (by simpa using hv) (by simp;omega) fun h' tk es ep t ks S hm qR kp=>?_
 have k':∀b o,s.heap.get? b=some o→h'.get? b=some o:=fun b o e=>kp b o (Heap.lt_size e) e
 have hp:s.heap.objs.size≤s.heap.objs.size:=Nat.le_refl _
 obtain⟨as,e1,p1⟩:=yL (X:=X) rv hw (eX (fun a b x=>x.kp fun b o e _=>k' b o e) hv) S.vals (by simpa using qR)
 have I2:=I.laid (a:=s.heap.objs.size) (o:=uj X.w s.heap.objs.size as) (t':=tk) k' hp ⟨⟨es,ep,t,S.w,e1⟩,(let ⟨o,e,_⟩:=S.obj;⟨o,e⟩),fun h1 h2 ⟨es1,QU,t1,S1,p1⟩ k2=>⟨es1,QU,t1,S1.at k2,p1⟩⟩
 exact⟨.ref s.heap.objs.size,_,I2,rfl,q _ as ks (I.hok.fresh hp) p1 S.once hm⟩
def Ih (X:Cx):List V→Hp→VK→Prop:=fun xs H Q=>∃(a:Addr) (as:List Addr) (ms:List Mark),xs=[.ref a]∧H a=some (uj X.w a as)∧Paired (fun a m=>fH H (.ref a) m) as ms∧
 ∀(p:Addr) (as':List Addr),H p=none→as'.Perm as→Q (.ref p) (upd H p (.lst (as'.map V.ref)))
theorem vw {as:List Addr} {l:List Value} (p:l.Perm (as.map Value.ref)):∃as':List Addr,l=as'.map Value.ref∧as'.Perm as:=by
 have h:∀as:List Addr,Paired (fun(v:Value) (a:Addr)=>v=Value.ref a) (as.map Value.ref) as:=fun as=>by
  induction as with
  | nil=>exact .nil
  | cons a as ih=>exact .cons rfl ih
 have b:∀{l:List Value} {as:List Addr},Paired (fun(v:Value) (a:Addr)=>v=Value.ref a) l as→l=as.map Value.ref:=fun h=>by
  induction h with
  | nil=>rfl
  | cons x _ ih=>rw[List.map_cons,x,ih]
 obtain⟨as',x,y⟩:=jN p (h as)
 exact⟨as',b x,y⟩
theorem sI:∀as:List Addr,Vals (as.map V.ref) (as.map Value.ref)
 | []=>.nil
 | a::as=>.cons rfl (sI as)
theorem zU (hc:X.calm=true) (hA:X.A.units+16<cLine):cS X (.builtin "sorted") (Ih X):=by
 intro pins s σ H xs us Q I r h
 obtain⟨a,as,ms,rfl,ha,hw,q⟩:=h
 obtain⟨u,rfl,ru⟩:=vals1 r
 cases ru
 obtain⟨⟨es,ep,t,S,ev⟩,_,_⟩:=(show bp X.prog X.w H s.heap a (uj X.w a as) from I.hok a _ ha)
 have Li:X.A.in1.units≤X.A.units+1:=by simp only[Around.in1_units];omega
 refine Calls.call_function_entry kind_sorted plain_sorted entry_sorted (args_sorted1 _) ?_
 unfold Builtin.«sorted»
 (refine wpAny_bind (m:=checkCount "sorted" 1 1 _) (wpAny_pure ?_))
 refine wpAny_bind (zT (A:=X.A.in1) S (I.ok.hd hc) fun h' tk d' acc k pa=>?_)
 rw[ev] at pa
 obtain⟨as1,rfl,p1⟩:=vw pa
 have hl:(as1.map Value.ref).length≤64:=by
  have:=S.few
  have e:=congrArg List.length ev
  rw[List.length_map,List.length_map,Array.length_toList] at e
  rw[List.length_map,p1.length_eq]
  omega
 have hz:(as1.map Value.ref).length≤sizeLine:=by rw[sizeLine_eq];omega
 refine wpAny_bind (wpAny_newList ?_ hz)
 have hoL:(h'.push (seqObj "list" (as1.map Value.ref).toArray 0)).get? h'.objs.size=some (seqObj "list" (as1.map Value.ref).toArray 0):=Heap.get?_push_size _ rfl
 have hm:∀v∈as1.map Value.ref,∃m,cp (h'.push (seqObj "list" (as1.map Value.ref).toArray 0)) v m:=fun v hv=>by
  obtain⟨b,hb,rfl⟩:=List.mem_map.mp hv
  obtain⟨i,hi⟩:=List.getElem?_of_mem (p1.mem_iff.mp hb)
  obtain⟨m,_,x⟩:=fk hw hi
  exact⟨m,(x.v I rfl).kp fun b o e _=>Heap.get?_push_of_some _ (k b o e)⟩
 refine wpAny_bind (wpAny_holding (wpAny_call_entry slot_list_sort ⟨_,hoL,rfl⟩ entry_list_sort (qe hoL hm hl ?_ fun out po=>⟨_,rfl,?_⟩) (args_list_sort _)))
 ·simp only[Around.in1_units]
  omega
 obtain⟨as2,e2,p2⟩:=vw po
 have I1:Inv X pins σ H {s with heap:=h',toks:=tk,drawn:=d'}:=I.step (g':=s.gens) (d':=d') (ch:=[]) (fun b z=>by cases z) (fun b o _ _ _ e _=>k b o e) (fun b o _ _ _ e _=>⟨o.slots,k b o e⟩) (fun _ _ _ _ n=>n)
  (fun b o _ e=>⟨o,k b o e⟩) (fun _ _ e=>e) (fun _ _ _ e=>e) (fun b ps e=>⟨#[],by rw[e];simp⟩) (fun m ⟨ob,e1,e2,hb,r⟩=>⟨ob,e1,e2,k _ ob hb,r⟩) (fun b u e=>(I.hok b u e).stay (fun c v _ z=>k c v z) (fun _ z=>z) fun _ _ z=>z) I.bare
 obtain⟨e,he⟩:=sortedHeap_at (out:=out) hoL
 have kp:∀b u,h'.get? b=some u→(sortedHeap (h'.push (seqObj "list" (as1.map Value.ref).toArray 0)) h'.objs.size (as1.map Value.ref) out).get? b=some u:=fun b u eb=>by
  have lt:=Heap.lt_size eb
  rw[sortedHeap_old (Nat.ne_of_lt lt) (by rw[Heap.size_push];exact Nat.lt_succ_of_lt lt)]
  exact Heap.get?_push_of_some _ eb
 have I2:=I1.laid (a:=h'.objs.size) (o:=.lst (as2.map V.ref)) (t':=tk) kp (Nat.le_refl _) ⟨by rw[List.length_map,p2.length_eq];rw[List.length_map] at hz;exact hz,out.toList,e,by rw[e2];exact sI as2,he⟩
 exact wpAny_pure ⟨_,rfl,⟨.ref h'.objs.size,_,I2,rfl,q _ as2 (I1.hok.fresh (Nat.le_refl _)) (p2.trans p1)⟩⟩
end
section
variable {X:Cx}
def C7 (K:PySem.W.Frag):V→List V→Hp→VK→Prop:=fun x vs H Q=>∃(p:Addr) (ws:List V) (ts:List Mark) (t:Mark) (v:V) (j:Nat),x=.ref p∧vs=[v]∧bJ K H p ws∧Paired (fH H) ws ts∧fH H v t∧ts[j]? =some t∧(∀i,i<j→ts[i]? ≠some t)∧Q (.int (j:Nat)) H
theorem zV (K:PySem.W.Frag) (hu:X.A.units+8<cLine) (hK:X.K=K:=by rfl):yp X "list.index" (C7 K):=by
 subst hK
 intro pins s σ H x vs v us Q I rx rv h
 obtain⟨p,ws,ts,t,tv,j,rfl,rfl,hq,ht,tt,hj,hlt,q⟩:=h
 cases rx
 obtain⟨u,rfl,ru⟩:=rv.one
 obtain⟨its,r,⟨o,n,e,hc,hd,hs⟩,hz⟩:=I.list hq
 obtain⟨ocls,odict,odata,oslots⟩:=o
 simp only at hc hd hs
 subst hc hs
 have l1:=Vals.length r
 have l2:=dh ht
 have hj':=(List.getElem?_eq_some_iff.mp hj).1
 rw[sizeLine_eq] at hz
 have at':∀i (hi:i<its.toArray.size),∃(y:Mark) (yv:V),ts[i]? =some y∧fH H yv y∧RelV yv its.toArray[i]:=fun i hi=>by
  have hi':i<its.length:=by simpa using hi
  obtain⟨y,hy⟩:∃y,ts[i]? =some y:=⟨_,List.getElem?_eq_getElem (by omega)⟩
  obtain⟨yv,hv,ay⟩:=iq ht hy
  obtain⟨z,hz',rz⟩:=Vals.get r hv
  have:=(List.getElem?_eq_some_iff.mp hz').2
  exact⟨y,yv,hy,ay,by rw[List.getElem_toArray,this];exact rz⟩
 let ee:Value→Bool:=fun y=>@decide (∃yv,fH H yv t∧RelV yv y) (Classical.propDecidable _)
 have in1:X.A.in1.units≤X.A.units+1:=by simp[Around.in1_units]
 refine call_meets F.slot_list_index ⟨_,e,rfl⟩ F.entry_list_index (F.args_list_index_2 _ _) (SeqAt.list_indexAt p its.toArray n odict oslots u ee j (by simp;omega) (by omega) ?_ (fun m hm hlt'=>?_)) ⟨by subst hd;exact e,fun y hy=>?_,?_⟩
 ·obtain⟨y,yv,hy,ay,ry⟩:=at' j (by simp;omega)
  have:y=t:=Option.some.inj (hy.symm.trans hj)
  subst this
  exact @decide_eq_true _ (Classical.propDecidable _) ⟨yv,ay,ry⟩
 ·obtain⟨y,yv,hy,ay,ry⟩:=at' m hm
  refine @decide_eq_false _ (Classical.propDecidable _) fun⟨QV,Ii,Ij⟩=>?_
  have:=vb ry Ij
  subst this
  exact hlt m hlt' (by rw[hy,fH.inj ay Ii])
 ·obtain⟨m,hm,rfl⟩:=Array.mem_iff_getElem.mp hy
  obtain⟨y,yv,hy,ay,ry⟩:=at' m hm
  have h:=(ay.v I ry).C3 (A:=X.A.in1) (by omega) (tt.v I ru)
  have:ee its.toArray[m]=decide (y=t):=by
   by_cases Ik:y=t
   ·subst Ik
    rw[decide_eq_true rfl]
    exact @decide_eq_true _ (Classical.propDecidable _) ⟨yv,ay,ry⟩
   ·rw[decide_eq_false Ik]
    refine @decide_eq_false _ (Classical.propDecidable _) fun⟨QV,Ii,Ij⟩=>?_
    have:=vb ry Ij
    subst this
    exact Ik (fH.inj ay Ii)
  rw[this]
  exact h
 ·exact⟨.int (j:Nat),H,I.tok _,⟨_,rfl⟩,q⟩
end
end L2
namespace My
open PySem L2
def top (i:Nat):Stmt:=PySem.Challenge.pw_figurejudge_k77_turned_about.main.body.getD i (.Pass ⟨0,0,0,0⟩)
abbrev eK:Stmt:=top 1
abbrev fm:Stmt:=top 2
abbrev cF:Stmt:=top 3
abbrev eL:Stmt:=top 5
abbrev bA:Stmt:=top 8
abbrev dr:Stmt:=top 10
abbrev cO:Stmt:=top 11
abbrev dC:Stmt:=top 12
abbrev cM:Stmt:=top 13
abbrev di:Stmt:=top 14
abbrev dY:Stmt:=top 16
abbrev eO:Stmt:=top 18
abbrev bN:Stmt:=top 19
abbrev fq:Stmt:=top 20
abbrev gF:Stmt:=top 22
abbrev gy:Stmt:=top 23
abbrev ic:Stmt:=top 24
abbrev ie:Stmt:=top 25
abbrev fR:Stmt:=top 26
abbrev dj:Stmt:=top 27
abbrev bZ:Stmt:=top 28
abbrev dZ:Stmt:=top 29
abbrev i8:Stmt:=top 30
abbrev dN:Stmt:=top 31
abbrev iu:Stmt:=top 32
set_option genInjectivity false in
set_option genSizeOf false in
structure eY where
 gM:Addr
 iK:FuncData
 iw:Addr
 js:FuncData
 gN:Addr
 iL:FuncData
 gO:Addr
 iM:FuncData
 gP:Addr
 gk:FuncData
 vy:Addr
 gQ:Addr
 iN:FuncData
 gR:Addr
 iO:FuncData
 gm:Addr
 ig:FuncData
 iZ:Addr
 j1:FuncData
 jO:Addr
 lC:FuncData
 sJ:Addr
 bO:Addr
 ix:Addr
 jt:FuncData
 fI:Addr
 gn:FuncData
 fS:Addr
 gT:FuncData
 kG:Addr
 aZ:Addr
 iy:Addr
 ju:FuncData
 jP:Addr
 lD:FuncData
 lG:Addr
 mS:FuncData
 lH:Addr
 mT:FuncData
 lI:Addr
 mU:FuncData
 i_:Addr
 j3:FuncData
 iz:Addr
 jv:FuncData
 eG:Addr
 fJ:FuncData
 iA:Addr
 jw:FuncData
 og:Addr
 pj:FuncData
 jQ:Addr
 lJ:FuncData
 zW:Addr
 Bs:FuncData
structure Txt (K:PySem.W.Frag) (mg:Str→Option Value) (a:eY):Prop where
 vz:eJ K "figures_of" "figures_of" eK a.gM a.iK
 vA:mg "figures_of"=some (.ref a.gM)
 vB:PySem.W.keepIn K (.ref a.gM)=true
 vC:Binds K a.iK ["base","number"] []
 xt:eJ K "letter_at" "letter_at" fm a.iw a.js
 xu:mg "letter_at"=some (.ref a.iw)
 xv:PySem.W.keepIn K (.ref a.iw)=true
 xx:Binds K a.js ["base","rows","place"] []
 vD:eJ K "letters_of" "letters_of" cF a.gN a.iL
 vE:mg "letters_of"=some (.ref a.gN)
 vF:PySem.W.keepIn K (.ref a.gN)=true
 vG:Binds K a.iL ["base","numbers"] []
 vH:eJ K "room_after" "room_after" eL a.gO a.iM
 vI:mg "room_after"=some (.ref a.gO)
 vJ:PySem.W.keepIn K (.ref a.gO)=true
 vK:Binds K a.iM ["moves","room","figures"] []
 vL:qL K "grown_from" "grown_from" bA a.gP a.gk (.ref a.vy)
 mV:mg "grown_from"=some (.ref a.gP)
 mW:PySem.W.keepIn K (.ref a.gP)=true
 mX:Binds K a.gk ["first","many","onward","is_yes","most"] []
 Il:∃t,Binds K a.gk ["first","many","onward","is_yes","most"] [.int 2000 t]
 vM:eJ K "rooms_into" "rooms_into" dr a.gQ a.iN
 mY:mg "rooms_into"=some (.ref a.gQ)
 mZ:PySem.W.keepIn K (.ref a.gQ)=true
 m_:Binds K a.iN ["moves","letter"] []
 vN:eJ K "split_kind" "split_kind" cO a.gR a.iO
 vO:mg "split_kind"=some (.ref a.gR)
 vP:PySem.W.keepIn K (.ref a.gR)=true
 vQ:Binds K a.iO ["kind","some","kinds","members"] []
 tU:eJ K "split_kinds" "split_kinds" dC a.gm a.ig
 tV:mg "split_kinds"=some (.ref a.gm)
 tW:PySem.W.keepIn K (.ref a.gm)=true
 tX:Binds K a.ig ["some","kinds","members"] []
 zX:eJ K "kinds_of" "kinds_of" cM a.iZ a.j1
 zY:mg "kinds_of"=some (.ref a.iZ)
 zZ:PySem.W.keepIn K (.ref a.iZ)=true
 z_:Binds K a.j1 ["yes","moves"] []
 Bt:qL K "thinned" "thinned" di a.jO a.lC (.ref a.sJ)
 sN:PySem.W.codeHdIn K a.sJ a.bO=true
 sO:mg "thinned"=some (.ref a.jO)
 sQ:PySem.W.keepIn K (.ref a.jO)=true
 sU:Binds K a.lC ["machine"] []
 xy:eJ K "yes_rooms" "yes_rooms" dY a.ix a.jt
 xA:mg "yes_rooms"=some (.ref a.ix)
 xB:PySem.W.keepIn K (.ref a.ix)=true
 xC:Binds K a.jt ["machine"] []
 vR:eJ K "all_before" "all_before" eO a.fI a.gn
 vS:mg "all_before"=some (.ref a.fI)
 vT:PySem.W.keepIn K (.ref a.fI)=true
 vU:Binds K a.gn ["before","rooms"] []
 qS:qL K "turned_about" "turned_about" bN a.fS a.gT (.ref a.kG)
 kH:PySem.W.codeHdIn K a.kG a.aZ=true
 qT:mg "turned_about"=some (.ref a.fS)
 qU:PySem.W.keepIn K (.ref a.fS)=true
 qV:Binds K a.gT ["machine"] []
 xD:eJ K "says_down" "says_down" fq a.iy a.ju
 xE:mg "says_down"=some (.ref a.iy)
 xF:PySem.W.keepIn K (.ref a.iy)=true
 xG:Binds K a.ju ["base","machine","numbers"] []
 Bu:eJ K "_law_mixed" "_law_mixed" gF a.jP a.lD
 jR:mg "_law_mixed"=some (.ref a.jP)
 jS:PySem.W.keepIn K (.ref a.jP)=true
 jT:Binds K a.lD ["_law_cell","_law_k"] []
 C8:eJ K "_law_deck" "_law_deck" gy a.lG a.mS
 C9:mg "_law_deck"=some (.ref a.lG)
 C':PySem.W.keepIn K (.ref a.lG)=true
 Dc:Binds K a.mS ["_law_script"] []
 De:eJ K "_law_next" "_law_next" ic a.lH a.mT
 b_:mg "_law_next"=some (.ref a.lH)
 cb:PySem.W.keepIn K (.ref a.lH)=true
 cf:Binds K a.mT ["_law_deck_here","_law_many"] []
 Df:eJ K "_law_base" "_law_base" ie a.lI a.mU
 Dg:mg "_law_base"=some (.ref a.lI)
 Dh:PySem.W.keepIn K (.ref a.lI)=true
 Dj:Binds K a.mU ["_law_deck_here"] []
 Aa:eJ K "_law_number" "_law_number" fR a.i_ a.j3
 Ab:mg "_law_number"=some (.ref a.i_)
 Ac:PySem.W.keepIn K (.ref a.i_)=true
 Ad:Binds K a.j3 ["_law_deck_here","_law_base_here"] []
 xH:eJ K "_law_machine" "_law_machine" dj a.iz a.jv
 xI:mg "_law_machine"=some (.ref a.iz)
 xJ:PySem.W.keepIn K (.ref a.iz)=true
 xK:Binds K a.jv ["_law_deck_here","_law_base_here","_law_most","_law_many"] []
 oi:eJ K "_law_machine_names" "_law_machine_names" bZ a.eG a.fJ
 oj:mg "_law_machine_names"=some (.ref a.eG)
 om:PySem.W.keepIn K (.ref a.eG)=true
 oo:Binds K a.fJ ["_law_deck_here","_law_many"] []
 xM:eJ K "_law_letters" "_law_letters" dZ a.iA a.jw
 xN:mg "_law_letters"=some (.ref a.iA)
 xO:PySem.W.keepIn K (.ref a.iA)=true
 xP:Binds K a.jw ["_law_base_here","_law_numbers"] []
 FN:eJ K "_law_run" "_law_run" i8 a.og a.pj
 yM:mg "_law_run"=some (.ref a.og)
 yN:PySem.W.keepIn K (.ref a.og)=true
 yO:Binds K a.pj ["_law_moves","_law_room","_law_some"] []
 Bv:eJ K "_law_least" "_law_least" dN a.jQ a.lJ
 Bw:mg "_law_least"=some (.ref a.jQ)
 Bx:PySem.W.keepIn K (.ref a.jQ)=true
 By:Binds K a.lJ ["_law_found"] []
 KC:eJ K "law" "law" iu a.zW a.Bs
 Ut:mg "law"=some (.ref a.zW)
 Eb:mg "max"=none
 dD:mg "tuple"=none
 d_:mg "enumerate"=none
 Bz:mg "dict"=none
 bM:mg "len"=none
 vV:mg "list"=none
 bW:mg "range"=none
 Ec:mg "int"=none
 pq:mg "sorted"=none
 Ae:mg "reversed"=none
 vW:mg "bool"=none
 KD:mg "abs"=none
 KG:mg "set"=none
 jx:mg "isinstance"=none
 KH:mg "sum"=none
 tne:a.bO≠a.aZ
 vX:∃t,mg "FAR_BEYOND"=some (.int 1000000 t)
def qW (c k:Int):Int:=(c % 2147483629*48271+7919*k+13) % 2147483629
def Dk (n k:Int):Int:=(n*(n / 5+k)+16807*k) % 2147483587
def Nn (n:Int):Int:=(n*69621+n / 127) % 2147483647
def j4 (c k:Int):Int:=Nn (Dk (qW c k) k)
theorem FO (c k:Int):0≤qW c k∧qW c k<2147483629:=⟨Int.emod_nonneg _ (by decide),Int.emod_lt_of_pos _ (by decide)⟩
theorem FP (c k:Int):0≤Dk c k∧Dk c k<2147483587:=⟨Int.emod_nonneg _ (by decide),Int.emod_lt_of_pos _ (by decide)⟩
theorem qX (c k:Int):0≤j4 c k∧j4 c k<2147483647:=⟨Int.emod_nonneg _ (by decide),Int.emod_lt_of_pos _ (by decide)⟩
def FQ:Sp:=fun vs H Q _=>∃(c k:Int),vs=[.int c,.int k]∧Q (.int (j4 c k)) H
section
variable {P:Program} {w:World} {K:PySem.W.Frag} {mg:Str→Option Value} {base:Heap}
theorem lK:aW ["_law_cell","_law_k","_law_number_here"] ["_law_cell","_law_k"] (ak gF):=⟨rfl,rfl,rfl,by decide+kernel,rfl,by decide+kernel,by decide+kernel⟩
theorem qf {a:eY} (T:Txt K mg a):bD P w K mg base cE 1 a.jP a.lD ["_law_cell","_law_k"] FQ:=by
 refine T.Bu.ok lK (fun vs H Q E h=>?_) (fun cdv A outer s H vs Q E hr h=>?_)
 ·obtain⟨c,k,rfl,_⟩:=h
  rfl
 ·obtain⟨c,k,rfl,q⟩:=h
  refine⟨_,ah (av (i:=2) lK.nd rfl (Or.inl rfl) (aO mB (aO dn (aO dn (aO f_ (aO mB (pv 0) ao) ao) (aO f_ ao (pv 1))) ao) ao))
   (ah (av (i:=2) lK.nd rfl (Or.inl rfl) (aO mB (aO dn (aO f_ (pv 2) (aO dn (aO yf (pv 2) ao) (pv 1))) (aO f_ ao (pv 1))) ao))
   (au (aY (aO mB (aO dn (aO f_ (pv 2) ao) (aO yf (pv 2) ao)) ao)))),?_⟩
  have h1:=FO c k
  have h2:=FP (qW c k) k
  refine⟨_,rfl,_,_,rfl,rfl,(by show(0:Int)<_;decide),_,_,rfl,rfl,.inr (by decide),_,rfl,_,_,rfl,rfl,.inl (by decide),_,_,rfl,rfl,_,_,rfl,rfl,_,_,rfl,rfl,(by show(0:Int)<_;decide),?_⟩
  refine⟨_,rfl,_,rfl,_,_,rfl,rfl,⟨by decide,by decide⟩,_,rfl,_,_,rfl,rfl,_,_,rfl,rfl,.inl (by show-(2 ^ 64)<qW c k∧qW c k<2 ^ 64;omega),_,rfl,_,_,rfl,rfl,.inl (by decide),_,_,rfl,rfl,_,_,rfl,rfl,(by show(0:Int)<_;decide),?_⟩
  exact⟨_,rfl,_,_,rfl,rfl,.inr (by decide),_,rfl,_,_,rfl,rfl,⟨by decide,by decide⟩,_,_,rfl,rfl,_,_,rfl,rfl,(by show(0:Int)<_;decide),q⟩
def NN (ms:List Int):Prop:=∀m∈ms,0≤m
theorem NN.app {xs ys:List Int} (a:NN xs) (b:NN ys):NN (xs++ys):=fun m h=>(List.mem_append.mp h).elim (a m) (b m)
theorem NN.one {x:Int} (h:0≤x):NN [x]:=fun m hm=>by
 have:m=x:=by simpa using hm
 subst this;exact h
def Im (K:PySem.W.Frag):Sp:=fun vs H Q _=>∃(a:Addr) (ns:List Int),vs=[.ref a]∧bJ K H a (ns.map V.int)∧ns.length≤63∧
 ∀(D:Addr) (H':Hp),H D=none→Same H H'→bT H' D→Q (.ref D) H'
theorem Ee (ns:List Int) (h:ns.length≤63):mC (ns.map V.int) none (some 63)=ns.map V.int:=by
 unfold mC
 rw[show HT.gX (ns.map V.int).length 0 none=0 from rfl,show(some (63:Int))=some ((63:Nat):Int) from rfl,HT.yn]
 rw[List.drop_zero,List.length_map]
 exact List.take_of_length_le (by rw[List.length_map];omega)
theorem FR (ms:List Int) (n:Nat):mC (ms.map V.int) none (some (n:Int))=(ms.take n).map V.int:=by
 unfold mC
 rw[show HT.gX (ms.map V.int).length 0 none=0 from rfl,HT.yn]
 rw[List.drop_zero,List.length_map,Nat.sub_zero,←List.map_take]
 congr 1
 by_cases h:n≤ms.length
 ·rw[Nat.min_eq_left h]
 ·rw[Nat.min_eq_right (by omega),List.take_of_length_le (Nat.le_refl _),List.take_of_length_le (by omega)]
theorem dO:aW ["_law_script","_law_deck_here","_law_k","_law_cell","_law_number_here","_law_turn"] ["_law_script"] (ak gy):=⟨rfl,rfl,rfl,by decide+kernel,rfl,by decide+kernel,by decide+kernel⟩
theorem BA {a:eY} (T:Txt K mg a):bD P w K mg base cE 2 a.lG a.mS ["_law_script"] (Im K):=by
 have iF:=qf (P:=P) (w:=w) (base:=base) T
 refine T.C8.ok dO (fun vs H Q E h=>?_) (fun cdv A outer s H vs Q E hr h=>?_)
 ·obtain⟨a,ns,rfl,_⟩:=h
  rfl
 ·obtain⟨sa,ns,rfl,hS,hns,k⟩:=h
  have gU:aU 1 _:=hr
  refine⟨_,(ah (av (i:=1) dO.nd rfl (Or.inl rfl) (cq ag))
  (ah (bF PassesOwn.never rfl (yu rfl T.d_ (ae (kS (oV K) (pv 0) i3 (ke ao)) ag)) (my rfl (bu (ax (i:=2) dO.nd rfl (Or.inr rfl)) (bu (ax (i:=3) dO.nd rfl (Or.inl rfl)) fO)))
   (ah (av (i:=4) dO.nd rfl (Or.inr rfl) (aO hU (aF Cs (by rfl) T.KD G4 (ae (pv 3) ag)) (aO AB ao ao)))
   (ah (dy (br uh (pv 4) (aO AB ao ao) (bQ _))
    (ah (bR (cL PySem.F.plainAttrs_list PySem.F.slot_list_extend PySem.F.type_list_extend jJ (pv 1) (ae (cA (aD.mk' (esc:=ak gy) (N:=["_law_script","_law_deck_here","_law_k","_law_cell","_law_number_here","_law_turn"]) (own:=["_law_j"]) (aJ:=["_law_number_here","_law_k"]) (bx:=[4,2]) rfl rfl (by decide+kernel)) rfl (bE rfl T.bW (ae ao ag)) (fun _ _ _ _=>(ax (i:=0) (show List.Nodup (["_law_j","_law_number_here","_law_k"]:List Str) by decide+kernel) rfl (Or.inl rfl))) (fun _ _ _ _=>bG) (fun _ _ _ _=>(aE iF gU rfl T.jR T.jS T.jT .nil aR (ae (pv 1) (ae (aO dn (aO f_ ao (pv 2)) (pv 0)) ag))))) ag)))
    (au (av (i:=4) dO.nd rfl (Or.inr rfl) ao)))
    cz)
   (au (bF PassesOwn.never rfl (bE rfl T.bW (ae ao ag)) (ax (i:=5) dO.nd rfl (Or.inl rfl))
    (au (dy (br pK (pv 4) ao (bQ _))
     (ah (bR (cL PySem.F.plainAttrs_list PySem.F.slot_list_append PySem.F.type_list_append bS (pv 1) (ae (aO hU (pv 4) ao) ag)))
     (au (av (i:=4) dO.nd rfl (Or.inr rfl) (aO oU (pv 4) ao))))
     cz)))))))
  (ah (bF PassesOwn.never rfl (Ay rfl T.bW (ae (aF (aK K) (by rfl) T.bM bo (ae (pv 1) ag)) (ae ao ag))) (ax (i:=2) dO.nd rfl (Or.inr rfl))
   (au (bR (cL PySem.F.plainAttrs_list PySem.F.slot_list_append PySem.F.type_list_append bS (pv 1) (ae (aE iF gU rfl T.jR T.jS T.jT .nil aR (ae (aF (A1 K) (by rfl) T.KH G5 (ae (kS (oV K) (pv 0) i3 (ke ao)) ag)) (ae (pv 2) ag))) ag)))))
  (au (aY (kS (oV K) (pv 1) i3 (ke ao))))))),?_⟩
  refine⟨by decide,fun d hd=>?_⟩
  have s0:Same H (upd H d (.lst [])):=Same.new hd
  refine⟨_,rfl,_,rfl,sa,ns.map V.int,rfl,s0.seq hS,fun sl hsl=>⟨sl,rfl,⟨_,.of af⟩,?_⟩⟩
  rw[Ee ns hns]
  have Io:d≠sl:=aj af hsl
  have Uy:H sl=none:=s0.free hsl
  have s1:Same H (upd (upd H d (.lst [])) sl (.lst (ns.map V.int))):=s0.trans (Same.new hsl)
  refine CB (xs:=ns.map V.int) (fun i σ H'=>∃(ms:List Int) (v2 v3 v4 v5:Option V),σ=[some (.ref sa),some (.ref d),v2,v3,v4,v5]∧Same H H'∧H' sl=some (.lst (ns.map V.int))∧H' d=some (.lst (ms.map V.int))∧ms.length≤67*i∧NN ms)
   ⟨[],none,none,none,none,rfl,s1,af,by rw[aq Io];exact af,by simp,fun m h=>(nomatch h)⟩ (fun i σ H' _ ⟨_,_,_,_,_,_,_,h,_⟩=>.of h) ?_ ?_
  ·rintro i x pp σ H1 hx ⟨ms,v2,v3,v4,v5,rfl,s1,es1,BB,hl,nn⟩ hpp
   have hi:i<ns.length:=by have:=(List.getElem?_eq_some_iff.mp hx).1;rwa [List.length_map] at this
   obtain⟨c,rfl⟩:∃c:Int,x=V.int c:=by
    rw[List.getElem?_map] at hx
    cases e:ns[i]? with
    | none=>rw[e] at hx;cases hx
    | some z=>rw[e] at hx;exact⟨z,(Option.some.inj hx).symm⟩
   have sp:=Same.new (o:=.tup [.int i,.int c]) hpp
   have QW:d≠pp:=aj BB hpp
   have QX:sl≠pp:=aj es1 hpp
   have hP:∀q:Int,Gy 2147483647 60:=fun _=>⟨by decide,by decide,by decide⟩
   have big:(0:Int)<2147483647 ^ (60:Int).toNat:=by decide+kernel
   refine⟨pp,_,rfl,.of af,rfl,_,_,rfl,_,_,rfl,rfl,?_⟩
   refine⟨_,rfl,c,rfl,_,_,rfl,rfl,hP 0,_,_,rfl,rfl,cpos big,?_⟩
   obtain⟨num,hnum⟩:∃num:Int,num=(if c<0 then-c else c) % 2147483647 ^ (60:Int).toNat:=⟨_,rfl⟩
   have px:0≤num:=by rw[hnum];exact Int.emod_nonneg _ (Int.ne_of_gt big)
   dsimp only[aC]
   refine jl (t:=uz _ _ _) (u:=Gv _ _ _) (fun σ H2=>∃(num:Int) (ms:List Int) (v5:Option V),σ=[some (.ref sa),some (.ref d),some (.int i),some (.int c),some (.int num),v5]∧0≤num∧Same H H2∧H2 sl=some (.lst (ns.map V.int))∧H2 d=some (.lst (ms.map V.int))∧ms.length≤67*i+7∧NN ms) ?_ (fun rest=>?_)
   ·
    rintro σ H2 ⟨num,ms,v5,rfl,px,s2,es2,me,hl2,BD⟩
    refine⟨(60:Int),rfl,by decide,by decide,dH (fun j σ H3=>∃(num:Int) (ms:List Int) (v5:Option V),σ=[some (.ref sa),some (.ref d),some (.int i),some (.int c),some (.int num),v5]∧0≤num∧Same H H3∧H3 sl=some (.lst (ns.map V.int))∧H3 d=some (.lst (ms.map V.int))∧ms.length≤67*i+7+j∧NN ms)
     ⟨num,ms,v5,rfl,px,s2,es2,me,hl2,BD⟩ ?_ ?_⟩
    ·rintro j σ H3 hj ⟨num,ms,v5,rfl,px,s3,Ef,BE,hl3,Eg⟩
     have hj':j<60:=hj
     refine⟨_,rfl,_,_,rfl,rfl,_,rfl,?_⟩
     refine fW (fun hpos=>?_) (fun _=>?_)
     ·
      refine⟨_,rfl,.inl ⟨rfl,_,.of BE⟩,_,rfl,_,_,rfl,rfl,cpos (by decide),d,_,_,rfl,rfl,BE,?_,?_⟩
      ·rw[List.length_map];exact Nat.lt_of_lt_of_le (show ms.length<10000 by omega) (by decide)
      refine⟨_,rfl,_,_,rfl,rfl,⟨by decide,by decide⟩,num / 2147483647,ms++[num % 2147483647],_,rfl,Int.ediv_nonneg px (by decide),s3.kbn hd KB.write,?_,?_,?_,Eg.app (NN.one (Int.emod_nonneg _ (by decide)))⟩
      ·rw[aq Io.symm];exact Ef
      ·rw[af,List.map_append];rfl
      ·rw[List.length_append];show ms.length+1≤_;omega
     ·exact⟨num,ms,_,rfl,px,s3,Ef,BE,by omega,Eg⟩
    ·rintro σ H3 ⟨num,ms,v5,rfl,px,s3,Ef,BE,hl3,Eg⟩
     have Uz:ms.length≤67*i+7+60:=hl3
     exact⟨ms,_,_,_,_,rfl,s3,Ef,BE,by omega,Eg⟩
   ·refine⟨_,rfl,_,_,rfl,rfl,⟨by decide,by decide,by decide⟩,_,_,rfl,rfl,_,rfl,?_⟩
    have me:(upd H1 pp (.tup [.int i,.int c])) d=some (.lst (ms.map V.int)):=by rw[aq QW];exact BB
    have es2:(upd H1 pp (.tup [.int i,.int c])) sl=some (.lst (ns.map V.int)):=by rw[aq QX];exact es1
    refine fW (fun _=>?_) (fun _=>?_)
    ·
     refine⟨_,rfl,.inl ⟨rfl,_,.of me⟩,7,rfl,by decide,by decide,fun C hC=>?_⟩
     have UN:d≠C:=aj me hC
     have UO:sl≠C:=aj es2 hC
     have s2:Same H (upd H1 pp (.tup [.int i,.int c])):=s1.trans sp
     refine dM (fun j σ H'=>∃(rs:List Int) (v:Option V),σ=[v,some (.int num),some (.int i)]∧Same (upd H1 pp (.tup [.int i,.int c])) H'∧H' C=some (.lst (rs.map V.int))∧rs.length=j∧NN rs)
      ⟨[],none,by rw[hnum];rfl,Same.new hC,af,rfl,fun m h=>(nomatch h)⟩ ?_ ?_
     ·rintro j σ H3 hj ⟨rs,v,rfl,s3,Ip,lr,nr⟩
      have hj':j<7:=hj
      refine⟨_,rfl,_,rfl,_,_,rfl,rfl,.inl (by decide),_,rfl,_,_,rfl,rfl,num,_,rfl,rs.map V.int,Ip,?_,rs++[j4 num (7*(i:Int)+(0+(j:Int)))],_,rfl,s3.kbn hC KB.write,?_,?_,nr.app (NN.one (qX _ _).1)⟩
      ·rw[List.length_map];exact Nat.lt_of_lt_of_le (show rs.length<100 by omega) (by decide)
      ·rw[af,List.map_append];rfl
      ·rw[List.length_append];show rs.length+1=_;omega
     ·rintro σ H3 ⟨rs,v,rfl,s3,Ip,lr,nr⟩
      have UP:rs.length=7:=lr
      refine⟨d,C,ms.map V.int,rs.map V.int,rfl,rfl,s3 _ _ me,Ip,?_,?_⟩
      ·rw[List.length_map,List.length_map];exact Nat.le_trans (show ms.length+rs.length≤10000 by omega) (by decide)
      refine rest _ _ ⟨0,ms++rs,_,rfl,Int.le_refl _,(s2.trans s3).kbn hd KB.write,?_,?_,?_,nn.app nr⟩
      ·rw[aq Io.symm];exact s3 _ _ es2
      ·rw[af,List.map_append]
      ·rw[List.length_append];omega
    ·exact rest _ _ ⟨num,ms,_,by rw[hnum];rfl,px,s1.trans sp,es2,me,by omega,nn⟩
  ·rintro σ H1 ⟨ms,v2,v3,v4,v5,rfl,s1,es1,BB,hl,nn⟩
   rw[List.length_map] at hl
   refine⟨_,rfl,_,ms.length,rfl,.inl ⟨_,.of BB,by rw[List.length_map]⟩,(ms.length:Int),60,rfl,by omega,dH (fun j σ H'=>∃(c_:List Int) (v2 v3 v4 v5:Option V),σ=[some (.ref sa),some (.ref d),v2,v3,v4,v5]∧Same H H'∧H' d=some (.lst (c_.map V.int))∧c_.length=ms.length+j∧NN c_)
    ⟨ms,v2,v3,v4,v5,rfl,s1,BB,rfl,nn⟩ ?_ ?_⟩
   ·rintro j σ H2 hj ⟨c_,v2,v3,v4,v5,rfl,s2,me,hl2,BD⟩
    refine⟨_,rfl,.inl ⟨rfl,_,.of me⟩,_,rfl,_,rfl,sa,ns.map V.int,rfl,s2.seq hS,fun z hz=>?_⟩
    have QY:d≠z:=aj me hz
    rw[Ee ns hns]
    refine⟨z,ns,rfl,.of af,_,rfl,_,_,rfl,d,_,_,rfl,rfl,(by rw[aq QY];exact me),?_,?_⟩
    ·rw[List.length_map];exact Nat.lt_of_lt_of_le (show c_.length<10000 by omega) (by decide)
    refine⟨c_++[j4 ns.sum ((ms.length:Int)+(j:Int))],_,_,_,_,rfl,(s2.trans (Same.new hz)).kbn hd KB.write,?_,?_,BD.app (NN.one (qX _ _).1)⟩
    ·rw[af,List.map_append];rfl
    ·rw[List.length_append];show c_.length+1=_;omega
   ·rintro σ H2 ⟨c_,v2,v3,v4,v5,rfl,s2,me,hl2,BD⟩
    refine⟨_,rfl,_,rfl,d,_,rfl,.of me,fun D hD=>?_⟩
    rw[show(some (900:Int))=some ((900:Nat):Int) from rfl,FR]
    refine k D _ (s2.free hD) (s2.trans (Same.new hD)) ⟨c_.take 900,af,fun z=>?_,fun m hm=>BD m (List.mem_of_mem_take hm)⟩
    have z':(c_.take 900).length=0:=by rw[z];rfl
    rw[List.length_take] at z'
    omega
def Iq:Sp:=fun vs H Q _=>∃(d:Addr) (m:Int),vs=[.ref d,.int m]∧bT H d∧0<m∧∀(r:Int) (H':Hp),0≤r→r<m→KB d H H'→bT H' d→Q (.int r) H'
theorem BF:aW ["_law_deck_here","_law_many"] ["_law_deck_here","_law_many"] (ak ic):=⟨rfl,rfl,rfl,by decide+kernel,rfl,by decide+kernel,by decide+kernel⟩
theorem iG {a:eY} (T:Txt K mg a):bD P w K mg base cE 2 a.lH a.mT ["_law_deck_here","_law_many"] Iq:=by
 have iF:=qf (P:=P) (w:=w) (base:=base) T
 refine T.De.ok BF (fun vs H Q E h=>?_) (fun cdv A outer s H vs Q E hr h=>?_)
 ·obtain⟨d,m,rfl,_⟩:=h
  rfl
 ·obtain⟨d,m,rfl,⟨ms,hd,hne,nn⟩,hm,k⟩:=h
  have gU:aU 1 _:=hr
  refine⟨_,(ah (dy (br pK (aF (aK K) (by rfl) T.bM bo (ae (pv 0) ag)) ao (bQ _))
   (au (aY (aO hU (cL PySem.F.plainAttrs_list PySem.F.slot_list_pop PySem.F.type_list_pop Cy (pv 0) (ae ao ag)) (pv 1))))
   cz)
  (ah (j8 (aE iF gU rfl T.jR T.jS T.jT .nil aR (ae (aH (bq K) (pv 0) ao (fun _ _=>rfl)) (ae ao ag))) (pI (pv 0) ao set_list))
  (au (aY (aO hU (aE iF gU rfl T.jR T.jS T.jT .nil aR (ae (aH (bq K) (pv 0) ao (fun _ _=>rfl)) (ae ao ag))) (pv 1)))))),?_⟩
  obtain⟨x,xs,rfl⟩:∃x xs,ms=x::xs:=by cases ms with | nil=>exact absurd rfl hne | cons x xs=>exact⟨x,xs,rfl⟩
  refine⟨_,rfl,_,(x::xs).length,rfl,.inl ⟨_,.of hd,by rw[List.length_map]⟩,_,_,rfl,rfl,_,rfl,?_⟩
  refine fW (fun hl=>?_) (fun _=>?_)
  ·have hl':xs≠[]:=by
    intro z;subst z
    have:=of_decide_eq_true hl
    simp at this
   refine⟨_,rfl,.inl ⟨rfl,_,.of hd⟩,d,_,0,0,V.int x,rfl,rfl,hd,by decide,by decide,?_,rfl,_,rfl,_,_,rfl,rfl,cpos hm,?_⟩
   ·show seqIndex? 0 _=_
    rw[List.length_map]
    exact(qB (n:=(x::xs).length) (i:=0) (j:=0) (by unfold mE;rw[if_pos (by omega),if_pos (by simp)];rfl)).1
   ·exact k _ _ (Int.emod_nonneg _ (by omega)) (Int.emod_lt_of_pos _ hm) KB.write ⟨xs,by rw[af];rfl,hl',fun z hz=>nn z (List.mem_cons_of_mem _ hz)⟩
  ·refine⟨_,rfl,d,_,0,V.int x,rfl,rfl,.of hd,aA (j:=0) rfl,x,11,rfl,?_⟩
   refine⟨_,rfl,d,_,0,0,rfl,rfl,hd,?_,?_⟩
   ·rw[List.length_map];unfold mE;rw[if_pos (by omega),if_pos (by simp)];rfl
   ·have e1:(upd H d (.lst (((x::xs).map V.int).set 0 (V.int (j4 x 11))))) d=some (.lst ((j4 x 11::xs).map V.int)):=by rw[af];rfl
    refine⟨_,rfl,d,_,0,V.int (j4 x 11),rfl,rfl,.of e1,aA (j:=0) rfl,j4 x 11,5,rfl,_,rfl,_,_,rfl,rfl,cpos hm,?_⟩
    exact k _ _ (Int.emod_nonneg _ (by omega)) (Int.emod_lt_of_pos _ hm) KB.write ⟨j4 x 11::xs,e1,by simp,fun z hz=>(List.mem_cons.mp hz).elim (fun e=>e▸(qX x 11).1) fun h=>nn z (List.mem_cons_of_mem _ h)⟩
def Ir:Sp:=fun vs H Q _=>∃d:Addr,vs=[.ref d]∧bT H d∧∀(b:Nat) (H':Hp),2≤b→b≤4→KB d H H'→bT H' d→Q (.int b) H'
def Dl:Sp:=fun vs H Q _=>∃(d:Addr) (b:Nat),vs=[.ref d,.int b]∧bT H d∧2≤b∧b≤4∧∀(r:Nat) (H':Hp),r<4 ^ 140→KB d H H'→bT H' d→Q (.int r) H'
theorem BG:aW ["_law_deck_here"] ["_law_deck_here"] (ak ie):=⟨rfl,rfl,rfl,by decide+kernel,rfl,by decide+kernel,by decide+kernel⟩
theorem BH {a:eY} (T:Txt K mg a):bD P w K mg base cE 3 a.lI a.mU ["_law_deck_here"] Ir:=by
 have bB:=iG (P:=P) (w:=w) (base:=base) T
 refine T.Df.ok BG (fun vs H Q E h=>?_) (fun cdv A outer s H vs Q E hr h=>?_)
 ·obtain⟨d,rfl,_⟩:=h
  rfl
 ·obtain⟨d,rfl,hd,k⟩:=h
  have a_:aU 2 _:=hr
  refine⟨_,(au (aY (aO dn ao (aE bB a_ rfl T.b_ T.cb T.cf .nil aR (ae (pv 0) (ae ao ag)))))),?_⟩
  refine⟨_,rfl,d,3,rfl,hd,by decide,fun r H1 r0 r1 k1 d1=>⟨_,_,rfl,rfl,?_⟩⟩
  obtain⟨b,hb⟩:∃b:Nat,(2:Int)+r=(b:Int):=⟨(2+r).toNat,by omega⟩
  show Q (.int (2+r)) H1
  rw[hb]
  exact k b H1 (by omega) (by omega) k1 d1
theorem eh:aW ["_law_deck_here","_law_base_here","_law_way","_law_found","_law_turn"] ["_law_deck_here","_law_base_here"] (ak fR):=⟨rfl,rfl,rfl,by decide+kernel,rfl,by decide+kernel,by decide+kernel⟩
theorem xQ {a:eY} (T:Txt K mg a):bD P w K mg base cE 3 a.i_ a.j3 ["_law_deck_here","_law_base_here"] Dl:=by
 have bB:=iG (P:=P) (w:=w) (base:=base) T
 refine T.Aa.ok eh (fun vs H Q E h=>?_) (fun cdv A outer s H vs Q E hr h=>?_)
 ·obtain⟨d,b,rfl,_⟩:=h
  rfl
 ·obtain⟨d,b,rfl,hd,hb2,hb4,k⟩:=h
  have a_:aU 2 _:=hr
  refine⟨_,(ah (av (i:=2) eh.nd rfl (Or.inl rfl) (aE bB a_ rfl T.b_ T.cb T.cf .nil aR (ae (pv 0) (ae ao ag))))
  (ah (dy (br nJ (pv 2) ao (bQ _))
   (au (aY (aE bB a_ rfl T.b_ T.cb T.cf .nil aR (ae (pv 0) (ae ao ag)))))
   cz)
  (ah (av (i:=3) eh.nd rfl (Or.inl rfl) (bt rE (by rfl) T.Ec A0 (ae (nO nJ (pv 2) ao (bQ _)) ag)))
  (ah (bF PassesOwn.never rfl (bE rfl T.bW (ae (aO dn ao (aE bB a_ rfl T.b_ T.cb T.cf .nil aR (ae (pv 0) (ae (aH (bq K) (cq (ae ao (ae ao (ae ao ag)))) (aO uC (pv 2) ao) (fun _ _=>rfl)) ag)))) ag)) (ax (i:=4) eh.nd rfl (Or.inl rfl))
   (ah (av (i:=3) eh.nd rfl (Or.inl rfl) (aO f_ (pv 3) (pv 1)))
   (au (dy (br nK (pv 2) ao (bQ _))
    (au (av (i:=3) eh.nd rfl (Or.inl rfl) (aO dn (pv 3) (aE bB a_ rfl T.b_ T.cb T.cf .nil aR (ae (pv 0) (ae (pv 1) ag))))))
    cz))))
  (ah (dy (br nJ (pv 2) ao (bQ _))
   (au (av (i:=3) eh.nd rfl (Or.inl rfl) (aO uC (aO dn (pv 3) (aE bB a_ rfl T.b_ T.cb T.cf .nil aR (ae (pv 0) (ae ao ag)))) ao)))
   cz)
  (au (aY (pv 3)))))))),?_⟩
  refine⟨_,rfl,d,4,rfl,hd,by decide,fun way H1 w0 w1 k1 d1=>?_⟩
  refine⟨_,rfl,rfl,_,rfl,?_⟩
  refine fW (fun hw=>?_) (fun hw=>?_)
  ·refine⟨_,rfl,d,20,rfl,d1,by decide,fun r H2 r0 r1 k2 d2=>?_⟩
   obtain⟨n,hn⟩:∃n:Nat,r=(n:Int):=⟨r.toNat,by omega⟩
   subst hn
   exact k n H2 (Nat.lt_of_lt_of_le (show n<20 by omega) (by decide)) (k1.trans k2) d2
  ·have hw':way≠0:=fun z=>by subst z;exact hw (by simp)
   refine⟨_,rfl,rfl,.inr ⟨_,rfl,?_⟩⟩
   refine⟨_,rfl,by show 3≤sizeLine;decide,fun p hp=>?_⟩
   obtain⟨j,hj⟩:∃j:Nat,way-1=(j:Int):=⟨(way-1).toNat,by omega⟩
   obtain⟨m,hm1,hm2,Lj⟩:∃m:Int,([.int 4,.int 60,.int 130]:List V)[j]? =some (.int m)∧0<m∧m≤130:=by
    have:j=0∨j=1∨j=2:=by omega
    rcases this with rfl | rfl | rfl
    ·exact⟨4,rfl,by decide,by decide⟩
    ·exact⟨60,rfl,by decide,by decide⟩
    ·exact⟨130,rfl,by decide,by decide⟩
   have s2:=Same.new (o:=.lst [.int 4,.int 60,.int 130]) hp
   refine⟨_,rfl,_,_,rfl,rfl,p,_,_,.int m,rfl,rfl,.of af,?_,d,m,rfl,d1.same s2,hm2,fun t H3 t0 t1 k3 d3=>?_⟩
   ·rw[hj];exact aA hm1
   refine⟨_,_,rfl,rfl,_,rfl,by omega,by omega,dH (fun i σ H'=>∃(f:Nat) (v4:Option V),σ=[some (.ref d),some (.int b),some (.int way),some (.int f),v4]∧KB d H1 H'∧bT H' d∧(way=2→f=b ^ i)∧(way≠2→f<b ^ i))
    ⟨if way=2 then 1 else 0,none,?_,(s2.kb).trans k3,d3,?_,?_⟩ ?_ ?_⟩
   ·by_cases hw2:way=2
    ·subst hw2;rfl
    ·simp[hw2,aC]
     rfl
   ·intro z;rw[if_pos z];simp
   ·intro z;rw[if_neg z];simp
   ·rintro i σ H4 hi ⟨f,v4,rfl,k4,d4,e1,e2⟩
    refine⟨_,rfl,_,rfl,_,_,rfl,rfl,.inr (by constructor<;>omega),?_⟩
    refine⟨_,rfl,rfl,_,rfl,?_⟩
    refine fW (fun hw2=>?_) (fun hw2=>?_)
    ·have m3:way≠2:=fun z=>by subst z;simp at hw2
     refine⟨_,rfl,_,rfl,_,rfl,d,b,rfl,d4,by omega,fun r H5 r0 r1 k5 d5=>⟨_,_,rfl,rfl,?_⟩⟩
     obtain⟨n,hn⟩:∃n:Nat,r=(n:Int):=⟨r.toNat,by omega⟩
     subst hn
     refine⟨f*b+n,some (.int (0+(i:Int))),?_,k4.trans k5,d5,fun z=>absurd z m3,fun _=>?_⟩
     ·rw[Int.natCast_add,Int.natCast_mul];rfl
     ·have h1:=e2 m3
      have h2:(f+1)*b≤b ^ i*b:=Nat.mul_le_mul_right b h1
      rw[Nat.pow_succ]
      have h3:(f+1)*b=f*b+b:=by rw[Nat.add_mul,Nat.one_mul]
      omega
    ·have m3:way=2:=by
      by_cases z:way=2
      ·exact z
      ·exact absurd (by simp[z]) hw2
     refine⟨f*b,some (.int (0+(i:Int))),?_,k4,d4,fun z=>?_,fun z=>absurd m3 z⟩
     ·rw[Int.natCast_mul];rfl
     ·rw[e1 z,Nat.pow_succ]
   ·rintro σ H4 ⟨f,v4,rfl,k4,d4,e1,e2⟩
    have ht:(1+t:Int).toNat≤130:=by omega
    have hpow:b ^ (1+t:Int).toNat≤4 ^ 130:=Nat.le_trans (Nat.pow_le_pow_left hb4 _) (Nat.pow_le_pow_right (by decide) ht)
    have UA:(4:Nat) ^ 130+10<4 ^ 140:=by decide+kernel
    refine⟨_,rfl,rfl,_,rfl,?_⟩
    refine fW (fun hw2=>?_) (fun hw2=>?_)
    ·have m3:way=2:=by simpa using hw2
     refine⟨_,rfl,_,rfl,d,3,rfl,d4,by decide,fun r H5 r0 r1 k5 d5=>⟨_,_,rfl,rfl,_,_,rfl,rfl,?_⟩⟩
     have hf:=e1 m3
     have hf1:1≤f:=by rw[hf];exact Nat.one_le_pow _ _ (by omega)
     obtain⟨n,hn⟩:∃n:Nat,(f:Int)+r-1=(n:Int):=⟨((f:Int)+r-1).toNat,by omega⟩
     refine⟨_,rfl,?_⟩
     show Q (.int ((f:Int)+r-1)) H5
     rw[hn]
     exact k n H5 (by omega) ((k1.trans k4).trans k5) d5
    ·refine⟨_,rfl,k f H4 ?_ (k1.trans k4) d4⟩
     have m3:way≠2:=by simpa using hw2
     have:=e2 m3
     omega
def ai (ds:List Nat):List Int:=ds.map fun(d:Nat)=>(d:Int)
theorem vY (ds:List Nat) (i:Nat):(ai ds)[i]? =ds[i]?.map fun(d:Nat)=>(d:Int):=by simp[ai]
theorem cV {ds:List Nat} {i:Nat} {x:V} (h:((ai ds).map V.int)[i]? =some x):∃n:Nat,x=.int (n:Int)∧ds[i]? =some n:=by
 obtain⟨f,rfl,hf⟩:=Fp h
 rw[vY] at hf
 cases e:ds[i]? with
 | none=>rw[e] at hf;cases hf
 | some n=>rw[e] at hf;exact⟨n,by rw[←Option.some.inj hf],rfl⟩
theorem ij {rs:List Addr} {i:Nat} {x:V} (h:(rs.map V.ref)[i]? =some x):∃r,x=.ref r∧rs[i]? =some r:=by
 rw[List.getElem?_map] at h
 cases e:rs[i]? with
 | none=>rw[e] at h;cases h
 | some r=>rw[e] at h;exact⟨r,(Option.some.inj h).symm,rfl⟩
theorem take_snoc {α:Type} {xs:List α} {i:Nat} {x:α} (h:xs[i]? =some x):xs.take (i+1)=xs.take i++[x]:=by rw[List.take_add_one,h];rfl
theorem aw (ds:List Nat):(ai ds).length=ds.length:=by simp[ai]
theorem aS (xs ys:List Nat):ai (xs++ys)=ai xs++ai ys:=by simp[ai]
structure Moves (n b:Nat) (mv:List (List Nat)):Prop where
 len:mv.length=n
 lead:∀l∈mv,l.length=b∧∀x∈l,x<n
theorem item_at {α:Type} {xs:List α} {i:Nat} (d:α) (h:i<xs.length):xs[i]? =some (xs.getD i d):=by rw[List.getD_eq_getElem?_getD,List.getElem?_eq_getElem h];rfl
theorem cN {ds:List Nat} {i:Nat} (h:i<ds.length):((ai ds).map V.int)[i]? =some (.int (ds.getD i 0:Nat)):=by
 rw[List.getElem?_map,vY,item_at 0 h];rfl
theorem Moves.row {H:Hp} {n b:Nat} {mv:List (List Nat)} {ps:List Addr} (h:Moves n b mv) (tp:fB H ps (mv.map ai)) {r:Nat} (hr:r<n):
  ps[r]? =some (ps.getD r 0)∧H (ps.getD r 0)=some (.tup ((ai (mv.getD r [])).map V.int))∧(mv.getD r []).length=b:=by
 have lp:ps.length=n:=by rw[Paired.length tp,List.length_map,h.len]
 have hp:=item_at 0 (show r<ps.length by omega)
 obtain⟨l',hl',el⟩:=tp.get hp
 have hm:=item_at [] (show r<mv.length by rw[h.len];exact hr)
 rw[List.getElem?_map,hm] at hl'
 have:=Option.some.inj hl'
 subst this
 exact⟨hp,el,(h.lead _ (List.mem_of_getElem? hm)).1⟩
def cJ (H:Hp) (ma nm:Addr) (bs:List Bool) (mv:List (List Nat)):Prop:=∃(ya va:Addr) (ps:List Addr),H ma=some (.tup [.ref nm,.ref ya,.ref va])∧H ya=some (.tup (bs.map V.bl))∧H va=some (.tup (ps.map V.ref))∧fB H ps (mv.map ai)
theorem cJ.keep {H H':Hp} {ma nm:Addr} {bs:List Bool} {mv:List (List Nat)} (h:cJ H ma nm bs mv) (k:cm H H'):cJ H' ma nm bs mv:=by
 obtain⟨ya,va,ps,h1,h2,h3,h4⟩:=h
 exact⟨ya,va,ps,k _ _ h1,k _ _ h2,k _ _ h3,h4.keep k⟩
theorem lL {bs:List Bool} {i:Nat} {x:V} (h:(bs.map V.bl)[i]? =some x):∃c,x=.bl c∧bs[i]? =some c:=by
 rw[List.getElem?_map] at h
 obtain⟨c,e,rfl⟩:=Option.map_eq_some_iff.mp h
 exact⟨c,rfl,e⟩
abbrev kd (ks:List Nat) (r:Nat):Nat:=ks.getD r 0
structure Part (n:Nat) (ks:List Nat) (aB:List (List Nat)):Prop where
 len:ks.length=n
 lt:∀r,r<n→kd ks r<aB.length
 nd:∀(k:Nat) (l:List Nat),aB[k]? =some l→l.Nodup
 mem:∀(k:Nat) (l:List Nat),aB[k]? =some l→∀r,r∈l↔r<n∧kd ks r=k
 full:∀k,2≤k→k<aB.length→∃r,r<n∧kd ks r=k
def putAll (v:Nat) (l ks:List Nat):List Nat:=l.foldl (fun ks r=>ks.set r v) ks
theorem lM (v:Nat):∀(l ks:List Nat),(putAll v l ks).length=ks.length
 | [],_=>rfl
 | r::l,ks=>by
  show(putAll v l (ks.set r v)).length=_
  rw[lM v l,List.length_set]
theorem putAll_snoc (v:Nat) (l ks:List Nat) (r:Nat):putAll v (l++[r]) ks=(putAll v l ks).set r v:=by
 unfold putAll
 rw[List.foldl_append];rfl
theorem Iu {ks:List Nat} {r v t:Nat} (h:r<ks.length):kd (ks.set r v) t=if t=r then v else kd ks t:=by
 unfold kd
 rw[List.getD_eq_getElem?_getD,List.getD_eq_getElem?_getD]
 by_cases e:t=r
 ·subst e;rw[List.getElem?_set_self h,if_pos rfl];rfl
 ·rw[List.getElem?_set_ne (Ne.symm e),if_neg e]
theorem sX (v:Nat):∀(l ks:List Nat),(∀r∈l,r<ks.length)→∀t,kd (putAll v l ks) t=if t∈l then v else kd ks t
 | [],_,_,t=>by simp[putAll]
 | r::l,ks,h,t=>by
  show kd (putAll v l (ks.set r v)) t=_
  rw[sX v l (ks.set r v) (fun x hx=>by rw[List.length_set];exact h x (List.mem_cons_of_mem _ hx)),Iu (h r List.mem_cons_self)]
  by_cases h1:t∈l
  ·rw[if_pos h1,if_pos (List.mem_cons_of_mem _ h1)]
  ·rw[if_neg h1]
   by_cases h2:t=r
   ·rw[if_pos h2,if_pos (by rw[h2];exact List.mem_cons_self)]
   ·rw[if_neg h2,if_neg (fun z=>(List.mem_cons.mp z).elim h2 h1)]
theorem Part.le {n:Nat} {ks:List Nat} {aB:List (List Nat)} (p:Part n ks aB):aB.length≤n+2:=by
 have h:(List.range' 2 (aB.length-2)).length≤ks.length:=by
  refine List.Nodup.length_le_of_subset (List.nodup_range' ..) fun k hk=>?_
  obtain⟨i,hi,rfl⟩:=List.mem_range'.mp hk
  obtain⟨r,hr,e⟩:=p.full (2+1*i) (by omega) (by omega)
  rw[←e]
  unfold kd
  rw[List.getD_eq_getElem?_getD,List.getElem?_eq_getElem (by rw[p.len];exact hr)]
  exact List.getElem_mem ..
 rw[List.length_range',p.len] at h
 omega
theorem Part.split {n:Nat} {ks:List Nat} {aB:List (List Nat)} {k:Nat} {l A B:List Nat} (p:Part n ks aB) (hk:aB[k]? =some l) (nA:A.Nodup) (nB:B.Nodup) (hAB:∀r,r∈l↔r∈A∨r∈B) (dis:∀r,r∈A→r ∉ B) (b0:B≠[]) (a0:2≤k→A≠[]):
  Part n (putAll aB.length B ks) (aB.set k A++[B])∧∀t,kd (putAll aB.length B ks) t=if t∈B then aB.length else kd ks t:=by
 have hkl:k<aB.length:=(List.getElem?_eq_some_iff.mp hk).1
 have inB:∀r∈B,r<n∧kd ks r=k:=fun r hr=>(p.mem k l hk r).mp ((hAB r).mpr (.inr hr))
 have Eh:∀r∈A,r<n∧kd ks r=k:=fun r hr=>(p.mem k l hk r).mp ((hAB r).mpr (.inl hr))
 have hkd:=sX aB.length B ks fun r hr=>by rw[p.len];exact(inB r hr).1
 have ll:(aB.set k A++[B]).length=aB.length+1:=by simp
 have at':∀(j:Nat) (m:List Nat),(aB.set k A++[B])[j]? =some m→(j=k∧m=A)∨(j=aB.length∧m=B)∨(j≠k∧aB[j]? =some m):=fun j m e=>by
  by_cases h1:j<aB.length
  ·rw[List.getElem?_append_left (by rw[List.length_set];exact h1)] at e
   by_cases h2:j=k
   ·subst h2
    rw[List.getElem?_set_self h1] at e
    exact .inl ⟨rfl,(Option.some.inj e).symm⟩
   ·rw[List.getElem?_set_ne (Ne.symm h2)] at e
    exact .inr (.inr ⟨h2,e⟩)
  ·rw[List.getElem?_append_right (by rw[List.length_set];omega),List.length_set] at e
   have:j-aB.length=0:=by
    cases h3:j-aB.length with
    | zero=>rfl
    | succ q=>rw[h3] at e;simp at e
   rw[this] at e
   exact .inr (.inl ⟨by omega,(Option.some.inj e).symm⟩)
 refine⟨⟨by rw[lM];exact p.len,fun r hr=>?_,fun j m e=>?_,fun j m e r=>?_,fun j h2 hj=>?_⟩,hkd⟩
 ·rw[ll,hkd]
  have:=p.lt r hr
  split<;>omega
 ·rcases at' j m e with⟨_,rfl⟩ | ⟨_,rfl⟩ | ⟨_,e⟩
  ·exact nA
  ·exact nB
  ·exact p.nd j m e
 ·rw[hkd]
  rcases at' j m e with⟨rfl,rfl⟩ | ⟨rfl,rfl⟩ | ⟨nj,e⟩
  ·constructor
   ·intro hr
    refine⟨(Eh r hr).1,?_⟩
    rw[if_neg (dis r hr)];exact(Eh r hr).2
   ·rintro⟨hr,hv⟩
    by_cases hb:r∈B
    ·rw[if_pos hb] at hv;omega
    ·rw[if_neg hb] at hv
     exact((hAB r).mp ((p.mem _ l hk r).mpr ⟨hr,hv⟩)).elim id fun z=>absurd z hb
  ·constructor
   ·intro hr
    exact⟨(inB r hr).1,if_pos hr⟩
   ·rintro⟨hr,hv⟩
    by_cases hb:r∈m
    ·exact hb
    ·rw[if_neg hb] at hv
     have:=p.lt r hr
     omega
  ·have hj:j<aB.length:=(List.getElem?_eq_some_iff.mp e).1
   rw[p.mem j m e r]
   constructor
   ·rintro⟨hr,hv⟩
    refine⟨hr,?_⟩
    rw[if_neg fun hb=>nj (by rw[←hv,(inB r hb).2])];exact hv
   ·rintro⟨hr,hv⟩
    refine⟨hr,?_⟩
    by_cases hb:r∈B
    ·rw[if_pos hb] at hv;omega
    ·rw[if_neg hb] at hv;exact hv
 ·by_cases hjl:j=aB.length
  ·obtain⟨b,hb⟩:=List.exists_mem_of_ne_nil _ b0
   exact⟨b,(inB b hb).1,by rw[hkd,if_pos hb,hjl]⟩
  ·by_cases hjk:j=k
   ·obtain⟨b,hb⟩:=List.exists_mem_of_ne_nil _ (a0 (hjk▸h2))
    exact⟨b,(Eh b hb).1,by rw[hkd,if_neg (dis b hb),(Eh b hb).2,hjk]⟩
   ·rw[ll] at hj
    obtain⟨r,hr,e⟩:=p.full j h2 (by omega)
    refine⟨r,hr,?_⟩
    rw[hkd,if_neg fun hb=>hjk (by rw[←e,(inB r hb).2])]
    exact e
structure fY (n L:Nat) (cG:List Nat) (S:List Nat) (J:List Nat) (ks:List Nat) (aB:List (List Nat)):Prop where
 part:Part n ks aB
 grow:L≤aB.length
 old:∀t,t<n→kd ks t=kd cG t∨(L≤kd ks t∧kd cG t∈J)
 iff:∀r s,r<n→s<n→(kd ks r=kd ks s↔kd cG r=kd cG s∧(kd cG r∈J→(r∈S↔s∈S)))
theorem fY.start {n:Nat} {ks S:List Nat} {aB:List (List Nat)} (p:Part n ks aB):fY n aB.length ks S [] ks aB:=
 ⟨p,Nat.le_refl _,fun _ _=>.inl rfl,fun r s _ _=>⟨fun e=>⟨e,fun z=>by cases z⟩,fun e=>e.1⟩⟩
theorem fY.cls {n L:Nat} {cG S J ks:List Nat} {aB:List (List Nat)} (h:fY n L cG S J ks aB) (Lk:∀r,r<n→kd cG r<L) {k:Nat} {l:List Nat} (hk:k<L) (hJ:k ∉ J) (e:aB[k]? =some l):∀r,r∈l↔r<n∧kd cG r=k:=fun r=>by
 rw[h.part.mem k l e r]
 constructor
 ·rintro⟨hr,hv⟩
  refine⟨hr,?_⟩
  rcases h.old r hr with z | ⟨z,_⟩
  ·rw[←z];exact hv
  ·omega
 ·rintro⟨hr,hv⟩
  refine⟨hr,?_⟩
  rcases h.old r hr with z | ⟨_,z⟩
  ·rw[z];exact hv
  ·rw[hv] at z;exact absurd z hJ
theorem fY.whole {n L:Nat} {cG S J ks:List Nat} {aB:List (List Nat)} (h:fY n L cG S J ks aB) {k:Nat} (all:∀r,r<n→kd cG r=k→r∈S):fY n L cG S (J++[k]) ks aB:=by
 refine⟨h.part,h.grow,fun t ht=>(h.old t ht).imp id fun z=>⟨z.1,List.mem_append_left _ z.2⟩,fun r s hr hs=>?_⟩
 rw[h.iff r s hr hs]
 constructor
 ·rintro⟨e,q⟩
  refine⟨e,fun hm=>?_⟩
  rcases List.mem_append.mp hm with hm | hm
  ·exact q hm
  ·have:=List.mem_singleton.mp hm
   exact⟨fun _=>all s hs (by rw[←e];exact this),fun _=>all r hr this⟩
 ·rintro⟨e,q⟩
  exact⟨e,fun hm=>q (List.mem_append_left _ hm)⟩
theorem fY.cut {n L:Nat} {cG S J ks:List Nat} {aB:List (List Nat)} (h:fY n L cG S J ks aB) (Lk:∀r,r<n→kd cG r<L) {k:Nat} {l some A B:List Nat} (hk:k<L) (hJ:k ∉ J) (e:aB[k]? =.some l)
  (hs:∀r,r∈some↔r∈S∧r<n∧kd cG r=k) (ns:some.Nodup) (s0:some≠[]) (lt:some.length<l.length)
  (hAB:(A=l.filter (fun r=>decide (r ∉ some))∧B=some)∨(A=some∧B=l.filter (fun r=>decide (r ∉ some)))):
  fY n L cG S (J++[k]) (putAll aB.length B ks) (aB.set k A++[B])∧B≠[]:=by
 have cl:=h.cls Lk hk hJ e
 have Iv:=h.part.nd k l e
 have sub:∀r∈some,r∈l:=fun r hr=>(cl r).mpr ((hs r).mp hr).2
 have Ei:l.filter (fun r=>decide (r ∉ some))≠[]:=fun z=>by
  have:l.length≤some.length:=List.Nodup.length_le_of_subset Iv fun r hr=>by
   by_cases hm:r∈some
   ·exact hm
   ·have:r∈l.filter (fun r=>decide (r ∉ some)):=List.mem_filter.mpr ⟨hr,decide_eq_true hm⟩
    rw[z] at this;cases this
  omega
 have mr:∀r,r∈l.filter (fun r=>decide (r ∉ some))↔r∈l∧r ∉ some:=fun r=>by rw[List.mem_filter,decide_eq_true_iff]
 have facts:A.Nodup∧B.Nodup∧(∀r,r∈l↔r∈A∨r∈B)∧(∀r,r∈A→r ∉ B)∧B≠[]∧A≠[]∧(∀r s,r∈B→s∈B→(r∈S↔s∈S))∧(∀r s,r∈A→s∈A→(r∈S↔s∈S))∧(∀r s,r∈A→s∈B→¬(r∈S↔s∈S)):=by
  have yP:∀r,r∈some→r∈S:=fun r hr=>((hs r).mp hr).1
  have qY:∀r,r∈l→r ∉ some→r ∉ S:=fun r h1 h2 z=>h2 ((hs r).mpr ⟨z,(cl r).mp h1⟩)
  rcases hAB with⟨rfl,rfl⟩ | ⟨rfl,rfl⟩
  ·refine⟨Iv.filter _,ns,fun r=>?_,fun r hr=>((mr r).mp hr).2,s0,Ei,fun r s h1 h2=>⟨fun _=>yP s h2,fun _=>yP r h1⟩,fun r s h1 h2=>⟨fun z=>absurd z (qY r ((mr r).mp h1).1 ((mr r).mp h1).2),fun z=>absurd z (qY s ((mr s).mp h2).1 ((mr s).mp h2).2)⟩,fun r s h1 h2 z=>qY r ((mr r).mp h1).1 ((mr r).mp h1).2 (z.mpr (yP s h2))⟩
   rw[mr]
   constructor
   ·intro hr
    by_cases hm:r∈B
    ·exact .inr hm
    ·exact .inl ⟨hr,hm⟩
   ·rintro(z | z)
    ·exact z.1
    ·exact sub r z
  ·refine⟨ns,Iv.filter _,fun r=>?_,fun r hr z=>((mr r).mp z).2 hr,Ei,s0,fun r s h1 h2=>⟨fun z=>absurd z (qY r ((mr r).mp h1).1 ((mr r).mp h1).2),fun z=>absurd z (qY s ((mr s).mp h2).1 ((mr s).mp h2).2)⟩,fun r s h1 h2=>⟨fun _=>yP s h2,fun _=>yP r h1⟩,fun r s h1 h2 z=>qY s ((mr s).mp h2).1 ((mr s).mp h2).2 (z.mp (yP r h1))⟩
   rw[mr]
   constructor
   ·intro hr
    by_cases hm:r∈A
    ·exact .inl hm
    ·exact .inr ⟨hr,hm⟩
   ·rintro(z | z)
    ·exact sub r z
    ·exact z.1
 obtain⟨nA,nB,un,dis,b0,a0,sB,sA,Ll⟩:=facts
 obtain⟨p',hkd⟩:=h.part.split e nA nB un dis b0 fun _=>a0
 have inB:∀r∈B,r<n∧kd cG r=k:=fun r hr=>(cl r).mp ((un r).mpr (.inr hr))
 have hg:=h.grow
 have ex:∀r,r<n→kd cG r=k→r ∉ B→r∈A:=fun r hr hv hb=>((un r).mp ((cl r).mpr ⟨hr,hv⟩)).elim id fun z=>absurd z hb
 refine⟨⟨p',by rw[List.length_append,List.length_set];omega,fun t ht=>?_,fun r s hr hs'=>?_⟩,b0⟩
 ·rw[hkd]
  by_cases hb:t∈B
  ·rw[if_pos hb]
   exact .inr ⟨hg,by rw[(inB t hb).2];simp⟩
  ·rw[if_neg hb]
   exact(h.old t ht).imp id fun z=>⟨z.1,List.mem_append_left _ z.2⟩
 ·rw[hkd,hkd]
  by_cases hb:r∈B
  ·rw[if_pos hb]
   by_cases hc:s∈B
   ·rw[if_pos hc]
    exact⟨fun _=>⟨by rw[(inB r hb).2,(inB s hc).2],fun _=>sB r s hb hc⟩,fun _=>rfl⟩
   ·rw[if_neg hc]
    have:=h.part.lt s hs'
    constructor
    ·intro z;omega
    ·rintro⟨z1,z2⟩
     have QZ:=ex s hs' (by rw[←z1];exact(inB r hb).2) hc
     exact absurd (z2 (by rw[(inB r hb).2];simp)).symm (Ll s r QZ hb)
  ·rw[if_neg hb]
   by_cases hc:s∈B
   ·rw[if_pos hc]
    have:=h.part.lt r hr
    constructor
    ·intro z;omega
    ·rintro⟨z1,z2⟩
     have hrk:kd cG r=k:=by rw[z1];exact(inB s hc).2
     exact absurd (z2 (by rw[hrk];simp)) (Ll r s (ex r hr hrk hb) hc)
   ·rw[if_neg hc,h.iff r s hr hs']
    constructor
    ·rintro⟨z1,z2⟩
     refine⟨z1,fun hm=>?_⟩
     rcases List.mem_append.mp hm with hm | hm
     ·exact z2 hm
     ·have hrk:=List.mem_singleton.mp hm
      exact sA r s (ex r hr hrk hb) (ex s hs' (by rw[←z1];exact hrk) hc)
    ·rintro⟨z1,z2⟩
     exact⟨z1,fun hm=>z2 (List.mem_append_left _ hm)⟩
theorem fY.done {n L:Nat} {cG S J ks:List Nat} {aB:List (List Nat)} (h:fY n L cG S J ks aB) (all:∀r,r∈S→kd cG r∈J):∀r s,r<n→s<n→(kd ks r=kd ks s↔kd cG r=kd cG s∧(r∈S↔s∈S)):=fun r s hr hs=>by
 rw[h.iff r s hr hs]
 constructor
 ·rintro⟨e,q⟩
  refine⟨e,?_⟩
  by_cases hm:kd cG r∈J
  ·exact q hm
  ·exact⟨fun z=>absurd (all r z) hm,fun z=>absurd (by rw[e];exact all s z) hm⟩
 ·rintro⟨e,q⟩
  exact⟨e,fun _=>q⟩
def stp (mv:List (List Nat)) (r a:Nat):Nat:=(mv.getD r []).getD a 0
def run (mv:List (List Nat)):Nat→List Nat→Nat
 | r,[]=>r
 | r,a::w=>run mv (stp mv r a) w
def lang (bs:List Bool) (mv:List (List Nat)) (r:Nat) (w:List Nat):Bool:=bs.getD (run mv r w) false
def bU (B:Nat) (w:List Nat):Prop:=∀a∈w,a<B
theorem bU.nil (B:Nat):bU B []:=fun a h=>by cases h
theorem bU.cons {B a:Nat} {w:List Nat} (h:a<B) (hw:bU B w):bU B (a::w):=fun x hx=>(List.mem_cons.mp hx).elim (fun e=>e▸h) (hw x)
theorem bU.app {B:Nat} {v w:List Nat} (hv:bU B v) (hw:bU B w):bU B (v++w):=fun x hx=>(List.mem_append.mp hx).elim (hv x) (hw x)
theorem bU.rev {B:Nat} {w:List Nat} (hw:bU B w):bU B w.reverse:=fun x hx=>hw x (List.mem_reverse.mp hx)
def Eqv (B:Nat) (bs:List Bool) (mv:List (List Nat)) (r s:Nat):Prop:=∀w,bU B w→lang bs mv r w=lang bs mv s w
theorem kI (mv:List (List Nat)):∀(v w:List Nat) (r:Nat),run mv r (v++w)=run mv (run mv r v) w
 | [],_,_=>rfl
 | a::v,w,r=>kI mv v w (stp mv r a)
theorem Moves.stp {n B:Nat} {mv:List (List Nat)} (m:Moves n B mv) {r a:Nat} (hr:r<n) (ha:a<B):stp mv r a<n:=by
 unfold My.stp
 have h1:mv[r]? =some (mv.getD r []):=item_at [] (by rw[m.len];exact hr)
 obtain⟨h2,h3⟩:=m.lead _ (List.mem_of_getElem? h1)
 have h4:=item_at 0 (show a<(mv.getD r []).length by rw[h2];exact ha)
 exact h3 _ (List.mem_of_getElem? h4)
theorem Moves.run {n B:Nat} {mv:List (List Nat)} (m:Moves n B mv):∀{w:List Nat} {r:Nat},r<n→bU B w→My.run mv r w<n
 | [],_,hr,_=>hr
 | a::w,r,hr,hw=>Moves.run m (w:=w) (m.stp hr (hw a List.mem_cons_self)) fun x hx=>hw x (List.mem_cons_of_mem _ hx)
theorem Eqv.step {B:Nat} {bs:List Bool} {mv:List (List Nat)} {r s a:Nat} (h:Eqv B bs mv r s) (ha:a<B):Eqv B bs mv (stp mv r a) (stp mv s a):=fun w hw=>h (a::w) (.cons ha hw)
structure oE (n B:Nat) (bs:List Bool) (mv:List (List Nat)) (ks:List Nat) (aB:List (List Nat)) (W:List Nat):Prop where
 part:Part n ks aB
 sound:∀r s,r<n→s<n→Eqv B bs mv r s→kd ks r=kd ks s
 yes:∀r s,r<n→s<n→kd ks r=kd ks s→bs.getD r false=bs.getD s false
 hop:∀r s,r<n→s<n→kd ks r=kd ks s→∀a,a<B→kd ks (stp mv r a)≠kd ks (stp mv s a)→kd ks (stp mv r a)∈W∨kd ks (stp mv s a)∈W
 wl:∀k∈W,k<aB.length
structure tf (n L:Nat) (mv:List (List Nat)) (cG goal:List Nat) (j:Nat) (ks:List Nat) (aB:List (List Nat)):Prop where
 part:Part n ks aB
 grow:L≤aB.length
 old:∀t,t<n→kd ks t=kd cG t∨L≤kd ks t
 iff:∀r s,r<n→s<n→(kd ks r=kd ks s↔kd cG r=kd cG s∧∀a,a<j→(stp mv r a∈goal↔stp mv s a∈goal))
theorem tf.start {n:Nat} {mv:List (List Nat)} {ks goal:List Nat} {aB:List (List Nat)} (p:Part n ks aB):tf n aB.length mv ks goal 0 ks aB:=
 ⟨p,Nat.le_refl _,fun _ _=>.inl rfl,fun r s _ _=>⟨fun e=>⟨e,fun a ha=>absurd ha (by omega)⟩,fun e=>e.1⟩⟩
theorem tf.next {n L:Nat} {mv:List (List Nat)} {cG goal ks S J ks':List Nat} {aB cP:List (List Nat)} {j:Nat} (h:tf n L mv cG goal j ks aB) (r:fY n aB.length ks S J ks' cP) (all:∀r,r∈S→kd ks r∈J)
  (hS:∀r,r<n→(r∈S↔stp mv r j∈goal)):tf n L mv cG goal (j+1) ks' cP:=by
 have d:=r.done all
 have g1:=h.grow
 have g2:=r.grow
 refine⟨r.part,by omega,fun t ht=>?_,fun a b ha hb=>?_⟩
 ·rcases r.old t ht with e | ⟨e,_⟩
  ·rw[e];exact h.old t ht
  ·exact .inr (by omega)
 ·rw[d a b ha hb,h.iff a b ha hb,hS a ha,hS b hb]
  constructor
  ·rintro⟨⟨e,q⟩,z⟩
   refine⟨e,fun c hc=>?_⟩
   by_cases hcj:c=j
   ·subst hcj;exact z
   ·exact q c (by omega)
  ·rintro⟨e,q⟩
   exact⟨⟨e,fun c hc=>q c (by omega)⟩,q j (by omega)⟩
theorem oE.turn {n B k:Nat} {bs:List Bool} {mv:List (List Nat)} {cG ks goal W:List Nat} {jy aB:List (List Nat)} (m:Moves n B mv) (h:oE n B bs mv cG jy (W++[k])) (hg:∀r,r∈goal↔r<n∧kd cG r=k) (x:tf n jy.length mv cG goal B ks aB):
  oE n B bs mv ks aB (W++List.range' jy.length (aB.length-jy.length)):=by
 have gr:=x.grow
 have Iw:∀t,t<n→kd ks t<jy.length→kd ks t=kd cG t:=fun t ht hl=>(x.old t ht).elim id fun z=>by omega
 refine⟨x.part,fun r s hr hs e=>?_,fun r s hr hs e=>h.yes r s hr hs ((x.iff r s hr hs).mp e).1,fun r s hr hs e a ha ne=>?_,fun q hq=>?_⟩
 ·refine(x.iff r s hr hs).mpr ⟨h.sound r s hr hs e,fun a ha=>?_⟩
  have e2:=h.sound _ _ (m.stp hr ha) (m.stp hs ha) (e.step ha)
  rw[hg,hg]
  exact⟨fun z=>⟨m.stp hs ha,by rw[←e2];exact z.2⟩,fun z=>⟨m.stp hr ha,by rw[e2];exact z.2⟩⟩
 ·have hr':=m.stp hr ha
  have hs':=m.stp hs ha
  have new:∀t,t<n→jy.length≤kd ks t→kd ks t∈W++List.range' jy.length (aB.length-jy.length):=fun t ht hl=>by
   have:=x.part.lt t ht
   exact List.mem_append_right _ (List.mem_range'.mpr ⟨kd ks t-jy.length,by omega,by omega⟩)
  by_cases h1:jy.length≤kd ks (stp mv r a)
  ·exact .inl (new _ hr' h1)
  by_cases h2:jy.length≤kd ks (stp mv s a)
  ·exact .inr (new _ hs' h2)
  have e1:=Iw _ hr' (by omega)
  have e2:=Iw _ hs' (by omega)
  obtain⟨e0,q⟩:=(x.iff r s hr hs).mp e
  have qa:=q a ha
  rw[hg,hg] at qa
  rw[e1,e2] at ne ⊢
  rcases h.hop r s hr hs e0 a ha ne with z | z
  ·rcases List.mem_append.mp z with z | z
   ·exact .inl (List.mem_append_left _ z)
   ·have zk:=List.mem_singleton.mp z
    exact absurd (zk.trans (qa.mp ⟨hr',zk⟩).2.symm) ne
  ·rcases List.mem_append.mp z with z | z
   ·exact .inr (List.mem_append_left _ z)
   ·have zk:=List.mem_singleton.mp z
    exact absurd ((qa.mpr ⟨hs',zk⟩).2.trans zk.symm) ne
 ·rcases List.mem_append.mp hq with z | z
  ·have:=h.wl q (List.mem_append_left _ z)
   omega
  ·obtain⟨i,hi,rfl⟩:=List.mem_range'.mp z
   omega
theorem oE.done {n B:Nat} {bs:List Bool} {mv:List (List Nat)} {ks:List Nat} {aB:List (List Nat)} (m:Moves n B mv) (h:oE n B bs mv ks aB []):∀r s,r<n→s<n→(kd ks r=kd ks s↔Eqv B bs mv r s):=by
 have Np:∀r s,r<n→s<n→kd ks r=kd ks s→∀a,a<B→kd ks (stp mv r a)=kd ks (stp mv s a):=fun r s hr hs e a ha=>by
  by_cases z:kd ks (stp mv r a)=kd ks (stp mv s a)
  ·exact z
  ·rcases h.hop r s hr hs e a ha z with q | q<;>cases q
 have all:∀w r s,r<n→s<n→kd ks r=kd ks s→bU B w→lang bs mv r w=lang bs mv s w:=by
  intro w
  induction w with
  | nil=>intro r s hr hs e _;exact h.yes r s hr hs e
  | cons a w ih=>
   intro r s hr hs e hw
   have ha:=hw a List.mem_cons_self
   exact ih _ _ (m.stp hr ha) (m.stp hs ha) (Np r s hr hs e a ha) fun x hx=>hw x (List.mem_cons_of_mem _ hx)
 exact fun r s hr hs=>⟨fun e w hw=>all w r s hr hs e hw,h.sound r s hr hs⟩
def du (bs:List Bool):List Nat:=bs.map fun b=>if b=true then 1 else 0
def dE (c:Bool) (bs:List Bool):List Nat:=(List.range bs.length).filter fun r=>bs.getD r false == c
theorem fK (bs:List Bool) (r:Nat) (h:r<bs.length):kd (du bs) r=if bs.getD r false=true then 1 else 0:=by
 unfold kd du
 rw[List.getD_eq_getElem?_getD,List.getElem?_map,item_at false h];rfl
theorem oF {c:Bool} {bs:List Bool} {r:Nat}:r∈dE c bs↔r<bs.length∧bs.getD r false=c:=by
 unfold dE
 rw[List.mem_filter,List.mem_range,beq_iff_eq]
theorem oE.start {n B:Nat} {bs:List Bool} {mv:List (List Nat)} (hn:bs.length=n) (m:Moves n B mv):oE n B bs mv (du bs) [dE false bs,dE true bs] [0,1]:=by
 subst hn
 have Lm:∀r,r<bs.length→kd (du bs) r=0∨kd (du bs) r=1:=fun r hr=>by
  rw[fK bs r hr];split
  ·exact .inr rfl
  ·exact .inl rfl
 refine⟨⟨by simp[du],fun r hr=>?_,fun k l e=>?_,fun k l e r=>?_,fun k h2 hk=>?_⟩,fun r s hr hs e=>?_,fun r s hr hs e=>?_,fun r s hr hs e a ha ne=>?_,fun k hk=>?_⟩
 ·show _<2
  rcases Lm r hr with z | z<;>omega
 ·match k,e with
  | 0,e=>rw[←Option.some.inj e];exact List.nodup_range.filter _
  | 1,e=>rw[←Option.some.inj e];exact List.nodup_range.filter _
 ·match k,e with
  | 0,e=>
   rw[←Option.some.inj e,oF]
   refine and_congr_right fun hr=>?_
   rw[fK bs r hr]
   cases bs.getD r false<;>simp
  | 1,e=>
   rw[←Option.some.inj e,oF]
   refine and_congr_right fun hr=>?_
   rw[fK bs r hr]
   cases bs.getD r false<;>simp
 ·have:k<2:=hk
  omega
 ·have:=e [] (.nil B)
  have e':bs.getD r false=bs.getD s false:=this
  rw[fK bs r hr,fK bs s hs,e']
 ·rw[fK bs r hr,fK bs s hs] at e
  cases h1:bs.getD r false<;>cases h2:bs.getD s false<;>rw[h1,h2] at e<;>first | rfl | (exact absurd e (by decide))
 ·have:=Lm _ (m.stp hr ha)
  rcases this with z | z<;>rw[z]<;>simp
 ·have:k=0∨k=1:=by simpa using hk
  show k<2
  omega
def bH:List Nat→Nat→Option Nat
 | [],s=>some s
 | t::l,s=>if t<s then bH l s else if t=s then bH l (s+1) else none
def cQ:List (List Nat)→Nat→Nat→Option Nat
 | [],_,s=>some s
 | r::rs,i,s=>if i<s then(bH r s).bind fun s'=>cQ rs (i+1) s' else none
theorem iH:∀(l:List Nat) (t s:Nat),bH (l++[t]) s=(bH l s).bind fun s'=>bH [t] s'
 | [],_,_=>rfl
 | x::l,t,s=>by
  show bH (x::(l++[t])) s=(bH (x::l) s).bind _
  simp only[bH]
  by_cases h:x<s
  ·rw[if_pos h,if_pos h];exact iH l t s
  ·rw[if_neg h,if_neg h]
   by_cases h2:x=s
   ·rw[if_pos h2,if_pos h2];exact iH l t (s+1)
   ·rw[if_neg h2,if_neg h2];rfl
theorem lN:∀(rs:List (List Nat)) (r:List Nat) (i s:Nat),cQ (rs++[r]) i s=(cQ rs i s).bind fun s'=>if i+rs.length<s' then bH r s' else none
 | [],r,i,s=>by
  show(if i<s then(bH r s).bind fun s'=>some s' else none)=if i+0<s then bH r s else none
  rw[Nat.add_zero]
  split
  ·cases bH r s<;>rfl
  ·rfl
 | x::rs,r,i,s=>by
  show(if i<s then(bH x s).bind fun s'=>cQ (rs++[r]) (i+1) s' else none)=(if i<s then(bH x s).bind fun s'=>cQ rs (i+1) s' else none).bind _
  by_cases h:i<s
  ·rw[if_pos h,if_pos h]
   cases bH x s with
   | none=>rfl
   | some s'=>
    show cQ (rs++[r]) (i+1) s'=(cQ rs (i+1) s').bind _
    rw[lN rs r (i+1) s']
    congr 1
    funext q
    rw[List.length_cons,show i+1+rs.length=i+(rs.length+1) by omega]
  ·rw[if_neg h,if_neg h];rfl
theorem lO:∀{l:List Nat} {s s':Nat},bH l s=some s'→s≤s'
 | [],s,s',h=>by have:=Option.some.inj h;omega
 | x::l,s,s',h=>by
  simp only[bH] at h
  split at h
  ·exact lO h
  ·split at h
   ·have:=lO h;omega
   ·cases h
theorem tj:∀{rs:List (List Nat)} {i s s':Nat},cQ rs i s=some s'→s≤s'
 | [],_,s,s',h=>by have:=Option.some.inj h;omega
 | r::rs,i,s,s',h=>by
  simp only[cQ] at h
  split at h
  ·cases e:bH r s with
   | none=>rw[e] at h;cases h
   | some q=>
    rw[e] at h
    have h1:=lO e
    have h2:=tj (show cQ rs (i+1) q=some s' from h)
    omega
  ·cases h
def m4 (B:Nat) (f g:List Nat→Bool):Prop:=∀w,bU B w→f w=g w
theorem m4.trans {B:Nat} {f g k:List Nat→Bool} (h:m4 B f g) (h2:m4 B g k):m4 B f k:=fun w hw=>(h w hw).trans (h2 w hw)
structure Can (B:Nat) (bs:List Bool) (mv:List (List Nat)):Prop where
 pos:0<bs.length
 bf:Moves bs.length B mv
 inj:∀i j,i<bs.length→j<bs.length→Eqv B bs mv i j→i=j
 go:cQ mv 0 1=some bs.length
 reach:∀i,i<bs.length→∃w,bU B w∧run mv 0 w=i
def gA {α:Type} (on:α→Nat→α):α→List Nat→α
 | x,[]=>x
 | x,a::w=>gA on (on x a) w
theorem vZ {α:Type} (on:α→Nat→α):∀(v w:List Nat) (x:α),gA on x (v++w)=gA on (gA on x v) w
 | [],_,_=>rfl
 | a::v,w,x=>vZ on v w (on x a)
structure dP {α:Type} (x0:α) (on:α→Nat→α) (m:Nat) (xs:List α) (mv:List (List Nat)):Prop where
 once:xs.Nodup
 first:xs[0]? =some x0
 reach:∀x∈xs,∃w,bU m w∧x=gA on x0 w
 row:∀(i:Nat) (r:List Nat),mv[i]? =some r→r.length=m∧∃x,xs[i]? =some x∧∀(c t:Nat),r[c]? =some t→xs[t]? =some (on x c)
 go:cQ mv 0 1=some xs.length
theorem dP.bf {α:Type} {x0:α} {on:α→Nat→α} {m:Nat} {xs:List α} {mv:List (List Nat)} (g:dP x0 on m xs mv) (h:mv.length=xs.length):Moves xs.length m mv:=by
 refine⟨h,fun l hl=>?_⟩
 obtain⟨i,hi⟩:=List.getElem?_of_mem hl
 obtain⟨h1,x,_,h2⟩:=g.row i l hi
 refine⟨h1,fun t ht=>?_⟩
 obtain⟨c,hc⟩:=List.getElem?_of_mem ht
 exact(List.getElem?_eq_some_iff.mp (h2 c t hc)).1
theorem dP.run {α:Type} {x0:α} {on:α→Nat→α} {m:Nat} {xs:List α} {mv:List (List Nat)} (g:dP x0 on m xs mv) (h:mv.length=xs.length):∀(w:List Nat) (i:Nat) (x:α),xs[i]? =some x→bU m w→xs[run mv i w]? =some (gA on x w)
 | [],_,_,e,_=>e
 | a::w,i,x,e,hw=>by
  have hi:=(List.getElem?_eq_some_iff.mp e).1
  have ha:=hw a List.mem_cons_self
  have h1:=item_at [] (show i<mv.length by omega)
  obtain⟨l1,y,ey,h2⟩:=g.row i _ h1
  rw[e] at ey
  have:=Option.some.inj ey
  subst this
  have h3:=item_at 0 (show a<(mv.getD i []).length by rw[l1];exact ha)
  exact dP.run g h w _ _ (h2 a _ h3) fun z hz=>hw z (List.mem_cons_of_mem _ hz)
def bh (H:Hp) (as:List Addr) (xss:List (List Nat)):Prop:=Paired (fun(b:Addr) (l:List Nat)=>H b=some (.lst ((ai l).map V.int))) as xss
theorem bh.keep {H H':Hp} {as:List Addr} {xss:List (List Nat)} (h:bh H as xss) (k:∀b∈as,∀o,H b=some o→H' b=some o):bh H' as xss:=by
 unfold bh at h ⊢
 induction h with
 | nil=>exact .nil
 | cons r t ih=>exact .cons (k _ List.mem_cons_self _ r) (ih fun b hb=>k b (List.mem_cons_of_mem _ hb))
theorem bh.at {H:Hp} {as:List Addr} {xss:List (List Nat)} {i:Nat} {b:Addr} (h:bh H as xss) (hi:as[i]? =some b):∃l,xss[i]? =some l∧H b=some (.lst ((ai l).map V.int)):=iY h hi
theorem bh.back {H:Hp}:∀{as:List Addr} {xss:List (List Nat)} {i:Nat} {l:List Nat},bh H as xss→xss[i]? =some l→∃b,as[i]? =some b∧H b=some (.lst ((ai l).map V.int))
 | _,_,_,_,.nil,e=>by simp at e
 | _,_,0,_,.cons r _,e=>by simp at e;subst e;exact⟨_,rfl,r⟩
 | _,_,i+1,_,.cons _ t,e=>by
  simp only[List.getElem?_cons_succ] at e ⊢
  exact bh.back t e
theorem bh.len {H:Hp} {as:List Addr} {xss:List (List Nat)} (h:bh H as xss):as.length=xss.length:=Paired.length h
theorem bh.snoc {H:Hp} {as:List Addr} {xss:List (List Nat)} {b:Addr} {l:List Nat} (h:bh H as xss) (e:H b=some (.lst ((ai l).map V.int))):bh H (as++[b]) (xss++[l]):=by
 unfold bh at h ⊢
 induction h with
 | nil=>exact .cons e .nil
 | cons r t ih=>exact .cons r ih
theorem bh.mem {H:Hp} {as:List Addr} {xss:List (List Nat)} {b:Addr} (h:bh H as xss) (hb:b∈as):∃l,H b=some (.lst ((ai l).map V.int)):=by
 obtain⟨i,hi⟩:=List.getElem?_of_mem hb
 obtain⟨l,_,e⟩:=h.at hi
 exact⟨l,e⟩
theorem bh.set {H:Hp}:∀{as:List Addr} {xss:List (List Nat)} {i:Nat} {b:Addr} {l:List Nat},bh H as xss→as.Nodup→as[i]? =some b→bh (upd H b (.lst ((ai l).map V.int))) as (xss.set i l)
 | _,_,_,_,_,.nil,_,e=>by simp at e
 | a::as,x::xss,0,b,l,.cons r t,nd,e=>by
  simp at e;subst e
  refine .cons af (bh.keep t fun c hc o q=>?_)
  rw[aq (fun z:c=a=>(List.nodup_cons.mp nd).1 (z▸hc))];exact q
 | a::as,x::xss,i+1,b,l,.cons r t,nd,e=>by
  simp only[List.getElem?_cons_succ] at e
  refine .cons ?_ (bh.set t (List.nodup_cons.mp nd).2 e)
  rw[aq (fun z:a=b=>(List.nodup_cons.mp nd).1 (z▸List.mem_of_getElem? e))];exact r
def fU (mv:List (List Nat)) (n x i:Nat):List (List Nat):=(List.range n).map fun t=>(List.range i).filter fun r=>stp mv r x == t
theorem jz {mv:List (List Nat)} {n x i t:Nat} (h:t<n):(fU mv n x i)[t]? =some ((List.range i).filter fun r=>stp mv r x == t):=by
 unfold fU
 rw[List.getElem?_map,List.getElem?_range h];rfl
theorem Af {mv:List (List Nat)} {n x i:Nat} (h:stp mv i x<n):fU mv n x (i+1)=(fU mv n x i).set (stp mv i x) (((List.range i).filter fun r=>stp mv r x == stp mv i x)++[i]):=by
 have ln:∀j,(fU mv n x j).length=n:=fun j=>by unfold fU;rw[List.length_map,List.length_range]
 refine List.ext_getElem? fun t=>?_
 by_cases ht:t<n
 ·rw[jz ht]
  by_cases e:t=stp mv i x
  ·subst e
   rw[List.getElem?_set_self (by rw[ln];exact h),List.range_succ,List.filter_append]
   congr 2
   simp
  ·rw[List.getElem?_set_ne (Ne.symm e),jz ht,List.range_succ,List.filter_append]
   congr 1
   have:(stp mv i x == t)=false:=beq_false_of_ne (Ne.symm e)
   simp[this]
 ·rw[List.getElem?_eq_none (by rw[ln];omega),List.getElem?_eq_none (by rw[List.length_set,ln];omega)]
def Iy (K:PySem.W.Frag):Sp:=fun vs H Q _=>∃(va:Addr) (ps:List Addr) (mv:List (List Nat)) (n B x:Nat),vs=[.ref va,.int x]∧H va=some (.tup (ps.map V.ref))∧fB H ps (mv.map ai)∧Moves n B mv∧x<B∧n≤1000∧
 ∀(t:Addr) (as:List Addr) (H':Hp),H t=none→(∀b∈as,H b=none)→as.Nodup→t ∉ as→Same H H'→H' t=some (.lst (as.map V.ref))→bh H' as (fU mv n x n)→Q (.ref t) H'
theorem gp:aW ["moves","letter","into","room","leads"] ["moves","letter"] (ak dr):=⟨rfl,rfl,rfl,by decide+kernel,rfl,by decide+kernel,by decide+kernel⟩
theorem mf {a:eY} (T:Txt K mg a):bD P w K mg base cE 1 a.gQ a.iN ["moves","letter"] (Iy K):=by
 refine T.vM.ok gp (fun vs H Q E h=>?_) (fun cdv A outer s H vs Q E hr h=>?_)
 ·obtain⟨va,ps,mv,n,B,x,rfl,_⟩:=h
  rfl
 ·obtain⟨va,ps,mv,n,B,x,rfl,e3,tp,bf,hx,hn,k⟩:=h
  refine⟨_,(ah (eZ (i:=2) (aD.mk' (esc:=ak dr) (N:=["moves","letter","into","room","leads"]) (own:=["leads"]) (aJ:=[]) (bx:=[]) rfl rfl (by decide+kernel)) rfl (fZ (pv 0)) (fun _ _ _ _=>(ax (i:=0) (show List.Nodup (["leads"]:List Str) by decide+kernel) rfl (Or.inl rfl))) (fun _ _ _ _=>bG) (fun _ _ _ _=>(cq ag)) gp.nd rfl rfl)
  (ah (bF PassesOwn.never rfl (jo rfl T.d_ (ae (pv 0) ag)) (my rfl (bu (ax (i:=3) gp.nd rfl (Or.inl rfl)) (bu (ax (i:=4) gp.nd rfl (Or.inl rfl)) fO)))
   (au (bR (cL PySem.F.plainAttrs_list PySem.F.slot_list_append PySem.F.type_list_append bS (aH (bq K) (pv 2) (aH (aM K) (pv 4) (pv 1) (fun _ _=>rfl)) (fun _ _=>rfl)) (ae (pv 3) ag)))))
  (au (aY (pv 2))))),?_⟩
  have big:(2000:Nat)≤sizeLine:=by decide
  have lps:ps.length=n:=by rw[Paired.length tp,List.length_map,bf.len]
  refine⟨_,rfl,va,rfl,⟨_,.of e3⟩,fun L hL=>?_⟩
  refine g_ (xs:=ps.map V.ref) (fun j σ H'=>∃(v:Option V) (as:List Addr),σ=[v]∧Same H H'∧H' L=some (.lst (as.map V.ref))∧as.length=j∧(∀b∈as,H b=none)∧as.Nodup∧L ∉ as∧bh H' as ((List.range j).map fun _=>[]))
   ⟨none,[],?sg,Same.new hL,af,rfl,fun b hb=>(by cases hb),by simp,by simp,.nil⟩ (fun j σ H' _ ⟨_,_,_,s',_⟩=>.of (s' _ _ e3)) ?_ ?_
  case sg=>rfl
  ·rintro j y σ H1 hy ⟨v,as,rfl,s1,l1,la,fr,nd,nl,ls⟩
   have hj:j<n:=by
    have:=(List.getElem?_eq_some_iff.mp hy).1
    rw[List.length_map,lps] at this;exact this
   refine⟨by show 0≤sizeLine;omega,fun b hb=>?_⟩
   have Ln:L≠b:=aj l1 hb
   have sb:=Same.new (o:=.lst []) hb
   have bn:b ∉ as:=fun z=>by obtain⟨l,e⟩:=ls.mem z;rw[hb] at e;cases e
   refine⟨_,sb _ _ l1,by rw[List.length_map];omega,_,as++[b],rfl,(s1.trans sb).kbn hL KB.write,by rw[af,List.map_append];rfl,by rw[List.length_append,la];rfl,fun c hc=>?_,?_,?_,?_⟩
   ·rcases List.mem_append.mp hc with z | z
    ·exact fr c z
    ·rw[List.mem_singleton.mp z];exact s1.free hb
   ·rw[List.nodup_append]
    exact⟨nd,by simp,fun x hx y hy e=>bn (by rw[←List.mem_singleton.mp hy,←e];exact hx)⟩
   ·intro z
    rcases List.mem_append.mp z with z | z
    ·exact nl z
    ·exact Ln (List.mem_singleton.mp z)
   ·rw[List.range_succ,List.map_append]
    refine bh.snoc (ls.keep fun c hc o q=>?_) ?_
    ·rw[aq (fun z:c=L=>nl (z▸hc))];exact sb _ _ q
    ·rw[aq Ln.symm,af];rfl
  rintro σ H1 ⟨v,as,rfl,s1,l1,la,fr,nd,nl,ls⟩
  rw[List.length_map,lps] at la ls
  have e0:((List.range n).map fun _=>([]:List Nat))=fU mv n x 0:=by unfold fU;simp
  rw[e0] at ls
  dsimp only[aC]
  refine⟨_,rfl,_,rfl,⟨_,.of (s1 _ _ e3)⟩,?_⟩
  refine A5 (xs:=ps.map V.ref) (fun i σ H'=>∃v3 v4:Option V,σ=[some (.ref va),some (.int (x:Nat)),some (.ref L),v3,v4]∧Same H H'∧H' L=some (.lst (as.map V.ref))∧bh H' as (fU mv n x i))
   ⟨none,none,rfl,s1,l1,ls⟩ (fun i σ H' _ ⟨_,_,_,s',_⟩=>.of (s' _ _ e3)) ?_ ?_
  ·rintro i y p σ H2 hy ⟨v3,v4,rfl,s2,l2,BI⟩ hp
   obtain⟨q,rfl,eq⟩:=ij hy
   have hi:i<n:=by rw[←lps];exact(List.getElem?_eq_some_iff.mp eq).1
   obtain⟨r1,r2,r3⟩:=bf.row (tp.keep s2.kt) hi
   rw[r1] at eq
   have eq':=Option.some.inj eq
   subst eq'
   have sp:=Same.new (o:=.tup [.int (i:Nat),.ref (ps.getD i 0)]) hp
   have hst:=bf.stp hi hx
   have ex:((ai (mv.getD i [])).map V.int)[x]? =some (.int (stp mv i x:Nat)):=cN (by rw[r3];exact hx)
   obtain⟨b,hb⟩:∃b,as[stp mv i x]? =some b:=⟨_,List.getElem?_eq_getElem (by rw[la];exact hst)⟩
   obtain⟨l,el,hl⟩:=BI.at hb
   rw[jz hst] at el
   have BJ:=Option.some.inj el
   have bL:L≠b:=fun z=>nl (z▸List.mem_of_getElem? hb)
   have KI:H b=none:=fr b (List.mem_of_getElem? hb)
   refine⟨p,_,rfl,.of af,rfl,_,_,rfl,_,_,rfl,rfl,?_⟩
   refine⟨_,rfl,_,rfl,_,rfl,_,_,_,_,rfl,rfl,.of (sp _ _ r2),aA ex,L,_,_,V.ref b,rfl,rfl,.of (sp _ _ l2),aA (by rw[List.getElem?_map,hb];rfl),Or.inl ⟨rfl,_,.of (sp _ _ hl)⟩,_,rfl,b,_,_,rfl,rfl,sp _ _ hl,?_,?_⟩
   ·rw[List.length_map,aw,←BJ]
    have:=List.length_filter_le (fun r=>stp mv r x == stp mv i x) (List.range i)
    rw[List.length_range] at this
    omega
   ·refine⟨_,_,rfl,(s2.trans sp).kbn KI KB.write,by rw[aq bL];exact sp _ _ l2,?_⟩
    rw[Af hst,BJ]
    have:=bh.set (l:=l++[i]) (BI.keep fun c _ o q=>sp c o q) nd hb
    rw[aS,List.map_append] at this
    exact this
  ·rintro σ H2 ⟨v3,v4,rfl,s2,l2,BI⟩
   rw[List.length_map,lps] at BI
   exact⟨_,rfl,k L as H2 hL fr nd nl s2 l2 BI⟩
structure Mem (H:Hp) (d e:Addr) (ks:List Nat) (es:List Addr) (aB:List (List Nat)):Prop where
 kn:H d=some (.lst ((ai ks).map V.int))
 ms:H e=some (.lst (es.map V.ref))
 ne:d≠e
 nin:∀b∈es,b≠d∧b≠e
 ls:bh H es aB
theorem Mem.same {H H':Hp} {d e:Addr} {ks:List Nat} {es:List Addr} {aB:List (List Nat)} (m:Mem H d e ks es aB) (s:Same H H'):Mem H' d e ks es aB:=
 ⟨s _ _ m.kn,s _ _ m.ms,m.ne,m.nin,m.ls.keep fun b _ o q=>s b o q⟩
def gq (r:Nat):Key×V:=(Sum.inl (r:Int),.bl true)
theorem qg:∀(S:List Nat) (acc:List (Key×V)) (t:Nat),aX (cu acc (S.map gq)) (Sum.inl (t:Int))=if t∈S then some (.bl true) else aX acc (Sum.inl (t:Int))
 | [],_,_=>by simp[cu]
 | r::S,acc,t=>by
  show aX (cu (putK acc (gq r).1 (gq r).2) (S.map gq)) (Sum.inl (t:Int))=_
  rw[qg S,uK]
  by_cases h:t∈S
  ·rw[if_pos h,if_pos (List.mem_cons_of_mem _ h)]
  ·rw[if_neg h]
   by_cases h2:t=r
   ·subst h2
    rw[if_pos (show(Sum.inl (t:Int):Key)=(gq t).1 from rfl),if_pos List.mem_cons_self];rfl
   ·rw[if_neg fun z=>h2 (by injection z with z;omega),if_neg fun z=>(List.mem_cons.mp z).elim h2 h]
def restOf (S l:List Nat):List Nat:=l.filter fun r=>decide (r ∉ S)
def FT (K:PySem.W.Frag):Sp:=fun vs H Q _=>∃(k:Nat) (s d e:Addr) (S ks:List Nat) (es:List Addr) (aB:List (List Nat)) (l:List Nat),vs=[.int k,.ref s,.ref d,.ref e]∧Mem H d e ks es aB∧H s=some (.lst ((ai S).map V.int))∧s≠d∧s≠e∧
 aB[k]? =some l∧(∀r∈S,r<ks.length)∧(∀r∈l,r<ks.length)∧aB.length≤2000∧S.length≤2000∧l.length≤2000∧
 ∀(H':Hp) (es':List Addr) (A B:List Nat),mO d e H H'→((A=restOf S l∧B=S)∨(A=S∧B=restOf S l))→Mem H' d e (putAll aB.length B ks) es' (aB.set k A++[B])→(∀b∈es',b∈es∨b=s∨H b=none)→Q .non H'
theorem dG:aW ["kind","some","kinds","members","inside","rest","lesser","room"] ["kind","some","kinds","members"] (ak cO):=⟨rfl,rfl,rfl,by decide+kernel,rfl,by decide+kernel,by decide+kernel⟩
theorem iB {α β:Type} {F:α→β→Prop} {l:List α} {m:List β} {a:α} {b:β} (h:Paired F l m) (r:F a b):Paired F (l++[a]) (m++[b]):=by
 induction h with
 | nil=>exact .cons r .nil
 | cons q t ih=>exact .cons q ih
theorem qZ {n j:Nat} (h:j<n):mE n (j:Int)=some j:=by
 have:=aA (xs:=List.range n) (j:=j) (v:=j) (List.getElem?_range h)
 unfold mF at this
 rw[List.length_range] at this
 cases e:mE n (j:Int) with
 | none=>rw[e] at this;cases this
 | some i=>
  rw[e] at this
  have h2:(List.range n)[i]? =some j:=this
  obtain⟨h3,h4⟩:=List.getElem?_eq_some_iff.mp h2
  rw[List.getElem_range] at h4
  rw[h4]
theorem bh.Iz {H:Hp}:∀{as:List Addr} {xss:List (List Nat)} (i:Nat) {b:Addr} {l:List Nat},bh H as xss→H b=some (.lst ((ai l).map V.int))→bh H (as.set i b) (xss.set i l)
 | _,_,_,_,_,.nil,_=>.nil
 | _::_,_::_,0,_,_,.cons _ t,e=>.cons e t
 | _::_,_::_,i+1,_,_,.cons r t,e=>.cons r (bh.Iz i t e)
theorem BK (ks:List Nat) (r v:Nat):(ai ks).set r (v:Int)=ai (ks.set r v):=by unfold ai;rw[List.map_set]
set_option maxHeartbeats 8000000 in
theorem tY {a:eY} (T:Txt K mg a):bD P w K mg base cE 1 a.gR a.iO ["kind","some","kinds","members"] (FT K):=by
 refine T.vN.ok dG (fun vs H Q E h=>?_) (fun cdv Ar outer sh H vs Q E hr h=>?_)
 ·obtain⟨k,s,d,e,S,ks,es,aB,l,rfl,_⟩:=h
  rfl
 ·obtain⟨k,s,d,e,S,ks,es,aB,l,rfl,M,hs,sd,se,hk,rS,rl,b1,b2,b3,q⟩:=h
  refine⟨_,(ah (av (i:=4) dG.nd rfl (Or.inr rfl) (bt (pY hr.hd) (by rfl) T.Bz yw (ae (cA (aD.mk' (esc:=ak cO) (N:=["kind","some","kinds","members","inside","rest","lesser","room"]) (own:=["room"]) (aJ:=[]) (bx:=[]) rfl rfl (by decide+kernel)) rfl (cR (pv 1)) (fun _ _ _ _=>(ax (i:=0) (show List.Nodup (["room"]:List Str) by decide+kernel) rfl (Or.inl rfl))) (fun _ _ _ _=>bG) (fun _ _ _ _=>(iD (ae (pv 0) (ae jH ag))))) ag)))
  (ah (eZ (i:=5) (aD.mk' (esc:=ak cO) (N:=["kind","some","kinds","members","inside","rest","lesser","room"]) (own:=["room"]) (aJ:=["inside"]) (bx:=[4]) rfl rfl (by decide+kernel)) rfl (cR (aH (bq K) (pv 3) (pv 0) (fun _ _=>rfl))) (fun _ _ _ _=>(ax (i:=0) (show List.Nodup (["room","inside"]:List Str) by decide+kernel) rfl (Or.inl rfl))) (fun _ _ _ _=>(jk (Av (rN (iX hr) (pv 0) (pv 1)) (by with_unfolding_all rfl)))) (fun _ _ _ _=>(pv 0)) dG.nd rfl rfl)
  (ah (dy (br DQ (aF (aK K) (by rfl) T.bM bo (ae (pv 1) ag)) (aF (aK K) (by rfl) T.bM bo (ae (pv 5) ag)) (bQ _))
   (ah (j8 (pv 5) (pI (pv 3) (pv 0) set_list))
   (au (av (i:=6) dG.nd rfl (Or.inl rfl) (pv 1))))
   (ah (j8 (pv 1) (pI (pv 3) (pv 0) set_list))
   (au (av (i:=6) dG.nd rfl (Or.inl rfl) (pv 5)))))
  (ah (bF PassesOwn.never rfl (cR (pv 6)) (ax (i:=7) dG.nd rfl (Or.inl rfl))
   (au (j8 (aF (aK K) (by rfl) T.bM bo (ae (pv 3) ag)) (pI (pv 2) (pv 7) set_list))))
  (au (bR (cL PySem.F.plainAttrs_list PySem.F.slot_list_append PySem.F.type_list_append bS (pv 3) (ae (pv 6) ag)))))))),?_⟩
  have big:(10000:Nat)≤sizeLine:=by decide
  have hkl:k<aB.length:=(List.getElem?_eq_some_iff.mp hk).1
  have lem:es.length=aB.length:=M.ls.len
  refine⟨_,rfl,s,rfl,⟨_,.of hs⟩,fun C hC=>?_⟩
  refine gC (xs:=(ai S).map V.int) (fun j σ H'=>∃(v:Option V) (ps:List Addr),σ=[v]∧Same H H'∧H' C=some (.lst (ps.map V.ref))∧ps.length=j∧Paired (fun(p:Addr) (x:Key×V)=>H' p=some (.tup [kV x.1,x.2])) ps ((S.take j).map gq))
   ⟨none,[],?sg,Same.new hC,af,rfl,.nil⟩ (fun j σ H' _ ⟨_,_,_,s',_⟩=>.of (s' _ _ hs)) ?_ ?_
  case sg=>rfl
  ·rintro j y σ H1 hy ⟨v,ps,rfl,s1,c1,lp,pr⟩
   obtain⟨r,rfl,er⟩:=cV hy
   have hj:j<S.length:=(List.getElem?_eq_some_iff.mp er).1
   refine⟨_,rfl,by show 2≤sizeLine;omega,fun p hp=>?_⟩
   have Q_:C≠p:=aj c1 hp
   have sp:=Same.new (o:=.tup [.int (r:Nat),.bl true]) hp
   refine⟨_,sp _ _ c1,by rw[List.length_map];omega,_,ps++[p],rfl,(s1.trans sp).kbn hC KB.write,by rw[af,List.map_append];rfl,by rw[List.length_append,lp];rfl,?_⟩
   rw[take_snoc er,List.map_append]
   refine iB (Paired.ml pr fun b x z=>?_) ?_
   ·have:b≠C:=jF z c1 (fun z=>nomatch z)
    rw[aq this];exact sp _ _ z
   ·rw[aq Q_.symm,af];rfl
  rintro σ H1 ⟨v,ps,rfl,s1,c1,lp,pr⟩
  rw[List.length_map,aw,List.take_length] at pr
  refine⟨C,ps,S.map gq,rfl,c1,pr,by rw[List.length_map];omega,fun Di hDi=>?_⟩
  have sD:=Same.new (o:=.dK (cu [] (S.map gq))) hDi
  have hD2:(upd H1 Di (.dK (cu [] (S.map gq)))) Di=some (.dK (cu [] (S.map gq))):=af
  have s2:=s1.trans sD
  generalize upd H1 Di (.dK (cu [] (S.map gq)))=H2 at hD2 s2 ⊢
  have M2:=M.same s2
  obtain⟨bl,IA,Lp⟩:=M2.ls.back hk
  dsimp only[aC]
  refine⟨_,rfl,_,rfl,e,_,_,.ref bl,rfl,rfl,.of M2.ms,aA (by rw[List.getElem?_map,IA];rfl),bl,rfl,⟨_,.of Lp⟩,fun Rr hR=>?_⟩
  refine gC (xs:=(ai l).map V.int) (fun j σ H'=>∃(v:Option V),σ=[v,some (.ref Di)]∧Same H2 H'∧H' Rr=some (.lst ((ai (restOf S (l.take j))).map V.int)))
   ⟨none,?sg2,Same.new hR,af⟩ (fun j σ H' _ ⟨_,_,s',_⟩=>.of (s' _ _ Lp)) ?_ ?_
  case sg2=>rfl
  ·rintro j y σ H3 hy ⟨v,rfl,s3,r3⟩
   obtain⟨r,rfl,er⟩:=cV hy
   have hj:j<l.length:=(List.getElem?_eq_some_iff.mp er).1
   have lr:(restOf S (l.take j)).length≤j:=Nat.le_trans (List.length_filter_le _ _) (by rw[List.length_take];omega)
   refine⟨_,rfl,_,rfl,Di,_,rfl,jj.k (k:=Sum.inl (r:Int)) (s3 _ _ hD2),_,rfl,?_⟩
   have ev:aX (cu [] (S.map gq)) (Sum.inl (r:Int))=if r∈S then some (.bl true) else none:=by rw[qg];rfl
   rw[ev]
   have et:restOf S (l.take (j+1))=restOf S (l.take j)++(if r∈S then [] else [r]):=by
    unfold restOf
    rw[take_snoc er,List.filter_append]
    by_cases hm:r∈S
    ·simp[hm]
    ·simp[hm]
   by_cases hm:r∈S
   ·rw[if_pos hm]
    refine dR ⟨_,rfl,s3,?_⟩
    rw[et,if_pos hm,List.append_nil];exact r3
   ·rw[if_neg hm]
    refine mJ ⟨_,rfl,_,r3,by rw[List.length_map,aw];omega,_,rfl,s3.kbn hR KB.write,?_⟩
    rw[af,et,if_neg hm,aS,List.map_append];rfl
  rintro σ H3 ⟨v,rfl,s3,r3⟩
  rw[List.length_map,aw,List.take_length] at r3
  have M3:=M2.same s3
  have hs3:=s3 _ _ (s2 _ _ hs)
  have Rd:Rr≠d:=(aj M2.kn hR).symm
  have Re:Rr≠e:=(aj M2.ms hR).symm
  have Ej:=s2.trans s3
  have D3:H Rr=none:=s2.free hR
  generalize hrest:restOf S l=Rs at r3 q
  have Uu:Rs.length≤l.length:=by rw[←hrest];exact List.length_filter_le _ _
  have KJ:∀r∈Rs,r<ks.length:=fun r hr=>rl r (by rw[←hrest] at hr;exact(List.mem_filter.mp hr).1)
  dsimp only[aC]
  refine jl (t:=uz _ _ _) (u:=mx _ _) (fun σ H'=>∃(lb la:Addr) (A B:List Nat),σ=[some (.int (k:Nat)),some (.ref s),some (.ref d),some (.ref e),some (.ref Di),some (.ref Rr),some (.ref lb),none]∧KB e H3 H'∧((A=Rs∧B=S)∨(A=S∧B=Rs))∧H' e=some (.lst ((es.set k la).map V.ref))∧
   H3 la=some (.lst ((ai A).map V.int))∧H3 lb=some (.lst ((ai B).map V.int))∧lb≠d∧lb≠e∧la≠d∧la≠e∧B.length≤2000∧(∀r∈B,r<ks.length)∧(la=s∨H la=none)∧(lb=s∨H lb=none)) ?re (fun rest=>?_)
  case re=>
   rintro σ H4 ⟨lb,la,A,B,rfl,k4,hAB,e4,Q0,IB,IC,IE,Lq,IG,lB,rB,fla,flb⟩
   have d4:H4 d=some (.lst ((ai ks).map V.int)):=k4 _ _ M3.kn M.ne
   have IH:=k4 _ _ IB IE
   have Q3:=k4 _ _ Q0 IG
   have Q4:bh H4 es aB:=M3.ls.keep fun b hb o z=>k4 b o z (M.nin b hb).2
   refine⟨_,rfl,lb,rfl,⟨_,.of IH⟩,fw (xs:=(ai B).map V.int) (fun i σ H'=>∃v7:Option V,σ=[some (.int (k:Nat)),some (.ref s),some (.ref d),some (.ref e),some (.ref Di),some (.ref Rr),some (.ref lb),v7]∧KB d H4 H'∧H' d=some (.lst ((ai (putAll aB.length (B.take i) ks)).map V.int)))
    ⟨none,rfl,KB.refl _ _,d4⟩ (fun i σ H' _ ⟨_,_,k',_⟩=>.of (k' _ _ IH IC)) ?_ ?_⟩
   ·rintro i y σ H5 hy ⟨v7,rfl,k5,d5⟩
    obtain⟨r,rfl,er⟩:=cV hy
    have hrk:r<ks.length:=rB r (List.mem_of_getElem? er)
    have e5:=k5 _ _ e4 M.ne.symm
    have ll:(putAll aB.length (B.take i) ks).length=ks.length:=lM _ _ _
    refine⟨_,rfl,_,(es.set k la).length,rfl,.inl ⟨_,.of e5,by rw[List.length_map]⟩,?_⟩
    refine⟨_,rfl,_,rfl,d,_,_,r,rfl,rfl,d5,?_,_,rfl,k5.trans KB.write,?_⟩
    ·rw[List.length_map,aw,ll];exact qZ hrk
    ·rw[af,take_snoc er,putAll_snoc,List.length_set,lem,←List.map_set,BK]
   ·rintro σ H5 ⟨v7,rfl,k5,d5⟩
    rw[List.length_map,aw,List.take_length] at d5
    have e5:=k5 _ _ e4 M.ne.symm
    have Q5:=k5 _ _ IH IC
    have Q6:=k5 _ _ Q3 Lq
    have II:bh H5 es aB:=Q4.keep fun b hb o z=>k5 b o z (M.nin b hb).1
    refine⟨_,rfl,Or.inl ⟨rfl,_,.of e5⟩,_,rfl,e,_,_,rfl,rfl,e5,by rw[List.length_map,List.length_set];omega,?_⟩
    refine q _ (es.set k la++[lb]) A B (fun b o z n1 n2=>?_) hAB ⟨?_,?_,M.ne,fun b hb=>?_,?_⟩ (fun b hb=>?_)
    ·rw[aq n2];exact k5 _ _ (k4 _ _ (Ej _ _ z) n2) n1
    ·rw[aq M.ne];exact d5
    ·rw[af,List.map_append];rfl
    ·rcases List.mem_append.mp hb with z | z
     ·rcases List.mem_or_eq_of_mem_set z with z | z
      ·exact M.nin b z
      ·rw[z];exact⟨Lq,IG⟩
     ·rw[List.mem_singleton.mp z];exact⟨IC,IE⟩
    ·have ne:∀b∈es.set k la++[lb],b≠e:=fun b hb=>by
      rcases List.mem_append.mp hb with z | z
      ·rcases List.mem_or_eq_of_mem_set z with z | z
       ·exact(M.nin b z).2
       ·rw[z];exact IG
      ·rw[List.mem_singleton.mp z];exact IE
     refine bh.keep (bh.snoc (bh.Iz k II Q6) Q5) fun b hb o z=>?_
     rw[aq (ne b hb)];exact z
    ·rcases List.mem_append.mp hb with z | z
     ·rcases List.mem_or_eq_of_mem_set z with z | z
      ·exact .inl z
      ·rw[z];exact .inr fla
     ·rw[List.mem_singleton.mp z];exact .inr flb
  refine⟨_,rfl,_,S.length,rfl,.inl ⟨_,.of hs3,by rw[List.length_map,aw]⟩,?_⟩
  refine⟨_,rfl,_,Rs.length,rfl,.inl ⟨_,.of r3,by rw[List.length_map,aw]⟩,_,_,rfl,rfl,_,rfl,?_⟩
  refine fW (fun z=>?_) (fun z=>?_)
  ·refine⟨_,rfl,_,rfl,_,rfl,e,_,_,k,rfl,rfl,M3.ms,?_,_,rfl,?_⟩
   ·rw[List.length_map,lem];exact qZ hkl
   ·refine rest _ _ ⟨s,Rr,Rs,S,rfl,KB.write,.inl ⟨rfl,rfl⟩,?_,r3,hs3,sd,se,Rd,Re,b2,rS,.inr D3,.inl rfl⟩
    rw[af,List.map_set]
  ·refine⟨_,rfl,_,rfl,_,rfl,e,_,_,k,rfl,rfl,M3.ms,?_,_,rfl,?_⟩
   ·rw[List.length_map,lem];exact qZ hkl
   ·refine rest _ _ ⟨Rr,s,S,Rs,rfl,KB.write,.inr ⟨rfl,rfl⟩,?_,hs3,r3,Rd,Re,sd,se,by omega,KJ,.inl rfl,.inr D3⟩
    rw[af,List.map_set]
def fj (KS:List Nat) (bs:List Addr):List (Key×V):=List.zipWith (fun(k:Nat) (b:Addr)=>((Sum.inl (k:Int):Key),V.ref b)) KS bs
theorem mh:∀{KS:List Nat} {bs:List Addr} {k:Nat},k ∉ KS→aX (fj KS bs) (Sum.inl (k:Int))=none
 | [],_,_,_=>rfl
 | _::_,[],_,_=>rfl
 | q::KS,b::bs,k,h=>by
  show aX (((Sum.inl (q:Int):Key),V.ref b)::fj KS bs) _=none
  rw[bP (fun z=>h (by injection z with z;have:k=q:=(by omega);rw[this];exact List.mem_cons_self))]
  exact mh fun z=>h (List.mem_cons_of_mem _ z)
theorem lP:∀{KS:List Nat} {bs:List Addr} {i k:Nat} {b:Addr},KS.Nodup→KS[i]? =some k→bs[i]? =some b→aX (fj KS bs) (Sum.inl (k:Int))=some (.ref b)
 | [],_,_,_,_,_,h,_=>by simp at h
 | _::_,[],_,_,_,_,_,h=>by simp at h
 | q::KS,c::bs,0,k,b,_,h1,h2=>by
  simp at h1 h2;subst h1;subst h2
  exact bY rfl
 | q::KS,c::bs,i+1,k,b,nd,h1,h2=>by
  simp only[List.getElem?_cons_succ] at h1 h2
  have hm:=List.mem_of_getElem? h1
  show aX (((Sum.inl (q:Int):Key),V.ref c)::fj KS bs) _=_
  rw[bP (fun z=>(List.nodup_cons.mp nd).1 (by injection z with z;have:k=q:=(by omega);rw[←this];exact hm))]
  exact lP (List.nodup_cons.mp nd).2 h1 h2
theorem wa:∀{KS:List Nat} {bs:List Addr} {k:Nat} {b:Addr},KS.length=bs.length→fj (KS++[k]) (bs++[b])=fj KS bs++[((Sum.inl (k:Int):Key),V.ref b)]
 | [],[],_,_,_=>rfl
 | [],_::_,_,_,h=>by simp at h
 | _::_,[],_,_,h=>by simp at h
 | q::KS,c::bs,k,b,h=>by
  show _::fj (KS++[k]) (bs++[b])=_::(fj KS bs++_)
  rw[wa (by simpa using h)]
theorem IJ {KS:List Nat} {bs:List Addr} {i:Nat} {k:Key} {v:V} (h:(fj KS bs)[i]? =some (k,v)):∃(q:Nat) (b:Addr),KS[i]? =some q∧bs[i]? =some b∧k=Sum.inl (q:Int)∧v=.ref b:=by
 unfold fj at h
 rw[List.getElem?_zipWith] at h
 cases h1:KS[i]? with
 | none=>rw[h1] at h;cases h
 | some q=>
  cases h2:bs[i]? with
  | none=>rw[h1,h2] at h;cases h
  | some b=>
   rw[h1,h2] at h
   have:=Option.some.inj h
   cases this
   exact⟨q,b,rfl,rfl,rfl,rfl⟩
theorem yQ {KS:List Nat} {bs:List Addr} (h:KS.length=bs.length):(fj KS bs).length=KS.length:=by unfold fj;rw[List.length_zipWith];omega
def grp (ks S:List Nat) (k:Nat):List Nat:=S.filter fun r=>kd ks r == k
theorem oG {ks S:List Nat} {r:Nat}:grp ks (S++[r]) (kd ks r)=grp ks S (kd ks r)++[r]:=by unfold grp;rw[List.filter_append];simp
theorem oH {ks S:List Nat} {r k:Nat} (h:k≠kd ks r):grp ks (S++[r]) k=grp ks S k:=by
 have:(kd ks r == k)=false:=beq_false_of_ne (Ne.symm h)
 unfold grp
 rw[List.filter_append,List.filter_cons_of_neg (p:=fun r=>kd ks r == k) (by rw[this];exact Bool.false_ne_true),List.filter_nil,List.append_nil]
theorem i9 {ks S:List Nat} {k r:Nat}:r∈grp ks S k↔r∈S∧kd ks r=k:=by unfold grp;rw[List.mem_filter,beq_iff_eq]
theorem BL (ks S:List Nat) (k:Nat):(grp ks S k).length≤S.length:=List.length_filter_le _ _
structure Groups (H0 H:Hp) (D:Addr) (ks S KS:List Nat) (bs:List Addr):Prop where
 dict:H D=some (.dK (fj KS bs))
 len:KS.length=bs.length
 once:KS.Nodup
 nd:bs.Nodup
 fresh:∀b∈bs,H0 b=none
 out:D ∉ bs
 ls:bh H bs (KS.map (grp ks S))
 keys:∀k,k∈KS↔∃r∈S,kd ks r=k
def Dm (K:PySem.W.Frag):Sp:=fun vs H Q _=>∃(n:Nat) (s d e:Addr) (S ks:List Nat) (es:List Addr) (aB:List (List Nat)),vs=[.ref s,.ref d,.ref e]∧Mem H d e ks es aB∧H s=some (.lst ((ai S).map V.int))∧s≠d∧s≠e∧Part n ks aB∧S.Nodup∧(∀r∈S,r<n)∧n≤1000∧
 ∀(H':Hp) (es':List Addr) (ks':List Nat) (cP:List (List Nat)) (J:List Nat),mO d e H H'→Mem H' d e ks' es' cP→fY n aB.length ks S J ks' cP→(∀r,r∈S→kd ks r∈J)→(∀b∈es',b∈es∨H b=none)→Q .non H'
theorem Part.small {n:Nat} {ks:List Nat} {aB:List (List Nat)} (p:Part n ks aB) {k:Nat} {l:List Nat} (h:aB[k]? =some l):l.length≤n:=by
 have:=List.Nodup.length_le_of_subset (l₂:=List.range n) (p.nd k l h) fun r hr=>List.mem_range.mpr ((p.mem k l h r).mp hr).1
 rw[List.length_range] at this
 exact this
theorem fV:aW ["some","kinds","members","by_kind","room","kind"] ["some","kinds","members"] (ak dC):=⟨rfl,rfl,rfl,by decide+kernel,rfl,by decide+kernel,by decide+kernel⟩
set_option maxHeartbeats 8000000 in
theorem q_ {a:eY} (T:Txt K mg a):bD P w K mg base cE 2 a.gm a.ig ["some","kinds","members"] (Dm K):=by
 have wb:=tY (P:=P) (w:=w) (base:=base) T
 refine T.tU.ok fV (fun vs H Q E h=>?_) (fun cdv Ar outer sh H vs Q E hr h=>?_)
 ·obtain⟨n,s,d,e,S,ks,es,aB,rfl,_⟩:=h
  rfl
 ·obtain⟨n,s,d,e,S,ks,es,aB,rfl,M,hs,sd,se,pt,nS,rS,hn,q⟩:=h
  have tZ:aU 1 _:=hr
  refine⟨_,(ah (av (i:=3) fV.nd rfl (Or.inl rfl) CA)
  (ah (bF PassesOwn.never rfl (cR (pv 0)) (ax (i:=4) fV.nd rfl (Or.inl rfl))
   (au (bR (cL PySem.F.plainAttrs_list PySem.F.slot_list_append PySem.F.type_list_append bS (CO (pv 3) (aH (bq K) (pv 1) (pv 4) (fun _ _=>rfl)) (cq ag) ⟨rfl,rfl,rfl,rfl⟩) (ae (pv 4) ag)))))
  (au (bF PassesOwn.never rfl (CJ (pv 3)) (ax (i:=5) fV.nd rfl (Or.inl rfl))
   (au (dy (br uh (aF (aK K) (by rfl) T.bM bo (ae (ki (iX hr) (pv 3) (pv 5) (fun _ _=>rfl)) ag)) (aF (aK K) (by rfl) T.bM bo (ae (aH (bq K) (pv 2) (pv 5) (fun _ _=>rfl)) ag)) (bQ _))
    (au (bR (aE wb tZ rfl T.vO T.vP T.vQ .nil aR (ae (pv 5) (ae (ki (iX hr) (pv 3) (pv 5) (fun _ _=>rfl)) (ae (pv 1) (ae (pv 2) ag)))))))
    cz)))))),?_⟩
  have big:(10000:Nat)≤sizeLine:=by decide
  have lS:S.length≤n:=by
   have:=List.Nodup.length_le_of_subset (l₂:=List.range n) nS fun r hr=>List.mem_range.mpr (rS r hr)
   rw[List.length_range] at this;exact this
  have Q7:=pt.len
  have Q8:=pt.le
  refine fun D hD=>?_
  have sD:=Same.new (o:=.dK []) hD
  have Lr:d≠D:=aj M.kn hD
  have ne1:e≠D:=aj M.ms hD
  have UQ:s≠D:=aj hs hD
  dsimp only[aC]
  refine⟨_,rfl,s,rfl,⟨_,.of (sD _ _ hs)⟩,fw (xs:=(ai S).map V.int) (fun j σ H'=>∃(v4:Option V) (KS:List Nat) (bs:List Addr),σ=[some (.ref s),some (.ref d),some (.ref e),some (.ref D),v4,none]∧Same H H'∧Groups H H' D ks (S.take j) KS bs)
   ⟨none,[],[],rfl,sD,⟨af,rfl,by simp,by simp,fun b hb=>(by cases hb),by simp,.nil,fun k=>(by simp)⟩⟩ (fun j σ H' _ ⟨_,_,_,_,s',_⟩=>.of (s' _ _ hs)) ?_ ?_⟩
  ·rintro j y σ H1 hy ⟨v4,KS,bs,rfl,s1,g⟩
   obtain⟨r,rfl,er⟩:=cV hy
   have hj:j<S.length:=(List.getElem?_eq_some_iff.mp er).1
   have hrn:=rS r (List.mem_of_getElem? er)
   have Q9:=s1 _ _ M.kn
   have Ra:((ai ks).map V.int)[r]? =some (.int (kd ks r:Nat)):=cN (by rw[Q7];exact hrn)
   have Rc:KS.length≤aB.length:=by
    have:=List.Nodup.length_le_of_subset (l₂:=List.range aB.length) g.once fun k hk=>by
     obtain⟨x,hx,ex⟩:=(g.keys k).mp hk
     rw[←ex]
     exact List.mem_range.mpr (pt.lt x (rS x (List.mem_of_mem_take hx)))
    rw[List.length_range] at this;exact this
   refine⟨_,rfl,D,rfl,.inl ⟨_,.inl g.dict⟩,_,rfl,_,rfl,d,_,_,_,rfl,rfl,.of Q9,aA Ra,by show 0≤sizeLine;omega,fun b0 hb0=>?_⟩
   have sb:=Same.new (o:=.lst []) hb0
   have D2:=sb _ _ g.dict
   have IK:D≠b0:=aj g.dict hb0
   have bn:b0 ∉ bs:=fun z=>by obtain⟨l,e⟩:=g.ls.mem z;rw[hb0] at e;cases e
   have tk:∀k,(∃x∈S.take (j+1),kd ks x=k)↔(∃x∈S.take j,kd ks x=k)∨k=kd ks r:=fun k=>by
    rw[take_snoc er]
    constructor
    ·rintro⟨x,hx,ex⟩
     rcases List.mem_append.mp hx with z | z
     ·exact .inl ⟨x,z,ex⟩
     ·rw[List.mem_singleton.mp z] at ex;exact .inr ex.symm
    ·rintro(⟨x,hx,ex⟩ | z)
     ·exact⟨x,List.mem_append_left _ hx,ex⟩
     ·exact⟨r,List.mem_append_right _ (List.mem_singleton.mpr rfl),z.symm⟩
   refine⟨fj KS bs,Sum.inl (kd ks r:Int),D2,rfl,by rw[yQ g.len];omega,fun v hv=>?_,fun hv=>?_⟩
   ·
    have hm:kd ks r∈KS:=by
     by_cases hm:kd ks r∈KS
     ·exact hm
     ·rw[mh hm] at hv;cases hv
    obtain⟨i,hi⟩:=List.getElem?_of_mem hm
    obtain⟨b,hb⟩:∃b,bs[i]? =some b:=⟨_,List.getElem?_eq_getElem (by rw[←g.len];exact(List.getElem?_eq_some_iff.mp hi).1)⟩
    rw[lP g.once hi hb] at hv
    have hv':=Option.some.inj hv
    subst hv'
    obtain⟨l,el,hl⟩:=g.ls.at hb
    rw[List.getElem?_map,hi] at el
    have BJ:grp ks (S.take j) (kd ks r)=l:=Option.some.inj el
    have bm:=List.mem_of_getElem? hb
    have Rf:D≠b:=fun z=>g.out (z▸bm)
    have gl:=BL ks (S.take j) (kd ks r)
    rw[List.length_take] at gl
    refine⟨Or.inl ⟨rfl,_,.of (sb _ _ hl)⟩,_,rfl,b,_,_,rfl,rfl,sb _ _ hl,by rw[List.length_map,aw,←BJ];omega,?_⟩
    refine⟨_,KS,bs,rfl,(s1.trans sb).kbn (g.fresh b bm) KB.write,⟨by rw[aq Rf];exact D2,g.len,g.once,g.nd,g.fresh,g.out,?_,fun k=>?_⟩⟩
    ·have h1:=bh.set (l:=l++[r]) (g.ls.keep fun c _ o z=>sb c o z) g.nd hb
     rw[aS,List.map_append] at h1
     have h2:(KS.map (grp ks (S.take j))).set i (l++[r])=KS.map (grp ks (S.take (j+1))):=by
      refine List.ext_getElem? fun t=>?_
      rw[take_snoc er]
      by_cases ht:t=i
      ·subst ht
       rw[List.getElem?_set_self (by rw[List.length_map];exact(List.getElem?_eq_some_iff.mp hi).1),List.getElem?_map,hi]
       show _=some (grp ks (S.take j++[r]) (kd ks r))
       rw[oG,BJ]
      ·rw[List.getElem?_set_ne (Ne.symm ht),List.getElem?_map,List.getElem?_map]
       cases hq:KS[t]? with
       | none=>rfl
       | some k=>
        show some _=some _
        rw[oH fun z=>ht ?_]
        rw[z] at hq
        obtain⟨a1,a2⟩:=List.getElem?_eq_some_iff.mp hq
        obtain⟨b1,b2⟩:=List.getElem?_eq_some_iff.mp hi
        exact(List.getElem_inj g.once).mp (a2.trans b2.symm)
     rw[h2] at h1
     exact h1
    ·rw[tk k,g.keys k]
     constructor
     ·exact .inl
     ·rintro(z | z)
      ·exact z
      ·rw[z];exact(g.keys _).mp hm
   ·
    have hm:kd ks r ∉ KS:=fun z=>by
     obtain⟨i,hi⟩:=List.getElem?_of_mem z
     obtain⟨b,hb⟩:∃b,bs[i]? =some b:=⟨_,List.getElem?_eq_getElem (by rw[←g.len];exact(List.getElem?_eq_some_iff.mp hi).1)⟩
     rw[lP g.once hi hb] at hv;cases hv
    have Nq:putK (fj KS bs) (Sum.inl (kd ks r:Int)) (V.ref b0)=fj (KS++[kd ks r]) (bs++[b0]):=by rw[oT _ hv,wa g.len]
    rw[Nq]
    have b2:(upd (upd H1 b0 (.lst [])) D (.dK (fj (KS++[kd ks r]) (bs++[b0])))) b0=some (.lst []):=by rw[aq IK.symm,af]
    have Ek:grp ks (S.take j) (kd ks r)=[]:=by
     unfold grp
     rw[List.filter_eq_nil_iff]
     intro x hx z
     exact hm ((g.keys _).mpr ⟨x,hx,beq_iff_eq.mp z⟩)
    refine⟨Or.inl ⟨rfl,_,.of b2⟩,_,rfl,b0,_,_,rfl,rfl,b2,by show 0<sizeLine;omega,?_⟩
    have Ag:Same H (upd (upd (upd H1 b0 (.lst [])) D (.dK (fj (KS++[kd ks r]) (bs++[b0])))) b0 (.lst ([]++[.int (r:Nat)]))):=((s1.trans sb).kbn hD KB.write).kbn (s1.free hb0) KB.write
    refine⟨_,KS++[kd ks r],bs++[b0],rfl,Ag,⟨by rw[aq IK,af],by rw[List.length_append,List.length_append,g.len];rfl,?_,?_,fun b hb=>?_,?_,?_,fun k=>?_⟩⟩
    ·rw[List.nodup_append]
     exact⟨g.once,by simp,fun x hx y hy e=>hm (by rw[←List.mem_singleton.mp hy,←e];exact hx)⟩
    ·rw[List.nodup_append]
     exact⟨g.nd,by simp,fun x hx y hy e=>bn (by rw[←List.mem_singleton.mp hy,←e];exact hx)⟩
    ·rcases List.mem_append.mp hb with z | z
     ·exact g.fresh b z
     ·rw[List.mem_singleton.mp z];exact s1.free hb0
    ·intro z
     rcases List.mem_append.mp z with z | z
     ·exact g.out z
     ·exact IK (List.mem_singleton.mp z)
    ·have em:(KS++[kd ks r]).map (grp ks (S.take (j+1)))=KS.map (grp ks (S.take j))++[[r]]:=by
      rw[List.map_append,take_snoc er]
      congr 1
      ·refine List.map_congr_left fun k hk=>oH fun z=>hm (z▸hk)
      ·show[grp ks (S.take j++[r]) (kd ks r)]=_
       rw[oG,Ek];rfl
     rw[em]
     refine bh.snoc (g.ls.keep fun c hc o z=>?_) af
     have c1:c≠b0:=fun z2=>bn (z2▸hc)
     have c2:c≠D:=fun z2=>g.out (z2▸hc)
     rw[aq c1,aq c2,aq c1];exact z
    ·rw[tk k,List.mem_append,g.keys k,List.mem_singleton]
  ·rintro σ H1 ⟨v4,KS,bs,rfl,s1,g⟩
   rw[List.length_map,aw,List.take_length] at g
   have Rc:KS.length≤aB.length:=by
    have:=List.Nodup.length_le_of_subset (l₂:=List.range aB.length) g.once fun k hk=>by
     obtain⟨x,hx,ex⟩:=(g.keys k).mp hk
     rw[←ex]
     exact List.mem_range.mpr (pt.lt x (rS x hx))
    rw[List.length_range] at this;exact this
   refine⟨_,rfl,D,fj KS bs,rfl,g.dict,fun o=>?_⟩
   have Ah:∀b∈bs,b≠d∧b≠e:=fun b hb=>⟨(aj M.kn (g.fresh b hb)).symm,(aj M.ms (g.fresh b hb)).symm⟩
   have sF:Same H (upd H1 D (.cY o (.dK (fj KS bs)))):=s1.kbn hD KB.write
   have Ls:bh (upd H1 D (.cY o (.dK (fj KS bs)))) bs (KS.map (grp ks S)):=g.ls.keep fun c hc o' z=>by rw[aq (fun z2:c=D=>g.out (z2▸hc))];exact z
   have dF:(upd H1 D (.cY o (.dK (fj KS bs)))) D=some (.cY o (.dK (fj KS bs))):=af
   generalize upd H1 D (.cY o (.dK (fj KS bs)))=H2 at sF Ls dF ⊢
   refine CK (fun i σ H'=>∃(v5:Option V) (es':List Addr) (ks':List Nat) (cP:List (List Nat)),σ=[some (.ref s),some (.ref d),some (.ref e),some (.ref D),v4,v5]∧mO d e H2 H'∧Mem H' d e ks' es' cP∧fY n aB.length ks S (KS.take i) ks' cP∧∀b∈es',b∈es∨H b=none)
    ⟨none,es,ks,aB,rfl,fun _ _ z _ _=>z,M.same sF,by rw[List.take_zero];exact fY.start pt,fun b hb=>.inl hb⟩ (fun i σ H' _ ⟨_,_,_,_,_,k',_⟩=>k' _ _ dF Lr.symm ne1.symm) ?_ ?_
   ·rintro i kk vv σ H3 hk ⟨v5,es',ks',cP,rfl,k3,M3,R3,F3⟩
    obtain⟨k,b,wc,hb,rfl,rfl⟩:=IJ hk
    have bm:=List.mem_of_getElem? hb
    have kL:k<aB.length:=by
     obtain⟨x,hx,ex⟩:=(g.keys k).mp (List.mem_of_getElem? wc)
     rw[←ex];exact pt.lt x (rS x hx)
    have kJ:k ∉ KS.take i:=fun z=>by
     obtain⟨t,ht⟩:=List.getElem?_of_mem z
     rw[List.getElem?_take] at ht
     split at ht
     ·rename_i hti
      obtain⟨a1,a2⟩:=List.getElem?_eq_some_iff.mp ht
      obtain⟨b1,b2⟩:=List.getElem?_eq_some_iff.mp wc
      have:=(List.getElem_inj g.once).mp (a2.trans b2.symm)
      omega
     ·cases ht
    obtain⟨l,el⟩:∃l,cP[k]? =some l:=⟨_,List.getElem?_eq_getElem (by have:=R3.grow;omega)⟩
    obtain⟨lb,hlb,IB⟩:=M3.ls.back el
    obtain⟨g0,Ek,eb⟩:=Ls.at hb
    rw[List.getElem?_map,wc] at Ek
    have Rg:grp ks S k=g0:=Option.some.inj Ek
    subst Rg
    have Lu:=k3 _ _ eb (Ah b bm).1 (Ah b bm).2
    have d3:=k3 _ _ dF Lr.symm ne1.symm
    have val:=lP g.once wc hb
    have gt:jj H3 D (.int (k:Nat)) (some (.ref b)):=.inl ⟨fj KS bs,Sum.inl (k:Int),.inr ⟨o,d3⟩,rfl,val.symm⟩
    have l1:=R3.part.small el
    have l2:=R3.part.le
    have lg:=BL ks S k
    refine⟨_,rfl,_,rfl,D,.ref b,rfl,gt,_,(grp ks S k).length,rfl,.inl ⟨_,.of Lu,by rw[List.length_map,aw]⟩,_,rfl,_,rfl,e,_,_,.ref lb,rfl,rfl,.of M3.ms,aA (by rw[List.getElem?_map,hlb];rfl),_,l.length,rfl,.inl ⟨_,.of IB,by rw[List.length_map,aw]⟩,_,_,rfl,rfl,_,rfl,?_⟩
    have sub:∀r∈grp ks S k,r∈l:=fun r hr=>(R3.cls pt.lt kL kJ el r).mpr ⟨rS r (i9.mp hr).1,(i9.mp hr).2⟩
    have El:(grp ks S k).Nodup:=nS.filter _
    refine fW (fun z=>?_) (fun z=>?_)
    ·have lt:(grp ks S k).length<l.length:=by simpa using z
     refine⟨_,rfl,_,rfl,_,rfl,D,.ref b,rfl,gt,_,rfl,_,rfl,k,b,d,e,grp ks S k,ks',es',cP,l,rfl,M3,Lu,(Ah b bm).1,(Ah b bm).2,el,fun r hr=>?_,fun r hr=>?_,by omega,by omega,by omega,fun H4 Rh A B k4 hAB M4 F4=>?_⟩
     ·rw[R3.part.len];exact rS r (i9.mp hr).1
     ·rw[R3.part.len];exact((R3.part.mem k l el r).mp hr).1
     ·have KL:∀c,H3 c=none→H c=none:=fun c hc=>by
       cases hq:H c with
       | none=>rfl
       | some o'=>
        by_cases c1:c=d
        ·rw[c1,M3.kn] at hc;cases hc
        by_cases c2:c=e
        ·rw[c2,M3.ms] at hc;cases hc
        have:=k3 _ _ (sF _ _ hq) c1 c2
        rw[hc] at this;cases this
      refine⟨_,Rh,_,_,rfl,k3.trans k4,M4,?_,fun c hc=>?_⟩
      rotate_left
      ·rcases F4 c hc with z | z | z
       ·exact F3 c z
       ·rw[z];exact .inr (g.fresh b bm)
       ·exact .inr (KL c z)
      rw[take_snoc wc]
      exact(R3.cut pt.lt kL kJ el (fun r=>by rw[i9];exact⟨fun z=>⟨z.1,rS r z.1,z.2⟩,fun z=>⟨z.1,z.2.2⟩⟩) El (fun z0=>by
       obtain⟨x,hx,ex⟩:=(g.keys k).mp (List.mem_of_getElem? wc)
       have:x∈grp ks S k:=i9.mpr ⟨hx,ex⟩
       rw[z0] at this;cases this) lt hAB).1
    ·have ge:l.length≤(grp ks S k).length:=by
      have:¬(grp ks S k).length<l.length:=fun y=>z (by simpa using y)
      omega
     refine⟨_,es',ks',cP,rfl,k3,M3,?_,F3⟩
     rw[take_snoc wc]
     refine R3.whole fun r hr hv=>?_
     have hl:r∈l:=(R3.cls pt.lt kL kJ el r).mpr ⟨hr,hv⟩
     by_cases hm:r∈grp ks S k
     ·exact(i9.mp hm).1
     ·have h1:(r::grp ks S k).length≤l.length:=List.Nodup.length_le_of_subset (List.nodup_cons.mpr ⟨hm,El⟩) fun x hx=>by
       rcases List.mem_cons.mp hx with e' | e'
       ·rw[e'];exact hl
       ·exact sub x e'
      rw[List.length_cons] at h1
      omega
   ·rintro σ H3 ⟨v5,es',ks',cP,rfl,k3,M3,R3,F3⟩
    rw[yQ g.len,List.take_length] at R3
    exact q H3 es' ks' cP KS (fun b o' z n1 n2=>k3 _ _ (sF _ _ z) n1 n2) M3 R3 (fun r hr=>(g.keys _).mpr ⟨r,hr,rfl⟩) F3
def cK (N:Addr→Prop) (H:Hp) (mv:List (List Nat)) (n:Nat) (ts:List Addr):Prop:=∀(a:Nat) (t:Addr),ts[a]? =some t→N t∧∃as:List Addr,H t=some (.lst (as.map V.ref))∧(∀b∈as,N b)∧bh H as (fU mv n a n)
theorem cK.keep {N N':Addr→Prop} {H H':Hp} {mv:List (List Nat)} {n:Nat} {ts:List Addr} (h:cK N H mv n ts) (k:∀b o,N b→H b=some o→N' b∧H' b=some o):cK N' H' mv n ts:=fun a t e=>by
 obtain⟨h1,as,h2,h3,h4⟩:=h a t e
 refine⟨(k _ _ h1 h2).1,as,(k _ _ h1 h2).2,fun b hb=>?_,h4.keep fun b hb o z=>(k b o (h3 b hb) z).2⟩
 obtain⟨l,z⟩:=h4.mem hb
 exact(k _ _ (h3 b hb) z).1
def FU (K:PySem.W.Frag):Sp:=fun vs H Q _=>∃(ya va:Addr) (ps:List Addr) (bs:List Bool) (mv:List (List Nat)) (B:Nat),vs=[.ref ya,.ref va]∧H ya=some (.tup (bs.map V.bl))∧H va=some (.tup (ps.map V.ref))∧fB H ps (mv.map ai)∧Moves bs.length B mv∧0<bs.length∧bs.length≤1000∧B≤1000∧
 ∀(d:Addr) (ks:List Nat) (H':Hp),H d=none→Same H H'→H' d=some (.lst ((ai ks).map V.int))→ks.length=bs.length→(∀r s,r<bs.length→s<bs.length→(kd ks r=kd ks s↔Eqv B bs mv r s))→Q (.ref d) H'
theorem we {mv:List (List Nat)} {n x t r:Nat}:(r∈(List.range n).filter fun r=>stp mv r x == t)↔r<n∧stp mv r x=t:=by rw[List.mem_filter,List.mem_range,beq_iff_eq]
theorem cC:aW ["yes","moves","kinds","members","into","waiting","known","goal","before","some","room"] ["yes","moves"] (ak cM):=⟨rfl,rfl,rfl,by decide+kernel,rfl,by decide+kernel,by decide+kernel⟩
theorem xR {bs:List Bool} {j:Nat} {c:Bool} (h:bs[j]? =some c):du (bs.take (j+1))=du (bs.take j)++[if c=true then 1 else 0]:=by
 unfold du;rw[take_snoc h,List.map_append];rfl
def ja (c:Bool) (bs:List Bool) (j:Nat):List Nat:=(List.range j).filter fun r=>bs.getD r false == c
theorem gW {c:Bool} {bs:List Bool} {j:Nat} {y:Bool} (h:bs[j]? =some y):ja c bs (j+1)=ja c bs j++(if y=c then [j] else []):=by
 unfold ja
 rw[List.range_succ,List.filter_append]
 have e:bs.getD j false=y:=by rw[List.getD_eq_getElem?_getD,h];rfl
 congr 1
 by_cases z:y=c
 ·rw[if_pos z,List.filter_cons_of_pos (by rw[e];exact beq_iff_eq.mpr z),List.filter_nil]
 ·rw[if_neg z,List.filter_cons_of_neg (by rw[e];exact fun q=>z (beq_iff_eq.mp q)),List.filter_nil]
theorem qh (c:Bool) (bs:List Bool) (j:Nat):(ja c bs j).length≤j:=by
 have:=List.length_filter_le (fun r=>bs.getD r false == c) (List.range j)
 rw[List.length_range] at this;exact this
theorem rangeInts {lo hi:Nat} (h:lo≤hi):((List.range ((hi:Int)-(lo:Int)).toNat).map fun(i:Nat)=>V.int ((lo:Int)+i))=(ai (List.range' lo (hi-lo))).map V.int:=by
 have e:((hi:Int)-(lo:Int)).toNat=hi-lo:=by omega
 rw[e]
 unfold ai
 rw[List.map_map,List.range'_eq_map_range,List.map_map]
 refine List.map_congr_left fun i _=>?_
 show V.int _=V.int _
 congr 1
theorem jA {mv:List (List Nat)} {n x:Nat} {goal:List Nat} (nd:goal.Nodup):∀(l:List Nat),l.Sublist goal→((l.map fun t=>(List.range n).filter fun r=>stp mv r x == t).flatten).Nodup∧∀r,r∈(l.map fun t=>(List.range n).filter fun r=>stp mv r x == t).flatten↔r<n∧stp mv r x∈l
 | [],_=>⟨by simp,fun r=>by simp⟩
 | t::l,h=>by
  have nl:(t::l).Nodup:=nd.sublist h
  obtain⟨h1,h2⟩:=jA nd l ((List.sublist_cons_self t l).trans h)
  rw[List.map_cons,List.flatten_cons]
  refine⟨?_,fun r=>?_⟩
  ·rw[List.nodup_append]
   refine⟨List.nodup_range.filter _,h1,fun a ha b hb e=>?_⟩
   subst e
   have e1:=(we.mp ha).2
   have e2:=((h2 a).mp hb).2
   rw[e1] at e2
   exact(List.nodup_cons.mp nl).1 e2
  ·rw[List.mem_append,we,h2 r,List.mem_cons]
   constructor
   ·rintro(⟨a,b⟩ | ⟨a,b⟩)
    ·exact⟨a,.inl b⟩
    ·exact⟨a,.inr b⟩
   ·rintro⟨a,b | b⟩
    ·exact .inl ⟨a,b⟩
    ·exact .inr ⟨a,b⟩
set_option maxHeartbeats 16000000 in
theorem xS {a:eY} (T:Txt K mg a):bD P w K mg base cE 3 a.iZ a.j1 ["yes","moves"] (FU K):=by
 have jB:=mf (P:=P) (w:=w) (base:=base) T
 have t_:=q_ (P:=P) (w:=w) (base:=base) T
 refine T.zX.ok cC (fun vs H Q E h=>?_) (fun cdv Ar outer sh H vs Q E hr h=>?_)
 ·obtain⟨ya,va,ps,bs,mv,B,rfl,_⟩:=h
  rfl
 ·obtain⟨ya,va,ps,bs,mv,B,rfl,e2,e3,tp,bf,n0,n1,hB,q⟩:=h
  have iP:aU 1 _:=hr.mono (by decide)
  have ra:aU 2 _:=hr
  refine⟨_,(ah (eZ (i:=2) (aD.mk' (esc:=ak cM) (N:=["yes","moves","kinds","members","into","waiting","known","goal","before","some","room"]) (own:=["at"]) (aJ:=[]) (bx:=[]) rfl rfl (by decide+kernel)) rfl (fZ (pv 0)) (fun _ _ _ _=>(ax (i:=0) (show List.Nodup (["at"]:List Str) by decide+kernel) rfl (Or.inl rfl))) (fun _ _ _ _=>bG) (fun _ _ _ _=>(uy (jM K (pv 0) (fun _=>rfl)) ao ao)) cC.nd rfl rfl)
  (ah (av (i:=3) cC.nd rfl (Or.inl rfl) (cq (ae (cA (aD.mk' (esc:=ak cM) (N:=["yes","moves","kinds","members","into","waiting","known","goal","before","some","room"]) (own:=["room","at"]) (aJ:=[]) (bx:=[]) rfl rfl (by decide+kernel)) rfl (jo rfl T.d_ (ae (pv 0) ag)) (fun _ _ _ _=>(ko K (n:=2) rfl (bu (ax (i:=0) (show List.Nodup (["room","at"]:List Str) by decide+kernel) rfl (Or.inl rfl)) (bu (ax (i:=1) (show List.Nodup (["room","at"]:List Str) by decide+kernel) rfl (Or.inl rfl)) fO)))) (fun _ _ _ _=>(jk (mq (jM K (pv 1) (fun _=>rfl))))) (fun _ _ _ _=>(pv 0))) (ae (cA (aD.mk' (esc:=ak cM) (N:=["yes","moves","kinds","members","into","waiting","known","goal","before","some","room"]) (own:=["room","at"]) (aJ:=[]) (bx:=[]) rfl rfl (by decide+kernel)) rfl (jo rfl T.d_ (ae (pv 0) ag)) (fun _ _ _ _=>(ko K (n:=2) rfl (bu (ax (i:=0) (show List.Nodup (["room","at"]:List Str) by decide+kernel) rfl (Or.inl rfl)) (bu (ax (i:=1) (show List.Nodup (["room","at"]:List Str) by decide+kernel) rfl (Or.inl rfl)) fO)))) (fun _ _ _ _=>(jk (jM K (pv 1) (fun _=>rfl)))) (fun _ _ _ _=>(pv 0))) ag))))
  (ah (eZ (i:=4) (aD.mk' (esc:=ak cM) (N:=["yes","moves","kinds","members","into","waiting","known","goal","before","some","room"]) (own:=["letter"]) (aJ:=["moves"]) (bx:=[1]) rfl rfl (by decide+kernel)) rfl (bE rfl T.bW (ae (aF (aK K) (by rfl) T.bM bo (ae (aH (aM K) (pv 1) ao (fun _ _=>rfl)) ag)) ag)) (fun _ _ _ _=>(ax (i:=0) (show List.Nodup (["letter","moves"]:List Str) by decide+kernel) rfl (Or.inl rfl))) (fun _ _ _ _=>bG) (fun _ _ _ _=>(aE jB iP rfl T.mY T.mZ T.m_ .nil aR (ae (pv 1) (ae (pv 0) ag)))) cC.nd rfl rfl)
  (ah (av (i:=5) cC.nd rfl (Or.inl rfl) (cq (ae ao (ae ao ag))))
  (ah (kP PassesOwn.never (gZ (pv 5) (fun _=>rfl))
   (ah (av (i:=6) cC.nd rfl (Or.inl rfl) (aF (aK K) (by rfl) T.bM bo (ae (pv 3) ag)))
   (ah (av (i:=7) cC.nd rfl (Or.inl rfl) (aH (bq K) (pv 3) (GQ PySem.F.plainAttrs_list PySem.F.slot_list_pop PySem.F.type_list_pop GR (pv 5)) (fun _ _=>rfl)))
   (ah (bF PassesOwn.never rfl (cR (pv 4)) (ax (i:=8) cC.nd rfl (Or.inl rfl))
    (ah (av (i:=9) cC.nd rfl (Or.inl rfl) (cq ag))
    (ah (bF PassesOwn.never rfl (cR (pv 7)) (ax (i:=10) cC.nd rfl (Or.inl rfl))
     (au (bR (cL PySem.F.plainAttrs_list PySem.F.slot_list_extend PySem.F.type_list_extend jJ (pv 9) (ae (aH (bq K) (pv 8) (pv 10) (fun _ _=>rfl)) ag)))))
    (au (bR (aE t_ ra rfl T.tV T.tW T.tX .nil aR (ae (pv 9) (ae (pv 2) (ae (pv 3) ag)))))))))
   (au (bR (cL PySem.F.plainAttrs_list PySem.F.slot_list_extend PySem.F.type_list_extend jJ (pv 5) (ae (u_ hr.hd rfl T.vV rfl T.bW (ae (pv 6) (ae (aF (aK K) (by rfl) T.bM bo (ae (pv 3) ag)) ag))) ag))))))))
  (au (aY (pv 2)))))))),?_⟩
  have big:(100000:Nat)≤sizeLine:=by decide
  generalize hnn:bs.length=n at bf n0 n1 q
  refine⟨_,rfl,ya,rfl,⟨_,.of e2⟩,fun d hd=>?_⟩
  refine g_ (xs:=bs.map V.bl) (fun j σ H'=>∃(v:Option V),σ=[v]∧Same H H'∧H' d=some (.lst ((ai (du (bs.take j))).map V.int)))
   ⟨none,?sg,Same.new hd,af⟩ (fun j σ H' _ ⟨_,_,s',_⟩=>.of (s' _ _ e2)) ?_ ?_
  case sg=>rfl
  ·rintro j y σ H1 hy ⟨v,rfl,s1,l1⟩
   obtain⟨c,rfl,ec⟩:=lL hy
   have hj:j<bs.length:=(List.getElem?_eq_some_iff.mp ec).1
   have lf:(du (bs.take j)).length≤j:=by unfold du;rw[List.length_map,List.length_take];omega
   refine⟨_,rfl,c,rfl,?_⟩
   have fin:∀z:Nat,(if c=true then 1 else 0)=z→∃ys,H1 d=some (.lst ys)∧ys.length<sizeLine∧∃v:Option V,[some (V.bl c)]=[v]∧Same H (upd H1 d (.lst (ys++[.int (z:Nat)])))∧(upd H1 d (.lst (ys++[.int (z:Nat)]))) d=some (.lst ((ai (du (bs.take (j+1)))).map V.int)):=fun z hz=>by
    refine⟨_,l1,by rw[List.length_map,aw];omega,_,rfl,s1.kbn hd KB.write,?_⟩
    rw[af,xR ec,hz,aS,List.map_append];rfl
   refine fW (fun z=>?_) (fun z=>?_)
   ·exact fin 1 (if_pos z)
   ·exact fin 0 (if_neg z)
  rintro σ H1 ⟨v,rfl,s1,l1⟩
  rw[List.length_map,List.take_length] at l1
  dsimp only[aC]
  have rooms:∀(c:Bool) (H1:Hp) (L:Addr) (R:Hp→Prop) (tt:TT),H1 ya=some (.tup (bs.map V.bl))→H1 L=none→
    (∀(σ:St) (H2:Hp) (y:Bool) (Q:Bool→Hp→Prop),σ[1]? =some (some (.bl y))→Q (decide (y=c)) H2→tt σ H2 Q)→
    (∀H2,Same H1 H2→H2 L=some (.lst ((ai (dE c bs)).map V.int))→R H2)→
    jL (oW K ya) (Cm K 2 (zh (aC 0) (zh (aC 1) Gs))) tt (zg 0) L [none,none] (upd H1 L (.lst [])) R:=by
   intro c H1 L R tt ey hL ht hR
   refine lh (xs:=bs.map V.bl) (fun j σ H'=>∃(v0 v1:Option V),σ=[v0,v1]∧Same H1 H'∧H' L=some (.lst ((ai (ja c bs j)).map V.int)))
    ⟨none,none,rfl,Same.new hL,af⟩ (fun j σ H' _ ⟨_,_,_,s',_⟩=>.of (s' _ _ ey)) ?_ ?_
   ·rintro j y p σ H2 hy ⟨v0,v1,rfl,s2,l2⟩ hp
    obtain⟨b,rfl,eb⟩:=lL hy
    have hj:j<bs.length:=(List.getElem?_eq_some_iff.mp eb).1
    have sp:=Same.new (o:=.tup [.int (j:Nat),.bl b]) hp
    have UR:L≠p:=aj l2 hp
    have lr:=qh c bs j
    refine⟨p,_,rfl,.of af,rfl,_,_,rfl,_,_,rfl,rfl,?_⟩
    refine ht _ _ b _ rfl ?_
    refine fW (fun z=>?_) (fun z=>?_)
    ·have zc:b=c:=of_decide_eq_true z
     refine⟨_,rfl,_,sp _ _ l2,by rw[List.length_map,aw];omega,_,_,rfl,(s2.trans sp).kbn hL KB.write,?_⟩
     rw[af,gW eb,if_pos zc,aS,List.map_append];rfl
    ·have zc:¬b=c:=fun y=>z (decide_eq_true y)
     refine⟨_,_,rfl,s2.trans sp,?_⟩
     rw[gW eb,if_neg zc,List.append_nil];exact sp _ _ l2
   ·rintro σ H2 ⟨v0,v1,rfl,s2,l2⟩
    rw[List.length_map] at l2
    exact hR H2 s2 l2
  refine⟨_,rfl,ya,rfl,⟨_,.of (s1 _ _ e2)⟩,fun L0 hL0=>?_⟩
  refine rooms false H1 L0 _ _ (s1 _ _ e2) hL0 (fun σ H2 y Q hy hQ=>⟨_,hy,y,rfl,?_⟩) fun H2 s2 l2=>?_
  ·cases y<;>exact hQ
  refine⟨_,rfl,ya,rfl,⟨_,.of (s2 _ _ (s1 _ _ e2))⟩,fun L1 hL1=>?_⟩
  refine rooms true H2 L1 _ _ (s2 _ _ (s1 _ _ e2)) hL1 (fun σ H3 y Q hy hQ=>⟨_,hy,y,rfl,?_⟩) fun H3 s3 l3=>?_
  ·cases y<;>exact hQ
  refine⟨by show 2≤sizeLine;omega,fun e he=>?_⟩
  have sE:=Same.new (o:=.lst [.ref L0,.ref L1]) he
  have yR:=((s1.trans s2).trans s3).trans sE
  have d3:=s3 _ _ (s2 _ _ l1)
  have de:d≠e:=aj d3 he
  have Ri:L0≠d:=(aj l1 hL0).symm
  have Rj:L1≠d:=(aj (s2 _ _ l1) hL1).symm
  have Rk:L0≠e:=aj (s3 _ _ l2) he
  have Rl:L1≠e:=aj l3 he
  have M0:Mem (upd H3 e (.lst [.ref L0,.ref L1])) d e (du bs) [L0,L1] [dE false bs,dE true bs]:=
   ⟨sE _ _ d3,af,de,fun b hb=>by
    rcases List.mem_cons.mp hb with z | z
    ·rw[z];exact⟨Ri,Rk⟩
    ·rw[List.mem_singleton.mp z];exact⟨Rj,Rl⟩,.cons (sE _ _ (s3 _ _ l2)) (.cons (sE _ _ l3) .nil)⟩
  have Rm:H e=none:=(s1.trans (s2.trans s3)).free he
  have Lv:=sE _ _ (s3 _ _ l2)
  have Lw:=sE _ _ l3
  generalize upd H3 e (.lst [.ref L0,.ref L1])=H4 at yR M0 Lv Lw ⊢
  dsimp only[aC]
  obtain⟨w1,w2,w3⟩:=bf.row (tp.keep yR.kt) n0
  refine⟨_,rfl,va,_,_,.ref (ps.getD 0 0),rfl,rfl,.of (yR _ _ e3),aA (j:=0) (by rw[List.getElem?_map,w1];rfl),.ref (ps.getD 0 0),B,rfl,.inr ⟨_,.of w2,by rw[List.length_map,aw,w3]⟩,_,rfl,by omega,by omega,fun I hI=>?_⟩
  have dI:d≠I:=aj M0.kn hI
  have eI:e≠I:=aj M0.ms hI
  refine dM (n:=(B:Int).toNat) (fun j σ H'=>∃(v:Option V) (ts:List Addr),σ=[v,some (.ref va)]∧Same H4 H'∧H' I=some (.lst (ts.map V.ref))∧ts.length=j∧cK (fun b=>b≠d∧b≠e∧b≠I) H' mv n ts)
   ⟨none,[],?BM,Same.new hI,af,rfl,fun a t z=>(by simp at z)⟩ ?_ ?_
  case BM=>rfl
  ·rintro j σ H5 hj ⟨v,ts,rfl,s5,i5,BN,wg⟩
   have ej:(0:Int)+(j:Int)=((j:Nat):Int):=by omega
   rw[ej]
   have Lx:=yR.trans s5
   have lQ:∀b,H5 b=none→b≠d∧b≠e∧b≠I:=fun b hb=>⟨(aj (s5 _ _ M0.kn) hb).symm,(aj (s5 _ _ M0.ms) hb).symm,(aj i5 hb).symm⟩
   refine⟨_,rfl,_,rfl,va,ps,mv,n,B,j,rfl,Lx _ _ e3,tp.keep Lx.kt,bf,by omega,n1,fun t as H6 ht has Ro ta s6 t6 IL=>?_⟩
   have i6:=s6 _ _ i5
   refine⟨_,i6,by rw[List.length_map];omega,_,ts++[t],rfl,(s5.trans s6).kbn hI KB.write,by rw[af,List.map_append];rfl,by rw[List.length_append,BN];rfl,fun a u hu=>?_⟩
   by_cases ha:a<ts.length
   ·rw[List.getElem?_append_left ha] at hu
    exact cK.keep wg (fun b o nb z=>⟨nb,by rw[aq nb.2.2];exact s6 _ _ z⟩) a u hu
   ·rw[List.getElem?_append_right (by omega)] at hu
    have ea:a-ts.length=0:=by
     cases h3:a-ts.length with
     | zero=>rfl
     | succ q=>rw[h3] at hu;simp at hu
    rw[ea] at hu
    have eu:t=u:=Option.some.inj hu
    subst eu
    have IM:a=j:=by omega
    subst IM
    refine⟨lQ t ht,as,by rw[aq (lQ t ht).2.2];exact t6,fun b hb=>lQ b (has b hb),IL.keep fun b hb o z=>?_⟩
    rw[aq (lQ b (has b hb)).2.2];exact z
  rintro σ H5 ⟨v,ts,rfl,s5,i5,BN,wg⟩
  have Em:ts.length=B:=by rw[BN];omega
  dsimp only[aC]
  refine⟨by show 2≤sizeLine;omega,fun Wt hW=>?_⟩
  have sW:=Same.new (o:=.lst [.int 0,.int 1]) hW
  have Ly:=s5.trans sW
  have BO:=yR.trans Ly
  have M6:=M0.same Ly
  have dW:d≠Wt:=aj (s5 _ _ M0.kn) hW
  have eW:e≠Wt:=aj (s5 _ _ M0.ms) hW
  have hW0:H Wt=none:=(yR.trans s5).free hW
  have i6:=sW _ _ i5
  have IW:I≠Wt:=aj i5 hW
  have Lz:cK (fun b=>b≠d∧b≠e∧b≠Wt) (upd H5 Wt (.lst [.int 0,.int 1])) mv n ts:=cK.keep wg fun b o nb z=>⟨⟨nb.1,nb.2.1,aj z hW⟩,sW _ _ z⟩
  have w6:(upd H5 Wt (.lst [.int 0,.int 1])) Wt=some (.lst ((ai [0,1]).map V.int)):=af
  generalize upd H5 Wt (.lst [.int 0,.int 1])=H6 at BO M6 i6 Lz w6 ⊢
  have Id:I≠d:=Ne.symm dI
  have Ie:I≠e:=Ne.symm eI
  dsimp only[aC]
  refine jl (t:=j9 _ _) (u:=Gq _) (fun σ H'=>∃(ks:List Nat) (es:List Addr) (aB:List (List Nat)) (v6 v7 v8 v9 v10:Option V),σ=[some (.ref ya),some (.ref va),some (.ref d),some (.ref e),some (.ref I),some (.ref Wt),v6,v7,v8,v9,v10]∧(∀b o,H6 b=some o→b≠d→b≠e→b≠Wt→H' b=some o)∧Mem H' d e ks es aB∧oE n B bs mv ks aB []) ?re (fun rest=>?_)
  case re=>
   rintro σ H' ⟨ks,es,aB,v6,v7,v8,v9,v10,rfl,k7,M7,hop⟩
   refine⟨_,rfl,q d ks H' hd (fun b o z=>?_) M7.kn hop.part.len (hop.done bf)⟩
   exact k7 b o (BO _ _ z) (aj z hd) (aj z Rm) (aj z hW0)
  refine u3 (fun m σ H'=>∃(ks:List Nat) (es:List Addr) (aB:List (List Nat)) (W:List Nat) (v6 v7 v8 v9 v10:Option V),m=2*(n+2-aB.length)+W.length∧σ=[some (.ref ya),some (.ref va),some (.ref d),some (.ref e),some (.ref I),some (.ref Wt),v6,v7,v8,v9,v10]∧(∀b o,H6 b=some o→b≠d→b≠e→b≠Wt→H' b=some o)∧Mem H' d e ks es aB∧H' Wt=some (.lst ((ai W).map V.int))∧(∀b∈es,b≠Wt)∧W.length≤aB.length∧oE n B bs mv ks aB W)
   ⟨_,du bs,[L0,L1],[dE false bs,dE true bs],[0,1],none,none,none,none,none,rfl,rfl,fun _ _ z _ _ _=>z,M6,w6,?_,by simp,oE.start hnn bf⟩ ?_ (fun σ H Q Q' h ⟨v,e,k,t,q⟩=>⟨v,e,k,t,h _ _ q⟩)
  ·intro b hb
   rcases List.mem_cons.mp hb with z | z
   ·rw[z];exact aj (s5 _ _ Lv) hW
   ·rw[List.mem_singleton.mp z];exact aj (s5 _ _ Lw) hW
  ·rintro m σ H7 ⟨ks,es,aB,W,v6,v7,v8,v9,v10,rfl,rfl,k7,M7,w7,IP,lW,hop⟩
   refine⟨_,rfl,_,.inl ⟨_,.of w7,rfl⟩,?_⟩
   rcases List.eq_nil_or_concat W with rfl | ⟨W',k0,LA⟩
   ·refine dR ?_
    exact rest _ _ ⟨ks,es,aB,v6,v7,v8,v9,v10,rfl,k7,M7,hop⟩
   rw[List.concat_eq_append] at LA
   subst LA
   have Rp:es.length=aB.length:=M7.ls.len
   have Q8:=hop.part.le
   have hk0:k0<aB.length:=hop.wl k0 (List.mem_append_right _ (List.mem_singleton.mpr rfl))
   obtain⟨goal,hg⟩:∃l,aB[k0]? =some l:=⟨_,List.getElem?_eq_getElem hk0⟩
   obtain⟨gb,hgb,Rq⟩:=M7.ls.back hg
   have Rt:=IP gb (List.mem_of_getElem? hgb)
   have LB:=M7.nin gb (List.mem_of_getElem? hgb)
   have El:=hop.part.nd k0 goal hg
   have mg':=hop.part.mem k0 goal hg
   have Uv:=hop.part.small hg
   have ne1:(!((ai (W'++[k0])).map V.int).isEmpty)=true:=by rw[aS,List.map_append];simp[ai]
   rw[ne1]
   refine mJ ?_
   refine⟨_,rfl,_,es.length,rfl,.inl ⟨_,.of M7.ms,by rw[List.length_map]⟩,?_⟩
   dsimp only[aC]
   refine⟨_,rfl,_,rfl,Or.inl ⟨rfl,_,.of w7⟩,Wt,_,.int (k0:Nat),rfl,rfl,w7,?_,?_⟩
   ·rw[aS,List.map_append,List.length_append,List.getElem?_append_right (by simp[ai])]
    simp[ai]
   have Ru:((ai (W'++[k0])).map V.int).dropLast=(ai W').map V.int:=by rw[aS,List.map_append];exact List.dropLast_concat ..
   rw[Ru]
   have kW:KB Wt H7 (upd H7 Wt (.lst ((ai W').map V.int))):=KB.write
   have w8:(upd H7 Wt (.lst ((ai W').map V.int))) Wt=some (.lst ((ai W').map V.int)):=af
   generalize upd H7 Wt (.lst ((ai W').map V.int))=H8 at kW w8 ⊢
   have M8:Mem H8 d e ks es aB:=⟨kW _ _ M7.kn dW,kW _ _ M7.ms eW,M7.ne,M7.nin,M7.ls.keep fun b hb o z=>kW _ _ z (IP b hb)⟩
   have Rv:=kW _ _ Rq Rt
   have I8:=kW _ _ (k7 _ _ i6 Id Ie IW) IW
   have Rw:cK (fun b=>b≠d∧b≠e∧b≠Wt) H8 mv n ts:=cK.keep Lz fun b o nb z=>⟨nb,kW _ _ (k7 _ _ z nb.1 nb.2.1 nb.2.2) nb.2.2⟩
   refine⟨e,_,_,.ref gb,rfl,rfl,.of M8.ms,aA (by rw[List.getElem?_map,hgb];rfl),?_⟩
   dsimp only[aC]
   refine⟨_,rfl,I,rfl,⟨_,.of I8⟩,fw (xs:=ts.map V.ref) (fun j σ H'=>∃(ks':List Nat) (es':List Addr) (cP:List (List Nat)) (v8 v9 v10:Option V),σ=[some (.ref ya),some (.ref va),some (.ref d),some (.ref e),some (.ref I),some (.ref Wt),some (.int (es.length:Nat)),some (.ref gb),v8,v9,v10]∧mO d e H8 H'∧Mem H' d e ks' es' cP∧(∀b∈es',b≠Wt)∧tf n aB.length mv ks goal j ks' cP)
    ⟨ks,es,aB,v8,v9,v10,rfl,fun _ _ z _ _=>z,M8,IP,tf.start hop.part⟩ (fun j σ H' _ ⟨_,_,_,_,_,_,_,k',_⟩=>.of (k' _ _ I8 Id Ie)) ?_ ?_⟩
   ·rintro j y σ H9 hy ⟨ks',es',cP,v8,v9,v10,rfl,k9,M9,Eo,x9⟩
    obtain⟨t,rfl,et⟩:=ij hy
    have hj:j<B:=by rw[←Em];exact(List.getElem?_eq_some_iff.mp et).1
    obtain⟨nt,as,t8,nas,Rx⟩:=Rw j t et
    refine⟨by show 0≤sizeLine;omega,fun Sm Ep=>?_⟩
    have sS:=Same.new (o:=.lst []) Ep
    have LC:=k9 _ _ Rv LB.1 LB.2
    have t9:=k9 _ _ t8 nt.1 nt.2.1
    have Ry:bh H9 as (fU mv n j n):=Rx.keep fun b hb o z=>k9 _ _ z (nas b hb).1 (nas b hb).2.1
    dsimp only[aC]
    have fl:=fun i=>jA (mv:=mv) (n:=n) (x:=j) El (goal.take i) (List.take_sublist i goal)
    have Dn:∀i,(((goal.take i).map fun t=>(List.range n).filter fun r=>stp mv r j == t).flatten).length≤n:=fun i=>by
     have:=List.Nodup.length_le_of_subset (l₂:=List.range n) (fl i).1 fun r hr=>List.mem_range.mpr (((fl i).2 r).mp hr).1
     rw[List.length_range] at this;exact this
    refine⟨_,rfl,gb,rfl,⟨_,.of (sS _ _ LC)⟩,fw (xs:=(ai goal).map V.int) (fun i σ H'=>∃(v10:Option V),σ=[some (.ref ya),some (.ref va),some (.ref d),some (.ref e),some (.ref I),some (.ref Wt),some (.int (es.length:Nat)),some (.ref gb),some (.ref t),some (.ref Sm),v10]∧Same H9 H'∧H' Sm=some (.lst ((ai (((goal.take i).map fun t=>(List.range n).filter fun r=>stp mv r j == t).flatten)).map V.int)))
     ⟨v10,rfl,sS,af⟩ (fun i σ H' _ ⟨_,_,s',_⟩=>.of (s' _ _ LC)) ?_ ?_⟩
    ·rintro i y σ Ha hy ⟨v10,rfl,sa,sm⟩
     obtain⟨r,rfl,er⟩:=cV hy
     have hrn:r<n:=((mg' r).mp (List.mem_of_getElem? er)).1
     obtain⟨b,hb,eb⟩:=Ry.back (jz hrn)
     have l1:=Dn i
     have l2:((List.range n).filter fun x=>stp mv x j == r).length≤n:=by
      have:=List.length_filter_le (fun x=>stp mv x j == r) (List.range n)
      rw[List.length_range] at this;exact this
     refine⟨_,rfl,Or.inl ⟨rfl,_,.of sm⟩,_,rfl,_,rfl,t,_,_,.ref b,rfl,rfl,.of (sa _ _ t9),aA (by rw[List.getElem?_map,hb];rfl),Sm,b,_,_,rfl,rfl,sm,sa _ _ eb,by rw[List.length_map,List.length_map,aw,aw];omega,?_⟩
     refine⟨_,rfl,sa.kbn Ep KB.write,?_⟩
     rw[af,take_snoc er,List.map_append,List.flatten_append,aS,List.map_append]
     simp
    ·rintro σ Ha ⟨v10,rfl,sa,sm⟩
     rw[List.length_map,aw,List.take_length] at sm
     have m5:=fl goal.length
     rw[List.take_length] at m5
     generalize (goal.map fun t=>(List.range n).filter fun r=>stp mv r j == t).flatten=S at sm m5
     have Ma:=M9.same sa
     have Sd:Sm≠d:=(aj M9.kn Ep).symm
     have Se:Sm≠e:=(aj M9.ms Ep).symm
     have W9:=k9 _ _ w8 dW.symm eW.symm
     refine⟨_,rfl,_,rfl,_,rfl,n,Sm,d,e,S,ks',es',cP,rfl,Ma,sm,Sd,Se,x9.part,m5.1,fun r hr=>((m5.2 r).mp hr).1,n1,fun Hb es2 Bq Nr J kb Mb Rb hJ Fb=>?_⟩
     refine⟨Bq,es2,Nr,_,_,_,rfl,fun b o z c1 c2=>kb _ _ (sa _ _ (k9 _ _ z c1 c2)) c1 c2,Mb,fun b hb z=>?_,x9.next Rb hJ fun r hr=>?_⟩
     ·rcases Fb b hb with y | y
      ·exact Eo b y z
      ·rw[z,sa _ _ W9] at y;cases y
     ·rw[m5.2 r]
      exact⟨fun z=>z.2,fun z=>⟨hr,z⟩⟩
   ·rintro σ H9 ⟨ks',es',cP,v8,v9,v10,rfl,k9,M9,Eo,x9⟩
    rw[List.length_map,Em] at x9
    have Nt:=hop.turn bf mg' x9
    have p9:=x9.part.le
    have g9:=x9.grow
    have le9:es'.length=cP.length:=M9.ls.len
    have W9:=k9 _ _ w8 dW.symm eW.symm
    rw[List.length_append] at lW
    have eb:((es'.length:Int)-(es.length:Int)).toNat=cP.length-aB.length:=by omega
    refine⟨_,rfl,Or.inl ⟨rfl,_,.of W9⟩,_,rfl,_,rfl,_,es'.length,rfl,.inl ⟨_,.of M9.ms,by rw[List.length_map]⟩,_,_,rfl,⟨by omega,by omega,by omega,by omega⟩,by omega,fun l hl=>?_⟩
    have Wl:Wt≠l:=aj W9 hl
    have sl:=Same.new (o:=.lst ((List.range ((es'.length:Int)-(es.length:Int)).toNat).map fun(i:Nat)=>V.int ((es.length:Int)+i))) hl
    refine⟨Wt,l,_,_,rfl,rfl,sl _ _ W9,af,by rw[List.length_map,List.length_map,aw,List.length_range];simp at lW;omega,?_⟩
    rw[rangeInts (by omega),Rp,le9]
    refine⟨_,?_,ks',es',cP,W'++List.range' aB.length (cP.length-aB.length),_,_,_,_,_,rfl,rfl,fun b o z c1 c2 c3=>?_,?_,?_,Eo,?_,Nt⟩
    ·rw[List.length_append,List.length_append,List.length_range']
     simp
     omega
    ·rw[aq c3]
     have zl:b≠l:=fun y=>by
      have:=k9 _ _ (kW _ _ (k7 _ _ z c1 c2 c3) c3) c1 c2
      rw[y,hl] at this;cases this
     rw[aq zl]
     exact k9 _ _ (kW _ _ (k7 _ _ z c1 c2 c3) c3) c1 c2
    ·have kk:∀b o,b≠Wt→H9 b=some o→(upd (upd H9 l (.lst ((ai (List.range' aB.length (cP.length-aB.length))).map V.int))) Wt (.lst ((ai W').map V.int++(ai (List.range' aB.length (cP.length-aB.length))).map V.int))) b=some o:=fun b o c3 z=>by
      rw[aq c3,aq (aj z hl)];exact z
     exact⟨kk _ _ dW M9.kn,kk _ _ eW M9.ms,M9.ne,M9.nin,M9.ls.keep fun b hb o z=>kk _ _ (Eo b hb) z⟩
    ·rw[af,aS,List.map_append]
    ·rw[List.length_append,List.length_range']
     simp at lW
     omega
structure iQ {α:Type} (x0:α) (on:α→Nat→α) (m:Nat) (xs:List α) (x:α) (leads:List Nat) (ys:List α):Prop where
 once:ys.Nodup
 pre:∃more,ys=xs++more
 reach:∀y∈ys,∃w,bU m w∧y=gA on x0 w
 at':∀(c t:Nat),leads[c]? =some t→ys[t]? =some (on x c)
 go:bH leads xs.length=some ys.length
theorem kK {α:Type} {xs more:List α} {i:Nat} {x:α} (h:xs[i]? =some x):(xs++more)[i]? =some x:=by
 rw[List.getElem?_append_left (List.getElem?_eq_some_iff.mp h).1];exact h
section
variable {α:Type} {x0:α} {on:α→Nat→α} {m:Nat} {xs ys:List α} {mv:List (List Nat)} {x:α} {leads:List Nat}
theorem dP.begin:dP x0 on m [x0] []:=⟨by simp,rfl,fun x hx=>⟨[],.nil m,by rw[List.mem_singleton.mp hx];rfl⟩,fun i r h=>by simp at h,rfl⟩
theorem iQ.start (g:dP x0 on m xs mv):iQ x0 on m xs x [] xs:=⟨g.once,⟨[],by simp⟩,g.reach,fun c t h=>by simp at h,rfl⟩
theorem iQ.old (g:iQ x0 on m xs x leads ys) {t:Nat} (h:ys[t]? =some (on x leads.length)):iQ x0 on m xs x (leads++[t]) ys:=by
 have ht:=(List.getElem?_eq_some_iff.mp h).1
 refine⟨g.once,g.pre,g.reach,fun c u hu=>?_,?_⟩
 ·by_cases hc:c<leads.length
  ·rw[List.getElem?_append_left hc] at hu;exact g.at' c u hu
  ·have hb:=(List.getElem?_eq_some_iff.mp hu).1
   rw[List.length_append] at hb
   have e:c=leads.length:=by simp at hb;omega
   subst e
   rw[List.getElem?_append_right (Nat.le_refl _),Nat.sub_self] at hu
   have:=Option.some.inj hu
   subst this
   exact h
 ·rw[iH,g.go]
  show bH [t] ys.length=_
  simp only[bH]
  rw[if_pos ht]
theorem iQ.new (g:iQ x0 on m xs x leads ys) (hm:leads.length<m) (hx:∃w,bU m w∧x=gA on x0 w) (h:on x leads.length ∉ ys):iQ x0 on m xs x (leads++[ys.length]) (ys++[on x leads.length]):=by
 obtain⟨more,e⟩:=g.pre
 refine⟨?_,⟨more++[on x leads.length],by rw[e,List.append_assoc]⟩,fun y hy=>?_,fun c u hu=>?_,?_⟩
 ·rw[List.nodup_append]
  exact⟨g.once,by simp,fun a ha b hb z=>h (by rw[←List.mem_singleton.mp hb,←z];exact ha)⟩
 ·rcases List.mem_append.mp hy with z | z
  ·exact g.reach y z
  ·rw[List.mem_singleton.mp z]
   obtain⟨w,hw,ex⟩:=hx
   exact⟨w++[leads.length],hw.app (.cons hm (.nil m)),by rw[vZ,←ex];rfl⟩
 ·by_cases hc:c<leads.length
  ·rw[List.getElem?_append_left hc] at hu;exact kK (g.at' c u hu)
  ·have hb:=(List.getElem?_eq_some_iff.mp hu).1
   rw[List.length_append] at hb
   have e:c=leads.length:=by simp at hb;omega
   subst e
   rw[List.getElem?_append_right (Nat.le_refl _),Nat.sub_self] at hu
   have:=Option.some.inj hu
   subst this
   rw[List.getElem?_append_right (Nat.le_refl _),Nat.sub_self];rfl
 ·rw[iH,g.go,List.length_append]
  show bH [ys.length] ys.length=_
  simp only[bH]
  rw[if_neg (Nat.lt_irrefl _)]
  simp
theorem dP.next (g:dP x0 on m xs mv) (hx:xs[mv.length]? =some x) (r:iQ x0 on m xs x leads ys) (hl:leads.length=m):dP x0 on m ys (mv++[leads]):=by
 obtain⟨more,e⟩:=r.pre
 have hlt:=(List.getElem?_eq_some_iff.mp hx).1
 refine⟨r.once,by rw[e];exact kK g.first,r.reach,fun i row hr=>?_,?_⟩
 ·by_cases hi:i<mv.length
  ·rw[List.getElem?_append_left hi] at hr
   obtain⟨h1,y,h2,h3⟩:=g.row i row hr
   exact⟨h1,y,by rw[e];exact kK h2,fun c t ht=>by rw[e];exact kK (h3 c t ht)⟩
  ·have hb:=(List.getElem?_eq_some_iff.mp hr).1
   rw[List.length_append] at hb
   have ei:i=mv.length:=by simp at hb;omega
   subst ei
   rw[List.getElem?_append_right (Nat.le_refl _),Nat.sub_self] at hr
   have:=Option.some.inj hr
   subst this
   exact⟨hl,x,by rw[e];exact kK hx,r.at'⟩
 ·rw[lN,g.go]
  show(if 0+mv.length<xs.length then bH leads xs.length else none)=_
  rw[if_pos (by omega)];exact r.go
end
section
variable {α:Type} (R:h_ α) (many:Nat) (on:α→Nat→α) (yes:α→Bool) (Ok:α→Prop) (Ev:Hp→Prop)
def Dp:Sp:=fun vs H Q _=>∃(x:α) (v:V) (a:Nat),vs=[v,.int a]∧R.Rep x v H∧Ok x∧a<many∧Ev H∧∀v' H',Same H H'→R.Rep (on x a) v' H'→Q v' H'
def Dq:Sp:=fun vs H Q _=>∃(x:α) (v:V),vs=[v]∧R.Rep x v H∧Ok x∧Ev H∧∀H',Same H H'→Q (.bl (yes x)) H'
def FV (f1 f2:Addr):Sp:=fun vs H Q _=>∃(x0:α) (v0:V) (most bd:Nat),vs=[v0,.int many,.ref f1,.ref f2,.int most]∧R.Rep x0 v0 H∧Ok x0∧Ev H∧(∀l:List α,l.Nodup→(∀x∈l,∃w,bU many w∧x=gA on x0 w)→l.length≤bd)∧bd≤most∧bd≤10000∧many≤1000∧
 ∀(xs:List α) (mv:List (List Nat)) (p Rr ya va:Addr) (ps:List Addr) (H':Hp),Same H H'→mv.length=xs.length→dP x0 on many xs mv→H' p=some (.tup [.ref Rr,.ref ya,.ref va])→H' ya=some (.tup ((xs.map yes).map V.bl))→H' va=some (.tup (ps.map V.ref))→fB H' ps (mv.map ai)→Q (.ref p) H'
end
theorem rb {H:Hp} {a:Addr} {o o':HO} (h:H a=some o) (hn:∀l,o≠.tup l):cm H (upd H a o'):=fun b xs e=>by
 rw[aq (jF e h fun z=>hn xs z.symm)];exact e
theorem IQ {H H':Hp} {a:Addr} {o:HO} (h:H a=some o) (hn:∀l,o≠.tup l) (k:KB a H H'):cm H H':=fun b xs e=>k _ _ e (jF e h fun z=>hn xs z.symm)
def j5 {α:Type} (R:h_ α) (H:Hp) (vs:List V) (xs:List α):Prop:=Paired (fun v x=>R.Rep x v H) vs xs
theorem j5.keep {α:Type} {R:h_ α} {H H':Hp} {vs:List V} {xs:List α} (h:j5 R H vs xs) (k:cm H H'):j5 R H' vs xs:=Paired.ml h fun _ _ z=>R.same z k
theorem j5.at {α:Type} {R:h_ α} {H:Hp}:∀{vs:List V} {xs:List α} {i:Nat} {x:α},j5 R H vs xs→xs[i]? =some x→∃v,vs[i]? =some v∧R.Rep x v H
 | _,_,_,_,.nil,e=>by simp at e
 | _,_,0,_,.cons r _,e=>by simp at e;subst e;exact⟨_,rfl,r⟩
 | _,_,i+1,_,.cons _ t,e=>by
  simp only[List.getElem?_cons_succ] at e ⊢
  exact j5.at t e
theorem cx:aW ["first","many","onward","is_yes","most","rooms","numbers","moves","room","leads","letter","to","yes"] ["first","many","onward","is_yes","most"] (ak bA):=⟨rfl,rfl,rfl,by decide+kernel,rfl,by decide+kernel,by decide+kernel⟩
set_option maxHeartbeats 16000000 in
theorem mj {a:eY} (T:Txt K mg a) {α:Type} (R:h_ α) {many:Nat} {on:α→Nat→α} {yes:α→Bool} {Ok:α→Prop} {Ev:Hp→Prop} {f1 f2:Addr} {k:Nat}
  (F1:FnAt P w K mg base k f1 2 (Dp R many on Ok Ev)) (F2:FnAt P w K mg base k f2 1 (Dq R yes Ok Ev)) (yS:∀x a,Ok x→a<many→Ok (on x a)) (yT:∀H H',Ev H→Same H H'→Ev H'):
  bD P w K mg base cE (k+1) a.gP a.gk ["first","many","onward","is_yes","most"] (FV R many on yes Ok Ev f1 f2):=by
 obtain⟨o1,US,ps1,ho1,hf1,hl1,hb1,G1⟩:=F1
 obtain⟨o2,fd2,ps2,ho2,hf2,hl2,hb2,G2⟩:=F2
 refine T.vL.ok cx (fun vs H Q E h=>?_) (fun Ar outer sh H vs Q E hr h=>?_)
 ·obtain⟨x0,v0,most,bd,rfl,_⟩:=h
  rfl
 ·obtain⟨x0,v0,most,bd,rfl,r0,k0,LF,hbd,hbm,UB,Uw,q⟩:=h
  refine⟨_,(ah (av (i:=5) cx.nd rfl (Or.inl rfl) (cq (ae (pv 0) ag)))
  (ah (av (i:=6) cx.nd rfl (Or.inl rfl) (R.CQ (iX hr) (pv 0) ao))
  (ah (av (i:=7) cx.nd rfl (Or.inl rfl) (cq ag))
  (ah (kP PassesOwn.never (Cq uh DQ (aF (aK K) (by rfl) T.bM bo (ae (pv 7) ag)) (aF (aK K) (by rfl) T.bM bo (ae (pv 5) ag)) (pv 4))
   (ah (av (i:=8) cx.nd rfl (Or.inl rfl) (aH (bq K) (pv 5) (aF (aK K) (by rfl) T.bM bo (ae (pv 7) ag)) (fun _ _=>rfl)))
   (ah (av (i:=9) cx.nd rfl (Or.inl rfl) (cq ag))
   (ah (bF PassesOwn.never rfl (bE rfl T.bW (ae (pv 1) ag)) (ax (i:=10) cx.nd rfl (Or.inl rfl))
    (ah (av (i:=11) cx.nd rfl (Or.inl rfl) (uW (i:=2) G1 ho1 hf1 hr hb1 rfl (Or.inl rfl) (ae (pv 8) (ae (pv 10) ag))))
    (ah (dy (Av (rN (iX hr) (pv 11) (pv 6)) (by with_unfolding_all rfl))
     (ah (Fn (iX hr) (pv 6) (pv 11) (aF (aK K) (by rfl) T.bM bo (ae (pv 5) ag)) rfl)
     (au (bR (cL PySem.F.plainAttrs_list PySem.F.slot_list_append PySem.F.type_list_append bS (pv 5) (ae (pv 11) ag)))))
     cz)
    (au (bR (cL PySem.F.plainAttrs_list PySem.F.slot_list_append PySem.F.type_list_append bS (pv 9) (ae (ki (iX hr) (pv 6) (pv 11) (fun _ _=>rfl)) ag)))))))
   (au (bR (cL PySem.F.plainAttrs_list PySem.F.slot_list_append PySem.F.type_list_append bS (pv 7) (ae (bt (cv K) (by rfl) T.dD cX (ae (pv 9) ag)) ag))))))))
  (ah (dy (br pK (aF (aK K) (by rfl) T.bM bo (ae (pv 5) ag)) (pv 4) (bQ _))
   (au (aY Gp))
   cz)
  (ah (av (i:=12) cx.nd rfl (Or.inl rfl) (bt (cv K) (by rfl) T.dD cX (ae (cA (aD.mk' (esc:=ak bA) (N:=["first","many","onward","is_yes","most","rooms","numbers","moves","room","leads","letter","to","yes"]) (own:=["room"]) (aJ:=["is_yes"]) (bx:=[3]) rfl rfl (by decide+kernel)) rfl (cR (pv 5)) (fun _ _ _ _=>(ax (i:=0) (show List.Nodup (["room","is_yes"]:List Str) by decide+kernel) rfl (Or.inl rfl))) (fun _ _ _ _=>bG) (fun _ _ _ _=>(bt zr (by rfl) T.vW qF (ae (uW (i:=1) G2 ho2 hf2 hr hb2 (by rfl) (by first | exact Or.inl rfl | exact Or.inr (Or.inl rfl) | exact Or.inr (Or.inr rfl)) (ae (pv 0) ag)) ag)))) ag)))
  (au (aY (iD (ae (pv 5) (ae (pv 12) (ae (bt (cv K) (by rfl) T.dD cX (ae (pv 7) ag)) ag)))))))))))),?_⟩
  have big:(100000:Nat)≤sizeLine:=by decide
  have Es:∀(w:List Nat) (x:α),Ok x→bU many w→Ok (gA on x w):=by
   intro w
   induction w with
   | nil=>intro x hx _;exact hx
   | cons c w ih=>intro x hx hw;exact ih _ (yS x c hx (hw c List.mem_cons_self)) fun z hz=>hw z (List.mem_cons_of_mem _ hz)
  refine⟨_,rfl,by show 1≤sizeLine;omega,fun Rr hR=>?_⟩
  have sR:=Same.new (o:=.lst [v0]) hR
  dsimp only[aC]
  refine⟨x0,v0,rfl,R.same r0 sR.kt,fun D H2 hD s2 num=>?_⟩
  have LG:H2 Rr=some (.lst [v0]):=s2 _ _ af
  have Rz:H D=none:=sR.free hD
  have DR:Rr≠D:=aj (show(upd H Rr (.lst [v0])) Rr=some (.lst [v0]) from af) hD
  dsimp only[aC]
  refine⟨by show 0≤sizeLine;omega,fun M hM=>?_⟩
  have sM:=Same.new (o:=.lst []) hM
  have IT:H M=none:=sR.free (s2.free hM)
  have MR:M≠Rr:=(aj LG hM).symm
  obtain⟨oD,RA,_,_⟩:=R.isD num
  have MD:M≠D:=(aj RA hM).symm
  have Ej:=(sR.trans s2).trans sM
  dsimp only[aC]
  refine jl (t:=j9 _ _) (u:=mx _ _) (fun σ H'=>∃(xs:List α) (mv:List (List Nat)) (vs:List V) (ps:List Addr) (v8 v9 v10 v11:Option V),σ=[some v0,some (.int (many:Nat)),some (.ref f1),some (.ref f2),some (.int (most:Nat)),some (.ref Rr),some (.ref D),some (.ref M),v8,v9,v10,v11,none]∧Same H H'∧
   H' Rr=some (.lst vs)∧j5 R H' vs xs∧H' M=some (.lst (ps.map V.ref))∧fB H' ps (mv.map ai)∧dP x0 on many xs mv∧mv.length=xs.length) ?re (fun rest=>?_)
  case re=>
   rintro σ H' ⟨xs,mv,vs,ps,v8,v9,v10,v11,rfl,s',eR,rp,eM,tp,g,hl⟩
   have lx:=hbd xs g.once g.reach
   have IU:vs.length=xs.length:=Paired.length rp
   have lps:ps.length=mv.length:=by rw[Paired.length tp,List.length_map]
   refine⟨_,rfl,_,vs.length,rfl,.inl ⟨_,.of eR,rfl⟩,_,rfl,_,_,rfl,rfl,_,rfl,?_⟩
   rw[show decide ((most:Int)<((vs.length:Nat):Int))=false from decide_eq_false (by omega)]
   refine dR ?_
   refine⟨_,rfl,Rr,rfl,⟨_,.of eR⟩,fun C hC=>?_⟩
   refine gC (xs:=vs) (fun j σ H2=>∃v:Option V,σ=[v,some (.ref f2)]∧Same H' H2∧H2 C=some (.lst (((xs.take j).map yes).map V.bl)))
    ⟨none,?sg,Same.new hC,af⟩ (fun j σ H2 _ ⟨_,_,s2,_⟩=>.of (s2 _ _ eR)) ?_ ?_
   case sg=>rfl
   ·rintro j y σ H2 hy ⟨v,rfl,s2,c2⟩
    have hj:j<xs.length:=by rw[←IU];exact(List.getElem?_eq_some_iff.mp hy).1
    have ex:xs[j]? =some xs[j]:=List.getElem?_eq_getElem hj
    obtain⟨v',hv',rv⟩:=rp.at ex
    rw[hy] at hv'
    have hv2:=Option.some.inj hv'
    subst hv2
    obtain⟨w,hw,ew⟩:=g.reach xs[j] (List.getElem_mem ..)
    have okx:Ok xs[j]:=by rw[ew];exact Es w x0 k0 hw
    refine⟨rfl,_,rfl,xs[j],y,rfl,R.same rv s2.kt,okx,yT _ _ LF (s'.trans s2),fun H3 s3=>?_⟩
    refine .inr ⟨_,rfl,_,s3 _ _ c2,by rw[List.length_map,List.length_map,List.length_take];omega,_,rfl,(s2.trans s3).kbn hC KB.write,?_⟩
    rw[af,take_snoc ex,List.map_append,List.map_append];rfl
   rintro σ H2 ⟨v,rfl,s2,c2⟩
   rw[IU,List.take_length] at c2
   refine⟨C,_,rfl,.inl ⟨.of c2,fun Ya RB=>?_⟩⟩
   have sY:=Same.new (o:=.tup ((xs.map yes).map V.bl)) RB
   dsimp only[aC]
   refine⟨_,rfl,_,rfl,_,rfl,M,_,rfl,.inl ⟨.of (sY _ _ (s2 _ _ eM)),fun Va RC=>⟨by show 3≤sizeLine;omega,fun p hp=>?_⟩⟩⟩
   have sV:=Same.new (o:=.tup (ps.map V.ref)) RC
   have sP:=Same.new (o:=.tup [.ref Rr,.ref Ya,.ref Va]) hp
   have Ag:=((s2.trans sY).trans sV).trans sP
   exact q xs mv p Rr Ya Va ps _ (s'.trans Ag) hl g af (sP _ _ (sV _ _ af)) (sP _ _ af) (tp.keep Ag.kt)
  refine u3 (fun m σ H'=>∃(xs:List α) (mv:List (List Nat)) (vs:List V) (ps:List Addr) (v8 v9 v10 v11:Option V),m=bd+1-mv.length∧σ=[some v0,some (.int (many:Nat)),some (.ref f1),some (.ref f2),some (.int (most:Nat)),some (.ref Rr),some (.ref D),some (.ref M),v8,v9,v10,v11,none]∧Same H H'∧
    H' Rr=some (.lst vs)∧j5 R H' vs xs∧R.Num H' D xs∧H' M=some (.lst (ps.map V.ref))∧fB H' ps (mv.map ai)∧dP x0 on many xs mv∧mv.length≤xs.length)
   ⟨_,[x0],[],[v0],[],none,none,none,none,rfl,rfl,Ej,sM _ _ LG,.cons (R.same r0 Ej.kt) .nil,R.keep num (aq MD.symm),af,.nil,dP.begin,by simp⟩ ?_ ?_
  ·rintro m σ H4 ⟨xs,mv,vs,ps,v8,v9,v10,v11,rfl,rfl,s4,eR,rp,nm,eM,tp,g,hl⟩
   have lx:=hbd xs g.once g.reach
   have IU:vs.length=xs.length:=Paired.length rp
   have lps:ps.length=mv.length:=by rw[Paired.length tp,List.length_map]
   refine⟨_,rfl,_,ps.length,rfl,.inl ⟨_,.of eM,by rw[List.length_map]⟩,_,rfl,_,vs.length,rfl,.inl ⟨_,.of eR,rfl⟩,_,_,rfl,rfl,_,rfl,?_⟩
   by_cases hlt:mv.length<xs.length
   ·rw[show decide (((ps.length:Nat):Int)<((vs.length:Nat):Int))=true from decide_eq_true (by omega)]
    refine mJ ⟨_,rfl,_,_,rfl,rfl,_,rfl,?_⟩
    rw[show decide (((vs.length:Nat):Int)≤((most:Nat):Int))=true from decide_eq_true (by omega)]
    refine mJ ?_
    obtain⟨x,ex⟩:∃x,xs[mv.length]? =some x:=⟨_,List.getElem?_eq_getElem hlt⟩
    obtain⟨vx,RD,rx⟩:=rp.at ex
    have IV:=g.reach x (List.mem_of_getElem? ex)
    have okx:Ok x:=by obtain⟨w,hw,ew⟩:=IV;rw[ew];exact Es w x0 k0 hw
    refine⟨_,rfl,_,rfl,_,ps.length,rfl,.inl ⟨_,.of eM,by rw[List.length_map]⟩,Rr,_,_,vx,rfl,rfl,.of eR,aA (by rw[lps];exact RD),?_⟩
    dsimp only[aC]
    refine⟨by show 0≤sizeLine;omega,fun L hL=>?_⟩
    have sL:=Same.new (o:=.lst []) hL
    have hL0:H L=none:=s4.free hL
    have LR:L≠Rr:=(aj eR hL).symm
    have LM:L≠M:=(aj eM hL).symm
    obtain⟨UT,Nu,_,_⟩:=R.isD nm
    have LD:L≠D:=(aj Nu hL).symm
    dsimp only[aC]
    refine⟨_,rfl,_,rfl,by omega,by omega,dH (n:=(many:Int).toNat) (fun j σ H'=>∃(ys:List α) (us:List V) (leads:List Nat) (v10 v11:Option V),σ=[some v0,some (.int (many:Nat)),some (.ref f1),some (.ref f2),some (.int (most:Nat)),some (.ref Rr),some (.ref D),some (.ref M),some vx,some (.ref L),v10,v11,none]∧Same H H'∧cm H4 H'∧
      H' Rr=some (.lst us)∧j5 R H' us ys∧R.Num H' D ys∧H' M=some (.lst (ps.map V.ref))∧H' L=some (.lst ((ai leads).map V.int))∧leads.length=j∧iQ x0 on many xs x leads ys)
     ⟨xs,vs,[],v10,v11,rfl,s4.trans sL,sL.kt,sL _ _ eR,rp.keep sL.kt,R.keep nm (aq LD.symm),sL _ _ eM,af,rfl,iQ.start g⟩ ?_ ?_⟩
    ·rintro j σ H5 hj ⟨ys,us,leads,v10,v11,rfl,s5,Et,Eu,Ew,BP,BQ,IX,ll,gr⟩
     have ej:(0:Int)+(j:Int)=((j:Nat):Int):=by omega
     rw[ej]
     have HK:j<many:=by omega
     have ly:=hbd ys gr.once gr.reach
     have RE:us.length=ys.length:=Paired.length Ew
     refine⟨rfl,_,rfl,_,rfl,x,vx,j,rfl,R.same rx Et,okx,HK,yT _ _ LF s5,fun to H6 s6 BR=>?_⟩
     have IY:=s6 _ _ Eu
     have BS:=s6 _ _ BQ
     have LH:=s6 _ _ IX
     have LI:=Ew.keep s6.kt
     obtain⟨RF,wj,RG,LJ⟩:=R.isD BP
     have Ex:=R.keep BP ((s6 _ _ wj).trans wj.symm)
     have Nv:=s6 _ _ wj
     have BU:cm H4 H6:=fun b l z=>s6 _ _ (Et _ _ z)
     have BO:=s5.trans s6
     dsimp only[aC]
     refine jl (t:=uz _ _ _) (u:=DM _) (fun σ H'=>∃(zs:List α) (ws:List V) (t:Nat),σ=[some v0,some (.int (many:Nat)),some (.ref f1),some (.ref f2),some (.int (most:Nat)),some (.ref Rr),some (.ref D),some (.ref M),some vx,some (.ref L),some (.int (j:Nat)),some to,none]∧Same H H'∧cm H6 H'∧
      H' Rr=some (.lst ws)∧j5 R H' ws zs∧R.Num H' D zs∧H' M=some (.lst (ps.map V.ref))∧H' L=some (.lst ((ai leads).map V.int))∧zs[t]? =some (on x j)∧iQ x0 on many xs x (leads++[t]) zs) ?RH (fun Ey=>?_)
     case RH=>
      rintro σ H7 ⟨zs,ws,t,rfl,s7,m6,BV,RI,Ez,RJ,IZ,hz,LK⟩
      refine⟨_,rfl,Or.inl ⟨rfl,_,.of IZ⟩,_,rfl,_,rfl,D,_,rfl,R.there Ez (R.same BR m6) LK.once hz,L,_,_,rfl,rfl,IZ,by rw[List.length_map,aw];omega,?_⟩
      have kL:cm H7 (upd H7 L (.lst ((ai leads).map V.int++[.int (t:Nat)]))):=rb IZ (fun l z=>nomatch z)
      refine⟨zs,ws,leads++[t],_,_,rfl,s7.kbn hL0 KB.write,fun b l z=>kL _ _ (m6 _ _ (BU _ _ z)),by rw[aq LR.symm];exact BV,RI.keep kL,R.keep Ez (aq LD.symm),by rw[aq LM.symm];exact RJ,?_,by rw[List.length_append,ll];rfl,LK⟩
      rw[af,aS,List.map_append];rfl
     by_cases hm:on x j∈ys
     ·obtain⟨i,hi⟩:=List.getElem?_of_mem hm
      refine⟨_,rfl,_,rfl,D,_,rfl,R.there Ex BR gr.once hi,_,rfl,?_⟩
      refine dR ?_
      exact Ey _ _ ⟨ys,us,i,rfl,BO,fun _ _ z=>z,IY,LI,Ex,BS,LH,hi,gr.old (by rw[ll];exact hi)⟩
     ·refine⟨_,rfl,_,rfl,D,_,rfl,R.miss Ex BR hm,_,rfl,?_⟩
      refine mJ ?_
      obtain⟨H7,Nw,qi,Ez⟩:=R.put Ex BR hm (by omega)
      have LL:=gr.new (by omega) IV (by rw[ll];exact hm)
      rw[ll] at LL
      have BV:=qi _ _ IY DR
      refine⟨_,rfl,_,us.length,rfl,.inl ⟨_,.of IY,rfl⟩,_,rfl,_,rfl,D,H7,rfl,by rw[RE];exact Nw,?_⟩
      refine⟨_,rfl,Or.inl ⟨rfl,_,.of BV⟩,_,rfl,Rr,_,_,rfl,rfl,BV,by omega,?_⟩
      have m6:cm H6 H7:=IQ Nv LJ qi
      have kR:cm H7 (upd H7 Rr (.lst (us++[to]))):=rb BV (fun l z=>nomatch z)
      have I_:cm H6 (upd H7 Rr (.lst (us++[to]))):=fun b l z=>kR _ _ (m6 _ _ z)
      refine Ey _ _ ⟨ys++[on x j],us++[to],ys.length,rfl,(BO.kbn Rz qi).kbn hR KB.write,I_,af,?_,R.keep Ez (aq DR.symm),by rw[aq MR];exact qi _ _ BS MD,by rw[aq LR];exact qi _ _ LH LD,by rw[List.getElem?_append_right (Nat.le_refl _),Nat.sub_self];rfl,LL⟩
      exact iB (LI.keep I_) (R.same BR I_)
    ·rintro σ H5 ⟨ys,us,leads,v10,v11,rfl,s5,Et,Eu,Ew,BP,BQ,IX,ll,gr⟩
     have RK:leads.length=many:=by rw[ll];omega
     have g2:=g.next ex gr RK
     have ly:=hbd ys gr.once gr.reach
     obtain⟨more,KN⟩:=gr.pre
     have UU:xs.length≤ys.length:=by rw[KN,List.length_append];omega
     refine⟨_,rfl,Or.inl ⟨rfl,_,.of BQ⟩,_,rfl,L,_,rfl,.inl ⟨.of IX,fun t ht=>?_⟩⟩
     have sT:=Same.new (o:=.tup ((ai leads).map V.int)) ht
     have RL:M≠t:=aj BQ ht
     have UW:Rr≠t:=aj Eu ht
     obtain⟨RF,wj,RG,LJ⟩:=R.isD BP
     have RM:D≠t:=aj wj ht
     have BS:=sT _ _ BQ
     refine⟨M,_,_,rfl,rfl,BS,by rw[List.length_map];omega,?_⟩
     have kM:cm (upd H5 t (.tup ((ai leads).map V.int))) (upd (upd H5 t (.tup ((ai leads).map V.int))) M (.lst (ps.map V.ref++[.ref t]))):=rb BS (fun l z=>nomatch z)
     have kA:cm H5 (upd (upd H5 t (.tup ((ai leads).map V.int))) M (.lst (ps.map V.ref++[.ref t]))):=fun b l z=>kM _ _ (sT.kt _ _ z)
     refine⟨_,?_,ys,mv++[leads],us,ps++[t],_,_,_,_,rfl,rfl,(s5.trans sT).kbn IT KB.write,by rw[aq MR.symm];exact sT _ _ Eu,Ew.keep kA,R.keep BP (by rw[aq MD.symm,aq RM]),by rw[af,List.map_append];rfl,?_,g2,by rw[List.length_append];simp;omega⟩
     ·rw[List.length_append];simp;omega
     ·rw[List.map_append]
      exact iB ((tp.keep Et).keep kA) (by rw[aq RL.symm,af])
   ·have e:mv.length=xs.length:=by omega
    rw[show decide (((ps.length:Nat):Int)<((vs.length:Nat):Int))=false from decide_eq_false (by omega)]
    refine dR ⟨_,rfl,dR ?_⟩
    exact rest _ _ ⟨xs,mv,vs,ps,v8,v9,v10,v11,rfl,s4,eR,rp,eM,tp,g,e⟩
  ·rintro σ H Q Q' h ⟨v,e1,v2,n1,e2,l1,v3,e3,v4,n2,e4,l2,i,j,e5,e6,k,e7,z⟩
   refine⟨v,e1,v2,n1,e2,l1,v3,e3,v4,n2,e4,l2,i,j,e5,e6,k,e7,?_⟩
   cases k with
   | false=>
    rw[if_neg Bool.false_ne_true] at z ⊢
    obtain⟨k',e8,q⟩:=z
    exact⟨k',e8,h _ _ q⟩
   | true=>
    rw[if_pos rfl] at z ⊢
    obtain⟨v5,e9,i2,j2,e10,G3,k2,RN,q⟩:=z
    exact⟨v5,e9,i2,j2,e10,G3,k2,RN,h _ _ q⟩
def lR (p:Nat×Nat):Key×V:=((Sum.inl (p.1:Int):Key),V.int ((p.2:Nat):Int))
theorem qj:∀(l:List (Nat×Nat)) (acc:List (Key×V)) (x:Nat),(∃r,(x,r)∈l∧aX (cu acc (l.map lR)) (Sum.inl (x:Int))=some (.int ((r:Nat):Int)))∨((∀r,(x,r) ∉ l)∧aX (cu acc (l.map lR)) (Sum.inl (x:Int))=aX acc (Sum.inl (x:Int)))
 | [],acc,x=>.inr ⟨(fun r h=>by cases h),rfl⟩
 | (y,r)::l,acc,x=>by
  have e:cu acc (((y,r)::l).map lR)=cu (putK acc (Sum.inl (y:Int)) (.int ((r:Nat):Int))) (l.map lR):=rfl
  rw[e]
  rcases qj l (putK acc (Sum.inl (y:Int)) (.int ((r:Nat):Int))) x with⟨q,h1,h2⟩ | ⟨h1,h2⟩
  ·exact .inl ⟨q,List.mem_cons_of_mem _ h1,h2⟩
  ·rw[h2,uK]
   by_cases hxy:x=y
   ·subst hxy
    exact .inl ⟨r,List.mem_cons_self,if_pos rfl⟩
   ·refine .inr ⟨fun q hq=>?_,if_neg fun z=>hxy (ky _ _ z)⟩
    rcases List.mem_cons.mp hq with z | z
    ·exact hxy (by injection z)
    ·exact h1 q z
def eP (ks:List Nat):List (Key×V):=cu [] (ks.zipIdx.map lR)
def stK (ks:List Nat) (x:Nat):Nat:=match aX (eP ks) (Sum.inl (x:Int)) with
 | some (.int i)=>i.toNat
 | _=>0
theorem qk {ks:List Nat} {r x:Nat} (hr:r<ks.length) (e:kd ks r=x):aX (eP ks) (Sum.inl (x:Int))=some (.int ((stK ks x:Nat):Int))∧stK ks x<ks.length∧kd ks (stK ks x)=x:=by
 have hm:(x,r)∈ks.zipIdx:=by
  rw[List.mem_zipIdx_iff_getElem?]
  rw[←e]
  exact item_at 0 hr
 rcases qj ks.zipIdx [] x with⟨q,h1,h2⟩ | ⟨h1,_⟩
 ·have eq:stK ks x=q:=by
   unfold stK eP
   rw[h2]
   simp
  rw[eq]
  rw[List.mem_zipIdx_iff_getElem?] at h1
  refine⟨h2,(List.getElem?_eq_some_iff.mp h1).1,?_⟩
  unfold kd
  rw[List.getD_eq_getElem?_getD,h1];rfl
 ·exact absurd hm (h1 r)
def wk (ks:List Nat) (mv:List (List Nat)) (x a:Nat):Nat:=kd ks (stp mv (stK ks x) a)
def m7 (ks:List Nat) (bs:List Bool) (x:Nat):Bool:=bs.getD (stK ks x) false
section
variable {B:Nat} {bs:List Bool} {mv:List (List Nat)} {ks:List Nat}
theorem BW (m:Moves bs.length B mv) (hl:ks.length=bs.length) (iff:∀r s,r<bs.length→s<bs.length→(kd ks r=kd ks s↔Eqv B bs mv r s)) {r a:Nat} (hr:r<bs.length) (ha:a<B):wk ks mv (kd ks r) a=kd ks (stp mv r a):=by
 obtain⟨_,h2,h3⟩:=qk (ks:=ks) (r:=r) (by omega) rfl
 have e:=(iff _ _ (by omega) hr).mp h3
 exact(iff _ _ (m.stp (by omega) ha) (m.stp hr ha)).mpr (e.step ha)
theorem FW (hl:ks.length=bs.length) (iff:∀r s,r<bs.length→s<bs.length→(kd ks r=kd ks s↔Eqv B bs mv r s)) {r:Nat} (hr:r<bs.length):m7 ks bs (kd ks r)=bs.getD r false:=by
 obtain⟨_,h2,h3⟩:=qk (ks:=ks) (r:=r) (by omega) rfl
 exact(iff _ _ (by omega) hr).mp h3 [] (.nil B)
theorem lT (m:Moves bs.length B mv) (hl:ks.length=bs.length) (iff:∀r s,r<bs.length→s<bs.length→(kd ks r=kd ks s↔Eqv B bs mv r s)):∀(w:List Nat) {r:Nat},r<bs.length→bU B w→gA (wk ks mv) (kd ks r) w=kd ks (run mv r w)
 | [],_,_,_=>rfl
 | a::w,r,hr,hw=>by
  have ha:=hw a List.mem_cons_self
  show gA (wk ks mv) (wk ks mv (kd ks r) a) w=kd ks (run mv (stp mv r a) w)
  rw[BW m hl iff hr ha]
  exact lT m hl iff w (m.stp hr ha) fun z hz=>hw z (List.mem_cons_of_mem _ hz)
theorem Dr (m:Moves bs.length B mv) (n0:0<bs.length) (hl:ks.length=bs.length) (iff:∀r s,r<bs.length→s<bs.length→(kd ks r=kd ks s↔Eqv B bs mv r s)) {xs:List Nat} {mv':List (List Nat)} (g:dP (kd ks 0) (wk ks mv) B xs mv') (hx:mv'.length=xs.length):
  Can B (xs.map (m7 ks bs)) mv'∧m4 B (lang (xs.map (m7 ks bs)) mv' 0) (lang bs mv 0)∧xs.length≤bs.length:=by
 have rooms:∀(i x:Nat),xs[i]? =some x→∃r,r<bs.length∧x=kd ks r:=fun i x e=>by
  obtain⟨w,hw,ew⟩:=g.reach x (List.mem_of_getElem? e)
  exact⟨run mv 0 w,m.run n0 hw,by rw[ew,lT m hl iff w n0 hw]⟩
 have says:∀(i r:Nat),r<bs.length→xs[i]? =some (kd ks r)→m4 B (lang (xs.map (m7 ks bs)) mv' i) (lang bs mv r):=fun i r hr e w hw=>by
  have h1:=g.run hx w i _ e hw
  rw[lT m hl iff w hr hw] at h1
  unfold lang
  rw[List.getD_eq_getElem?_getD,List.getElem?_map,h1]
  show m7 ks bs (kd ks (run mv r w))=_
  exact FW hl iff (m.run hr hw)
 have lb:(xs.map (m7 ks bs)).length=xs.length:=List.length_map ..
 refine⟨⟨?_,?_,fun i j hi hj e=>?_,?_,fun i hi=>?_⟩,says 0 0 n0 g.first,?_⟩
 ·rw[lb];exact(List.getElem?_eq_some_iff.mp g.first).1
 ·rw[lb];exact g.bf hx
 ·rw[lb] at hi hj
  have e1:xs[i]? =some xs[i]:=List.getElem?_eq_getElem hi
  have e2:xs[j]? =some xs[j]:=List.getElem?_eq_getElem hj
  obtain⟨r,hr,er⟩:=rooms i _ e1
  obtain⟨s,hs,es⟩:=rooms j _ e2
  rw[er] at e1
  rw[es] at e2
  have q:Eqv B bs mv r s:=fun w hw=>((says i r hr e1 w hw).symm.trans (e w hw)).trans (says j s hs e2 w hw)
  have:=(iff r s hr hs).mpr q
  exact(List.getElem_inj g.once).mp (by rw[er,es,this])
 ·rw[lb];exact g.go
 ·rw[lb] at hi
  have e1:xs[i]? =some xs[i]:=List.getElem?_eq_getElem hi
  obtain⟨w,hw,ew⟩:=g.reach xs[i] (List.getElem_mem ..)
  have h1:=g.run hx w 0 _ g.first hw
  rw[←ew] at h1
  obtain⟨a1,a2⟩:=List.getElem?_eq_some_iff.mp h1
  exact⟨w,hw,(List.getElem_inj g.once).mp a2⟩
 ·have:xs.length≤ks.length:=List.Nodup.length_le_of_subset g.once fun x hx'=>by
   obtain⟨i,hi⟩:=List.getElem?_of_mem hx'
   obtain⟨r,hr,er⟩:=rooms i x hi
   rw[er]
   exact List.mem_of_getElem? (item_at 0 (show r<ks.length by omega))
  omega
end
def lU:List (Pos×Str):=[(⟨88,13,88,68⟩,(("thinned":Str)++".<locals>.")++"<lambda>"),(⟨89,56,89,86⟩,(("thinned":Str)++".<locals>.")++"<lambda>")]
theorem apart2 {p q:Pos×Str} (h:p.1.line≠q.1.line):Apart [p,q]:=fun a ha b hb e _=>by
 rcases List.mem_cons.mp ha with z | z
 ·rcases List.mem_cons.mp hb with y | y
  ·rw[z,y]
  ·have y:=List.mem_singleton.mp y
   rw[z,y] at e;exact absurd e h
 ·have z:=List.mem_singleton.mp z
  rcases List.mem_cons.mp hb with y | y
  ·rw[z,y] at e;exact absurd e.symm h
  ·rw[z,List.mem_singleton.mp y]
def Ja (Tb:Addr):Sp:=fun vs H Q _=>∃(ma nm:Addr) (bs:List Bool) (mv:List (List Nat)) (B:Nat),vs=[.ref ma]∧cJ H ma nm bs mv∧Moves bs.length B mv∧0<bs.length∧bs.length≤1000∧B≤1000∧Tab H Tb lU∧
 ∀(p:Addr) (bs':List Bool) (mv':List (List Nat)) (H':Hp),KB Tb H H'→Tab H' Tb lU→cJ H' p nm bs' mv'→Can B bs' mv'→m4 B (lang bs' mv' 0) (lang bs mv 0)→bs'.length≤bs.length→Q (.ref p) H'
theorem fe:aW ["machine","yes","moves","kinds","stands","onward","grown"] ["machine"] (ak di):=⟨rfl,rfl,rfl,by decide+kernel,rfl,by decide+kernel,by decide+kernel⟩
set_option maxHeartbeats 16000000 in
theorem Ai {a:eY} (T:Txt K mg a) (hB:gI mg base):bD P w K mg base cE 4 a.jO a.lC ["machine"] (Ja a.bO):=by
 have Aj:=xS (P:=P) (w:=w) (base:=base) T
 refine T.Bt.ok fe (fun vs H Q E h=>?_) (fun Ar outer sh H vs Q E hr h=>?_)
 ·obtain⟨ma,nm,bs,mv,B,rfl,_⟩:=h
  rfl
 ·obtain⟨ma,nm,bs,mv,B,rfl,hma,bf,n0,n1,yU,tab,q⟩:=h
  have xT:aU 3 _:=hr
  have pA:aU 2 _:=hr.mono (by decide)
  refine⟨_,(ah (av (i:=1) fe.nd rfl (Or.inr rfl) (aH (aM K) (pv 0) ao (fun _ _=>rfl)))
  (ah (av (i:=2) fe.nd rfl (Or.inr rfl) (aH (aM K) (pv 0) ao (fun _ _=>rfl)))
  (ah (av (i:=3) fe.nd rfl (Or.inr rfl) (aE Aj xT rfl T.zY T.zZ T.z_ .nil aR (ae (pv 1) (ae (pv 2) ag))))
  (ah (av (i:=4) fe.nd rfl (Or.inr rfl) (bt (pY hr.hd) (by rfl) T.Bz yw (ae (cA (aD.mk' (esc:=ak di) (N:=["machine","yes","moves","kinds","stands","onward","grown"]) (own:=["room","kind"]) (aJ:=[]) (bx:=[]) rfl rfl (by decide+kernel)) rfl (yu rfl T.d_ (ae (pv 3) ag)) (fun _ _ _ _=>(ko K (n:=2) rfl (bu (ax (i:=0) (show List.Nodup (["room","kind"]:List Str) by decide+kernel) rfl (Or.inl rfl)) (bu (ax (i:=1) (show List.Nodup (["room","kind"]:List Str) by decide+kernel) rfl (Or.inl rfl)) fO)))) (fun _ _ _ _=>bG) (fun _ _ _ _=>(iD (ae (pv 1) (ae (pv 0) ag))))) ag)))
  (ah (av (i:=5) fe.nd rfl (Or.inl rfl) (nV (T:=a.bO) (L:=lU) rfl T.sN hB rfl rfl (List.mem_cons_self) (apart2 (by decide)) rfl))
  (ah (av (i:=6) fe.nd rfl (Or.inl rfl) (uY (fun _=>rfl) pA rfl T.mV T.mW T.mX (ae (aH (bq K) (pv 3) ao (fun _ _=>rfl)) (ae (aF (aK K) (by rfl) T.bM bo (ae (aH (aM K) (pv 2) ao (fun _ _=>rfl)) ag)) (ae (pv 5) (ae (nV (T:=a.bO) (L:=lU) rfl T.sN hB rfl rfl (List.mem_cons_of_mem _ List.mem_cons_self) (apart2 (by decide)) rfl) (ae (aF (aK K) (by rfl) T.bM bo (ae (pv 1) ag)) ag)))))))
  (au (aY (iD (ae (aH (aM K) (pv 0) ao (fun _ _=>rfl)) (ae (aH (aM K) (pv 6) ao (fun _ _=>rfl)) (ae (aH (aM K) (pv 6) ao (fun _ _=>rfl)) ag)))))))))))),?_⟩
  have big:(100000:Nat)≤sizeLine:=by decide
  obtain⟨ya,va,ps,e1,e2,e3,tp⟩:=hma
  refine⟨_,rfl,ma,_,_,.ref ya,rfl,rfl,.of e1,aA (j:=1) rfl,?_⟩
  dsimp only[aC]
  refine⟨_,rfl,ma,_,_,.ref va,rfl,rfl,.of e1,aA (j:=2) rfl,?_⟩
  dsimp only[aC]
  refine⟨_,rfl,_,rfl,ya,va,ps,bs,mv,B,rfl,e2,e3,tp,bf,n0,n1,yU,fun d ks H1 hd s1 l1 lk iff=>?_⟩
  dsimp only[aC]
  refine⟨_,rfl,d,rfl,⟨_,.of l1⟩,fun C hC=>?_⟩
  refine Bh (xs:=(ai ks).map V.int) (fun j σ H'=>∃(v0 v1:Option V) (ps2:List Addr),σ=[v0,v1]∧Same H1 H'∧H' C=some (.lst (ps2.map V.ref))∧ps2.length=j∧Paired (fun(p:Addr) (x:Key×V)=>H' p=some (.tup [kV x.1,x.2])) ps2 ((ks.zipIdx.take j).map lR))
   ⟨none,none,[],?sg,Same.new hC,af,rfl,.nil⟩ (fun j σ H' _ ⟨_,_,_,_,s',_⟩=>.of (s' _ _ l1)) ?_ ?_
  case sg=>rfl
  ·rintro j y p σ H2 hy ⟨v0,v1,ps2,rfl,s2,c2,lp,pr⟩ hp
   obtain⟨kk,rfl,ek⟩:=cV hy
   have hj:j<ks.length:=(List.getElem?_eq_some_iff.mp ek).1
   have ez:ks.zipIdx[j]? =some (kk,j):=by rw[List.getElem?_zipIdx,ek];simp
   have sp:=Same.new (o:=.tup [.int (j:Nat),.int (kk:Nat)]) hp
   refine⟨p,_,rfl,.of af,rfl,_,_,rfl,_,_,rfl,rfl,?_⟩
   refine⟨_,rfl,_,rfl,by show 2≤sizeLine;omega,fun t ht=>?_⟩
   have st:=Same.new (o:=.tup [.int (kk:Nat),.int (j:Nat)]) ht
   have c3:=st _ _ (sp _ _ c2)
   have RO:C≠t:=aj (sp _ _ c2) ht
   refine⟨_,c3,by rw[List.length_map];omega,_,_,ps2++[t],rfl,((s2.trans sp).trans st).kbn hC KB.write,by rw[af,List.map_append];rfl,by rw[List.length_append,lp];rfl,?_⟩
   rw[take_snoc ez,List.map_append]
   refine iB (Paired.ml pr fun b x z=>?_) ?_
   ·have:b≠C:=jF z c2 (fun z=>nomatch z)
    rw[aq this];exact st _ _ (sp _ _ z)
   ·rw[aq RO.symm,af];rfl
  rintro σ H2 ⟨v0,v1,ps2,rfl,s2,c2,lp,pr⟩
  rw[List.length_map,aw,←List.length_zipIdx (l:=ks) (i:=0),List.take_length] at pr
  refine⟨C,ps2,ks.zipIdx.map lR,rfl,c2,pr,by rw[List.length_map,List.length_zipIdx];omega,fun Ds RP=>?_⟩
  have sD:=Same.new (o:=.dK (eP ks)) RP
  have s3:=(s1.trans s2).trans sD
  have LN:(upd H2 Ds (.dK (eP ks))) Ds=some (.dK (eP ks)):=af
  have d3:=sD _ _ (s2 _ _ l1)
  change mx _ _ _ _ (upd H2 Ds (.dK (eP ks)))
  generalize upd H2 Ds (.dK (eP ks))=H3 at s3 LN d3 ⊢
  have Jb:=tab.same s3
  have RQ:=s3 _ _ e1
  have LO:=s3 _ _ e2
  have LP:=s3 _ _ e3
  have LQ:=tp.keep s3.kt
  refine⟨Jb,fun f1 c1 Nx H4 hf1 Jc Jd wm yV=>?_⟩
  have T3:∃qs,H3 a.bO=some (.cD qs):=let ⟨qs,z,_⟩:=Jb;⟨qs,z⟩
  have T4:∃qs,H4 a.bO=some (.cD qs):=let ⟨qs,z,_⟩:=wm;⟨qs,z⟩
  have nT:∀{H:Hp} {b:Addr} {o:HO},(∃qs,H a.bO=some (.cD qs))→H b=some o→(∀qs,o≠.cD qs)→b≠a.bO:=fun⟨qs,z⟩ e hn y=>by rw[y,z] at e;exact hn qs (Option.some.inj e).symm
  have EA:∀{b:Addr} {o:HO},H3 b=some o→(∀qs,o≠.cD qs)→H4 b=some o:=fun e hn=>yV _ _ e (nT T3 e hn)
  have Ny:cm H3 H4:=fun b xs z=>EA z (fun _ y=>nomatch y)
  dsimp only[aC]
  obtain⟨w1,w2,w3⟩:=bf.row (LQ.keep Ny) n0
  refine⟨_,rfl,d,_,_,.int (kd ks 0:Nat),rfl,rfl,.of (EA d3 (fun _ y=>nomatch y)),aA (j:=0) (cN (by omega)),?_⟩
  refine⟨_,rfl,va,_,_,.ref (ps.getD 0 0),rfl,rfl,.of (EA LP (fun _ y=>nomatch y)),aA (j:=0) (by rw[List.getElem?_map,w1];rfl),.ref (ps.getD 0 0),B,rfl,.inr ⟨_,.of w2,by rw[List.length_map,aw,w3]⟩,?_⟩
  refine⟨_,rfl,wm,fun f2 c2 Nz H5 hf2 BX BZ Du yW=>?_⟩
  have oJ:∀{b:Addr} {o:HO},H4 b=some o→(∀qs,o≠.cD qs)→H5 b=some o:=fun e hn=>yW _ _ e (nT T4 e hn)
  have wo:∀{b:Addr} {o:HO},H3 b=some o→(∀qs,o≠.cD qs)→H5 b=some o:=fun e hn=>oJ (EA e hn) hn
  have NA:cm H3 H5:=fun b xs z=>wo z (fun _ y=>nomatch y)
  refine⟨_,rfl,_,bs.length,rfl,.inr ⟨_,.of (wo LO (fun _ y=>nomatch y)),by rw[List.length_map]⟩,?_⟩
  have wq:=oJ Jc (fun _ y=>nomatch y)
  have wt:=oJ Jd (fun _ y=>nomatch y)
  have hD:∀b∈[f1,c1,f2,c2],∃φ,H5 b=some (.ext φ):=fun b hb=>by
   simp only[List.mem_cons,List.not_mem_nil,or_false] at hb
   rcases hb with z | z | z | z<;>subst z
   ·exact⟨_,wq⟩
   ·exact⟨_,wt⟩
   ·exact⟨_,BX⟩
   ·exact⟨_,BZ⟩
  refine⟨[f1,c1,f2,c2],hD,fun base' W=>?_⟩
  let Ev:Hp→Prop:=fun H=>H d=some (.lst ((ai ks).map V.int))∧H va=some (.tup (ps.map V.ref))∧fB H ps (mv.map ai)∧H Ds=some (.dK (eP ks))∧H ya=some (.tup (bs.map V.bl))
  let Ok:Nat→Prop:=fun x=>∃r,r<bs.length∧x=kd ks r
  have F1:FnAt P w K mg base' 1 f1 2 (Dp CS B (wk ks mv) Ok Ev):=by
   refine FnAt.lam W wq (by simp) wt (by simp) (ps:=["kind","letter"]) (aJ:=["kinds","moves","stands"]) (fvs:=[.ref d,.ref va,.ref Ds]) (fb.mk' rfl rfl rfl (by decide+kernel) (by decide+kernel) (by decide+kernel) (by decide+kernel) (by decide+kernel))
    (List.forall_mem_cons.mpr ⟨rfl,List.forall_mem_cons.mpr ⟨rfl,List.forall_mem_cons.mpr ⟨rfl,fun _ h=>nomatch h⟩⟩⟩) (.cons ⟨3,rfl,rfl,rfl,rfl⟩ (.cons ⟨2,rfl,rfl,rfl,rfl⟩ (.cons ⟨4,rfl,rfl,rfl,rfl⟩ .nil))) (fun us hl=>match us,hl with | [_,_],_=>rfl) (fun vs H Q E h=>?_) (fun A outer s H vs Q E hr h=>?_)
   ·obtain⟨x,v,c,rfl,_⟩:=h
    rfl
   ·obtain⟨x,v,c,rfl,rv,⟨r,hrn,rfl⟩,hc,⟨h1,h2,h3,h4,h5⟩,kk⟩:=h
    have rv':v=.int ((kd ks r:Nat):Int):=rv
    subst rv'
    obtain⟨g1,g2,g3⟩:=qk (ks:=ks) (r:=r) (by omega) rfl
    obtain⟨x1,x2,x3⟩:=bf.row h3 (show stK ks (kd ks r)<bs.length by omega)
    refine⟨_,aH (bq K) (pv 2) (aH (aM K) (aH (aM K) (pv 3) (ki (iX hr) (pv 4) (pv 0) (fun _ _=>rfl)) (fun _ _=>rfl)) (pv 1) (fun _ _=>rfl)) (fun _ _=>rfl),?_⟩
    have hst:=bf.stp (show stK ks (kd ks r)<bs.length by omega) hc
    refine⟨_,rfl,_,rfl,_,rfl,_,rfl,Ds,_,rfl,.inl ⟨eP ks,Sum.inl ((kd ks r:Nat):Int),.inl h4,rfl,g1.symm⟩,va,_,_,.ref (ps.getD (stK ks (kd ks r)) 0),rfl,rfl,.of h2,aA (by rw[List.getElem?_map,x1];rfl),_,rfl,_,_,_,.int (stp mv (stK ks (kd ks r)) c:Nat),rfl,rfl,.of x2,aA (cN (by rw[x3];exact hc)),d,_,_,.int (kd ks (stp mv (stK ks (kd ks r)) c):Nat),rfl,rfl,.of h1,aA (cN (by omega)),?_⟩
    exact kk _ H (Same.refl H) rfl
  have F2:FnAt P w K mg base' 1 f2 1 (Dq CS (m7 ks bs) Ok Ev):=by
   refine FnAt.lam W BX (by simp) BZ (by simp) (ps:=["kind"]) (aJ:=["stands","yes"]) (fvs:=[.ref Ds,.ref ya]) (fb.mk' rfl rfl rfl (by decide+kernel) (by decide+kernel) (by decide+kernel) (by decide+kernel) (by decide+kernel))
    (List.forall_mem_cons.mpr ⟨rfl,List.forall_mem_cons.mpr ⟨rfl,fun _ h=>nomatch h⟩⟩) (.cons ⟨4,rfl,rfl,rfl,rfl⟩ (.cons ⟨1,rfl,rfl,rfl,rfl⟩ .nil)) (fun us hl=>match us,hl with | [_],_=>rfl) (fun vs H Q E h=>?_) (fun A outer s H vs Q E hr h=>?_)
   ·obtain⟨x,v,rfl,_⟩:=h
    rfl
   ·obtain⟨x,v,rfl,rv,⟨r,hrn,rfl⟩,⟨h1,h2,h3,h4,h5⟩,kk⟩:=h
    have rv':v=.int ((kd ks r:Nat):Int):=rv
    subst rv'
    obtain⟨g1,g2,g3⟩:=qk (ks:=ks) (r:=r) (by omega) rfl
    refine⟨_,aH (aM K) (pv 2) (ki (iX hr) (pv 1) (pv 0) (fun _ _=>rfl)) (fun _ _=>rfl),?_⟩
    refine⟨_,rfl,_,rfl,_,rfl,Ds,_,rfl,.inl ⟨eP ks,Sum.inl ((kd ks r:Nat):Int),.inl h4,rfl,g1.symm⟩,ya,_,_,.bl (m7 ks bs (kd ks r)),rfl,rfl,.of h5,aA (by rw[List.getElem?_map,item_at false (show stK ks (kd ks r)<bs.length by omega)];rfl),?_⟩
    exact kk H (Same.refl H)
  have yS:∀x c,Ok x→c<B→Ok (wk ks mv x c):=fun x c ⟨r,hr,e⟩ hc=>⟨stp mv r c,bf.stp hr hc,by rw[e,BW bf lk iff hr hc]⟩
  have yT:∀H H',Ev H→Same H H'→Ev H':=fun H H' ⟨h1,h2,h3,h4,h5⟩ s=>⟨s _ _ h1,s _ _ h2,h3.keep s.kt,s _ _ h4,s _ _ h5⟩
  refine⟨_,mj (k:=1) T CS F1 F2 yS yT,?_⟩
  have u5:∀{b:Addr} {o:HO},H5 b=some o→(∀φ,o≠.ext φ)→dU [f1,c1,f2,c2] H5 b=some o:=fun e hn=>u4 hD e hn
  have ktu:cm H5 (dU [f1,c1,f2,c2] H5):=fun b xs z=>u5 z (fun _ y=>nomatch y)
  refine⟨kd ks 0,.int (kd ks 0:Nat),bs.length,bs.length,rfl,rfl,⟨0,n0,rfl⟩,⟨u5 (wo d3 (fun _ y=>nomatch y)) (fun _ y=>nomatch y),u5 (wo LP (fun _ y=>nomatch y)) (fun _ y=>nomatch y),(LQ.keep NA).keep ktu,u5 (wo LN (fun _ y=>nomatch y)) (fun _ y=>nomatch y),u5 (wo LO (fun _ y=>nomatch y)) (fun _ y=>nomatch y)⟩,fun l nd hr=>?_,Nat.le_refl _,by omega,yU,fun xs mv' p Rr tm tu ps' H6 s6 hl g ep Je Jf Jg n6=>?_⟩
  ·have:l.length≤ks.length:=List.Nodup.length_le_of_subset nd fun x hx=>by
    obtain⟨w,hw,ew⟩:=hr x hx
    rw[ew,lT bf lk iff w n0 hw]
    exact List.mem_of_getElem? (item_at 0 (show run mv 0 w<ks.length by have:=bf.run n0 hw;omega))
   omega
  have tD:=sf s6
  have o6:∀{b:Addr} {o:HO},H6 b=some o→gv [f1,c1,f2,c2] H5 H6 b=some o:=fun {b o} e=>by
   rw[dX fun z=>?_]
   ·exact e
   ·rw[n6 b z] at e;cases e
  have BU:cm H6 (gv [f1,c1,f2,c2] H5 H6):=fun b xs z=>o6 z
  have wu:=o6 ep
  have wx:=o6 Je
  have wy:=o6 Jf
  have oK:=Jg.keep BU
  have wz:=Du.same tD
  have yX:=tD _ _ (wo RQ (fun _ y=>nomatch y))
  have ql:KB a.bO H (gv [f1,c1,f2,c2] H5 H6):=fun b o e n=>tD _ _ (yW _ _ (yV _ _ (s3 _ _ e) n) n)
  generalize gv [f1,c1,f2,c2] H5 H6=H7 at wu wx wy oK wz yX ql ⊢
  dsimp only[aC]
  refine⟨_,rfl,ma,_,_,.ref nm,rfl,rfl,.of yX,aA (j:=0) rfl,_,rfl,p,_,_,.ref tm,rfl,rfl,.of wu,aA (j:=1) rfl,_,rfl,p,_,_,.ref tu,rfl,rfl,.of wu,aA (j:=2) rfl,by show 3≤sizeLine;omega,fun m2 hm2=>?_⟩
  have sm:=Same.new (o:=.tup [.ref nm,.ref tm,.ref tu]) hm2
  obtain⟨cn,le,ln⟩:=Dr bf n0 lk iff g hl
  exact q m2 _ mv' _ (fun b o e n=>sm _ _ (ql _ _ e n)) (wz.same sm) ⟨tm,tu,ps',af,sm _ _ wx,sm _ _ wy,oK.keep sm.kt⟩ cn le (by rw[List.length_map];exact ln)
def subs (bs:List Bool) (mv:List (List Nat)) (w:List Nat):List Nat:=(List.range bs.length).filter fun r=>lang bs mv r w.reverse
theorem jC {bs:List Bool} {mv:List (List Nat)} {w:List Nat} {r:Nat}:r∈subs bs mv w↔r<bs.length∧lang bs mv r w.reverse=true:=by unfold subs;rw[List.mem_filter,List.mem_range]
def preS (mv:List (List Nat)) (n:Nat) (S:List Nat) (a:Nat):List Nat:=(List.range n).filter fun r=>decide (stp mv r a∈S)
theorem m9 {B:Nat} {bs:List Bool} {mv:List (List Nat)} (m:Moves bs.length B mv) {a:Nat} (ha:a<B) (w:List Nat):preS mv bs.length (subs bs mv w) a=subs bs mv (w++[a]):=by
 unfold preS
 rw[show subs bs mv (w++[a])=(List.range bs.length).filter fun r=>lang bs mv r (w++[a]).reverse from rfl]
 refine List.filter_congr fun r hr=>?_
 have hr':=List.mem_range.mp hr
 rw[List.reverse_append]
 show decide (stp mv r a∈subs bs mv w)=lang bs mv (stp mv r a) w.reverse
 rw[Bool.eq_iff_iff,decide_eq_true_iff,jC]
 exact⟨fun z=>z.2,fun z=>⟨m.stp hr' ha,z⟩⟩
theorem ng {B:Nat} {bs:List Bool} {mv:List (List Nat)} (m:Moves bs.length B mv):∀(w v:List Nat),bU B w→gA (preS mv bs.length) (subs bs mv v) w=subs bs mv (v++w)
 | [],v,_=>by rw[List.append_nil];rfl
 | a::w,v,hw=>by
  show gA (preS mv bs.length) (preS mv bs.length (subs bs mv v) a) w=_
  rw[m9 m (hw a List.mem_cons_self),ng m w (v++[a]) fun x hx=>hw x (List.mem_cons_of_mem _ hx),List.append_assoc];rfl
theorem Dv (bs:List Bool) (mv:List (List Nat)):subs bs mv []=dE true bs:=by
 unfold subs dE
 refine List.filter_congr fun r _=>?_
 show bs.getD r false=(bs.getD r false == true)
 cases bs.getD r false<;>rfl
def pB (S:List Nat):Bool:=decide (0∈S)
theorem B_ {B:Nat} {bs:List Bool} {mv:List (List Nat)} (m:Moves bs.length B mv) (n0:0<bs.length) {xs:List (List Nat)} {mv':List (List Nat)} (g:dP (subs bs mv []) (preS mv bs.length) B xs mv') (hx:mv'.length=xs.length):
  m4 B (lang (xs.map pB) mv' 0) fun w=>lang bs mv 0 w.reverse:=fun w hw=>by
 have h1:=g.run hx w 0 _ g.first hw
 rw[ng m w [] hw,List.nil_append] at h1
 unfold lang
 rw[List.getD_eq_getElem?_getD,List.getElem?_map,h1]
 show decide (0∈subs bs mv w)=lang bs mv 0 w.reverse
 rw[Bool.eq_iff_iff,decide_eq_true_iff,jC]
 exact⟨fun z=>z.2,fun z=>⟨n0,z⟩⟩
def TurnOk (B:Nat) (L:List Nat→Bool) (bd:Nat):Prop:=∀(bs:List Bool) (mv:List (List Nat)),Can B bs mv→m4 B (lang bs mv 0) L→(∀w,bU B w→(subs bs mv w).length<64)∧∀l:List (List Nat),l.Nodup→(∀x∈l,∃w,bU B w∧x=subs bs mv w)→l.length≤bd
def allB:Nat→List (List Bool)
 | 0=>[[]]
 | k+1=>(allB k).map (true:: ·)++(allB k).map (false:: ·)
theorem wA:∀k,(allB k).length=2 ^ k
 | 0=>rfl
 | k+1=>by rw[allB,List.length_append,List.length_map,List.length_map,wA k,Nat.pow_succ];omega
theorem pC:∀(l:List Bool),l∈allB l.length
 | []=>List.mem_singleton.mpr rfl
 | b::l=>by
  rw[List.length_cons,allB,List.mem_append]
  cases b with
  | true=>exact .inl (List.mem_map.mpr ⟨l,pC l,rfl⟩)
  | false=>exact .inr (List.mem_map.mpr ⟨l,pC l,rfl⟩)
theorem nodup_map_on {α β:Type} {f:α→β}:∀{l:List α},l.Nodup→(∀a∈l,∀b∈l,f a=f b→a=b)→(l.map f).Nodup
 | [],_,_=>by simp
 | a::l,nd,h=>by
  rw[List.map_cons,List.nodup_cons]
  refine⟨fun z=>?_,nodup_map_on (List.nodup_cons.mp nd).2 fun x hx y hy e=>h x (List.mem_cons_of_mem _ hx) y (List.mem_cons_of_mem _ hy) e⟩
  obtain⟨b,hb,e⟩:=List.mem_map.mp z
  have:=h b (List.mem_cons_of_mem _ hb) a List.mem_cons_self e
  exact(List.nodup_cons.mp nd).1 (this▸hb)
theorem wB (bs:List Bool) (mv:List (List Nat)) (r:Nat) (v w:List Nat):lang bs mv r (v++w)=lang bs mv (run mv r v) w:=by unfold lang;rw[kI]
section
variable {B:Nat} {bs bs':List Bool} {mv mv':List (List Nat)}
theorem Can.words (c:Can B bs' mv'):∃u:Nat→List Nat,∀r,r<bs'.length→bU B (u r)∧run mv' 0 (u r)=r:=by
 refine⟨fun r=>if h:r<bs'.length then Classical.choose (c.reach r h) else [],fun r hr=>?_⟩
 dsimp only
 rw[dif_pos hr]
 exact Classical.choose_spec (c.reach r hr)
theorem FX (m:Moves bs.length B mv) (n0:0<bs.length) (c:Can B bs' mv') (h:m4 B (lang bs' mv' 0) (lang bs mv 0)):bs'.length≤bs.length:=by
 obtain⟨u,hu⟩:=c.words
 have nd:((List.range bs'.length).map fun r=>run mv 0 (u r)).Nodup:=by
  refine nodup_map_on List.nodup_range fun a ha b hb e=>?_
  have ha:=List.mem_range.mp ha
  have hb:=List.mem_range.mp hb
  refine c.inj a b ha hb fun w hw=>?_
  have e1:∀r,r<bs'.length→lang bs' mv' r w=lang bs mv (run mv 0 (u r)) w:=fun r hr=>by
   rw[←wB,←h _ ((hu r hr).1.app hw),wB,(hu r hr).2]
  rw[e1 a ha,e1 b hb,e]
 have:=List.Nodup.length_le_of_subset (l₂:=List.range bs.length) nd fun x hx=>by
  obtain⟨r,hr,rfl⟩:=List.mem_map.mp hx
  exact List.mem_range.mpr (m.run n0 (hu r (List.mem_range.mp hr)).1)
 rw[List.length_map,List.length_range,List.length_range] at this
 exact this
theorem KO (m:Moves bs.length B mv) (n0:0<bs.length) (n6:bs.length≤6):TurnOk B (lang bs mv 0) 64:=fun bs' mv' c h=>by
 have few:=FX m n0 c h
 have sl:∀w,(subs bs' mv' w).length≤bs'.length:=fun w=>by
  have:=List.length_filter_le (fun r=>lang bs' mv' r w.reverse) (List.range bs'.length)
  rw[List.length_range] at this;exact this
 refine⟨fun w _=>by have:=sl w;omega,fun l nd hl=>?_⟩
 have pX:(l.map fun x=>(List.range 6).map fun r=>decide (r∈x)).Nodup:=by
  refine nodup_map_on nd fun a ha b hb e=>?_
  obtain⟨v,_,ea⟩:=hl a ha
  obtain⟨w,_,eb⟩:=hl b hb
  have bit:∀r,r<6→(r∈a↔r∈b):=fun r hr=>by
   have:=congrArg (fun l=>l[r]?) e
   simp only[List.getElem?_map,List.getElem?_range hr] at this
   have this:decide (r∈a)=decide (r∈b):=Option.some.inj this
   rw[←decide_eq_true_iff (p:=r∈a),←decide_eq_true_iff (p:=r∈b),this]
  rw[ea,eb]
  unfold subs
  refine List.filter_congr fun r hr=>?_
  have hr:=List.mem_range.mp hr
  have:=bit r (by omega)
  rw[ea,eb,jC,jC] at this
  rw[Bool.eq_iff_iff]
  exact⟨fun z=>(this.mp ⟨hr,z⟩).2,fun z=>(this.mpr ⟨hr,z⟩).2⟩
 have:=List.Nodup.length_le_of_subset (l₂:=allB 6) pX fun x hx=>by
  obtain⟨y,_,rfl⟩:=List.mem_map.mp hx
  have:=pC ((List.range 6).map fun r=>decide (r∈y))
  rw[List.length_map,List.length_range] at this
  exact this
 rw[List.length_map,wA] at this
 exact this
end
theorem jU (l:List Nat):(ai l).map V.int=l.map fun(z:Nat)=>V.int (z:Int):=by unfold ai;rw[List.map_map];rfl
def Jh:Sp:=fun vs H Q _=>∃(ma nm:Addr) (bs:List Bool) (mv:List (List Nat)),vs=[.ref ma]∧cJ H ma nm bs mv∧bs.length≤1000∧∀(p:Addr) (H':Hp),Same H H'→H' p=some (.tup ((ai (dE true bs)).map V.int))→Q (.ref p) H'
def wC (K:PySem.W.Frag):Sp:=fun vs H Q _=>∃(t rp:Addr) (as:List Addr) (mv:List (List Nat)) (n x:Nat) (S:List Nat),vs=[.ref t,.ref rp]∧H t=some (.lst (as.map V.ref))∧bh H as (fU mv n x n)∧H rp=some (.tup ((ai S).map V.int))∧S.Nodup∧(∀r∈S,r<n)∧n≤1000∧(preS mv n S x).length<64∧
 ∀(p:Addr) (H':Hp),Same H H'→H' p=some (.tup ((ai (preS mv n S x)).map V.int))→Q (.ref p) H'
theorem wD:aW ["machine"] ["machine"] (ak dY):=⟨rfl,rfl,rfl,by decide+kernel,rfl,by decide+kernel,by decide+kernel⟩
theorem wF {a:eY} (T:Txt K mg a):bD P w K mg base cE 1 a.ix a.jt ["machine"] Jh:=by
 refine T.xy.ok wD (fun vs H Q E h=>?_) (fun cdv Ar outer sh H vs Q E hr h=>?_)
 ·obtain⟨ma,nm,bs,mv,rfl,_⟩:=h
  rfl
 ·obtain⟨ma,nm,bs,mv,rfl,hma,hn,q⟩:=h
  refine⟨_,(au (aY (bt (cv K) (by rfl) T.dD cX (ae (cA (aD.mk' (esc:=ak dY) (N:=["machine"]) (own:=["room","yes"]) (aJ:=[]) (bx:=[]) rfl rfl (by decide+kernel)) rfl (jo rfl T.d_ (ae (aH (aM K) (pv 0) ao (fun _ _=>rfl)) ag)) (fun _ _ _ _=>(ko K (n:=2) rfl (bu (ax (i:=0) (show List.Nodup (["room","yes"]:List Str) by decide+kernel) rfl (Or.inl rfl)) (bu (ax (i:=1) (show List.Nodup (["room","yes"]:List Str) by decide+kernel) rfl (Or.inl rfl)) fO)))) (fun _ _ _ _=>(jk (jM K (pv 1) (fun _=>rfl)))) (fun _ _ _ _=>(pv 0))) ag)))),?_⟩
  have big:(100000:Nat)≤sizeLine:=by decide
  obtain⟨ya,va,ps,e1,e2,e3,tp⟩:=hma
  refine⟨_,rfl,ma,_,_,.ref ya,rfl,rfl,.of e1,aA (j:=1) rfl,ya,rfl,⟨_,.of e2⟩,fun L hL=>?_⟩
  refine lh (xs:=bs.map V.bl) (fun j σ H'=>∃(v0 v1:Option V),σ=[v0,v1]∧Same H H'∧H' L=some (.lst ((ai (ja true bs j)).map V.int)))
   ⟨none,none,?sg,Same.new hL,af⟩ (fun j σ H' _ ⟨_,_,_,s',_⟩=>.of (s' _ _ e2)) ?_ ?_
  case sg=>rfl
  ·rintro j y p σ H2 hy ⟨v0,v1,rfl,s2,l2⟩ hp
   obtain⟨b,rfl,eb⟩:=lL hy
   have hj:j<bs.length:=(List.getElem?_eq_some_iff.mp eb).1
   have sp:=Same.new (o:=.tup [.int (j:Nat),.bl b]) hp
   have lr:=qh true bs j
   refine⟨p,_,rfl,.of af,rfl,_,_,rfl,_,_,rfl,rfl,_,rfl,b,rfl,?_⟩
   refine fW (fun z=>?_) (fun z=>?_)
   ·refine⟨_,rfl,_,sp _ _ l2,by rw[List.length_map,aw];omega,_,_,rfl,(s2.trans sp).kbn hL KB.write,?_⟩
    rw[af,gW eb,if_pos z,aS,List.map_append];rfl
   ·refine⟨_,_,rfl,s2.trans sp,?_⟩
    rw[gW eb,if_neg z,List.append_nil];exact sp _ _ l2
  rintro σ H2 ⟨v0,v1,rfl,s2,l2⟩
  rw[List.length_map] at l2
  refine⟨L,_,rfl,.inl ⟨.of l2,fun p hp=>?_⟩⟩
  exact q p _ (s2.trans (Same.new hp)) af
theorem iR:aW ["before","rooms","found","room"] ["before","rooms"] (ak eO):=⟨rfl,rfl,rfl,by decide+kernel,rfl,by decide+kernel,by decide+kernel⟩
theorem xU {ns:List Int} {l k:List Nat} (hp:ns.Perm (ai l)) (hs:ns.Pairwise (· ≤ ·)) (hk:k.Pairwise (· < ·)) (hl:l.Nodup) (hm:∀r,r∈l↔r∈k):ns=ai k:=by
 have nk:k.Nodup:=hk.imp fun h=>Nat.ne_of_lt h
 have pk:l.Perm k:=(List.perm_ext_iff_of_nodup hl nk).mpr hm
 refine List.Perm.eq_of_pairwise (le:=(· ≤ ·)) (fun a b _ _ h1 h2=>Int.le_antisymm h1 h2) hs ?_ (hp.trans (pk.map _))
 unfold ai
 rw[List.pairwise_map]
 exact hk.imp fun h=>by omega
theorem t4 {a:eY} (T:Txt K mg a):bD P w K mg base cE 1 a.fI a.gn ["before","rooms"] (wC K):=by
 refine T.vR.ok iR (fun vs H Q E h=>?_) (fun cdv Ar outer sh H vs Q E hr h=>?_)
 ·obtain⟨t,rp,as,mv,n,x,S,rfl,_⟩:=h
  rfl
 ·obtain⟨t,rp,as,mv,n,x,S,rfl,et,ls,er,nS,rS,hn,h64,q⟩:=h
  refine⟨_,(ah (av (i:=2) iR.nd rfl (Or.inl rfl) (cq ag))
  (ah (bF PassesOwn.never rfl (fZ (pv 1)) (ax (i:=3) iR.nd rfl (Or.inl rfl))
   (au (bR (cL PySem.F.plainAttrs_list PySem.F.slot_list_extend PySem.F.type_list_extend jJ (pv 2) (ae (aH (bq K) (pv 0) (pv 3) (fun _ _=>rfl)) ag)))))
  (au (aY (bt (cv K) (by rfl) T.dD cX (ae (aF (xn K) (by rfl) T.pq mM (ae (pv 2) ag)) ag)))))),?_⟩
  have big:(100000:Nat)≤sizeLine:=by decide
  have fl:=fun i=>jA (mv:=mv) (n:=n) (x:=x) nS (S.take i) (List.take_sublist i S)
  have Dn:∀i,(((S.take i).map fun t=>(List.range n).filter fun r=>stp mv r x == t).flatten).length≤n:=fun i=>by
   have:=List.Nodup.length_le_of_subset (l₂:=List.range n) (fl i).1 fun r hr=>List.mem_range.mpr (((fl i).2 r).mp hr).1
   rw[List.length_range] at this;exact this
  refine⟨by show 0≤sizeLine;omega,fun L hL=>?_⟩
  have sL:=Same.new (o:=.lst []) hL
  dsimp only[aC]
  refine⟨_,rfl,rp,rfl,⟨_,.of (sL _ _ er)⟩,qx (xs:=(ai S).map V.int) (fun i σ H'=>∃(v3:Option V),σ=[some (.ref t),some (.ref rp),some (.ref L),v3]∧Same H H'∧H' L=some (.lst ((ai (((S.take i).map fun t=>(List.range n).filter fun r=>stp mv r x == t).flatten)).map V.int)))
   ⟨none,rfl,sL,af⟩ (fun i σ H' _ ⟨_,_,s',_⟩=>.of (s' _ _ er)) ?_ ?_⟩
  ·rintro i y σ Ha hy ⟨v3,rfl,sa,sm⟩
   obtain⟨r,rfl,LS⟩:=cV hy
   have hrn:r<n:=rS r (List.mem_of_getElem? LS)
   obtain⟨b,hb,eb⟩:=ls.back (jz hrn)
   have l1:=Dn i
   have l2:((List.range n).filter fun z=>stp mv z x == r).length≤n:=by
    have:=List.length_filter_le (fun z=>stp mv z x == r) (List.range n)
    rw[List.length_range] at this;exact this
   refine⟨_,rfl,Or.inl ⟨rfl,_,.of sm⟩,_,rfl,_,rfl,t,_,_,.ref b,rfl,rfl,.of (sa _ _ et),aA (by rw[List.getElem?_map,hb];rfl),L,b,_,_,rfl,rfl,sm,sa _ _ eb,by rw[List.length_map,List.length_map,aw,aw];omega,?_⟩
   refine⟨_,rfl,sa.kbn hL KB.write,?_⟩
   rw[af,take_snoc LS,List.map_append,List.flatten_append,aS,List.map_append]
   simp
  ·rintro σ Ha ⟨v3,rfl,sa,sm⟩
   rw[List.length_map,aw,List.take_length] at sm
   have m5:=fl S.length
   rw[List.take_length] at m5
   generalize (S.map fun t=>(List.range n).filter fun r=>stp mv r x == t).flatten=F at sm m5
   have hm:∀r,r∈F↔r∈preS mv n S x:=fun r=>by
    rw[m5.2 r];unfold preS;rw[List.mem_filter,List.mem_range,decide_eq_true_iff]
   have hk:(preS mv n S x).Pairwise (· < ·):=List.pairwise_lt_range.filter _
   have lF:F.length=(preS mv n S x).length:=((List.perm_ext_iff_of_nodup m5.1 (hk.imp fun h=>Nat.ne_of_lt h)).mpr hm).length_eq
   refine⟨_,rfl,L,ai F,rfl,.of sm,by rw[aw];omega,fun p ns hp pm ps=>?_⟩
   have e:=xU pm ps hk m5.1 hm
   subst e
   refine⟨p,_,rfl,.inl ⟨.of af,fun p2 hp2=>?_⟩⟩
   exact q p2 _ ((sa.trans (Same.new hp)).trans (Same.new hp2)) af
def qm:List (Pos×Str):=[(⟨104,13,104,66⟩,(("turned_about":Str)++".<locals>.")++"<lambda>"),(⟨105,55,105,79⟩,(("turned_about":Str)++".<locals>.")++"<lambda>")]
theorem _root_.L2.Tab.other {H H':Hp} {T d:Addr} {L:List (Pos×Str)} (x:Tab H T L) (s:KB d H H') (hT:T≠d) (hd:∃ps,H d=some (.cD ps)):Tab H' T L:=by
 obtain⟨ps,h1,h2,h3⟩:=x
 refine⟨ps,s _ _ h1 hT,h2,fun p hp=>?_⟩
 rcases h3 p hp with z | ⟨c,z,q⟩
 ·exact .inl z
 ·refine .inr ⟨c,z,s _ _ q fun e=>?_⟩
  obtain⟨qs,y⟩:=hd
  rw[e,y] at q;cases q
def Ji (T1 T2:Addr):Sp:=fun vs H Q _=>∃(ma nm:Addr) (bs:List Bool) (mv:List (List Nat)) (B bd:Nat),vs=[.ref ma]∧cJ H ma nm bs mv∧Moves bs.length B mv∧0<bs.length∧bs.length≤1000∧B≤1000∧Tab H T1 lU∧Tab H T2 qm∧TurnOk B (lang bs mv 0) bd∧bd≤1000∧
 ∀(p:Addr) (bs':List Bool) (mv':List (List Nat)) (H':Hp),mO T1 T2 H H'→Tab H' T1 lU→Tab H' T2 qm→cJ H' p nm bs' mv'→Can B bs' mv'→m4 B (lang bs' mv' 0) (fun w=>lang bs mv 0 w.reverse)→bs'.length≤bd→Q (.ref p) H'
theorem cW:aW ["machine","least","many","into","onward","grown"] ["machine"] (ak bN):=⟨rfl,rfl,rfl,by decide+kernel,rfl,by decide+kernel,by decide+kernel⟩
theorem Dw:∀(l:List Nat),inV (.int 0) ((ai l).map V.int)=pB l:=by
 intro l
 induction l with
 | nil=>rfl
 | cons z l ih=>
  show(jI (.int (z:Int)) (.int 0)||inV (.int 0) ((ai l).map V.int))=pB (z::l)
  rw[ih]
  unfold pB
  rw[Bool.eq_iff_iff,Bool.or_eq_true,decide_eq_true_iff,decide_eq_true_iff,List.mem_cons]
  refine or_congr ?_ Iff.rfl
  show decide ((z:Int)=0)=true↔0=z
  rw[decide_eq_true_iff]
  omega
set_option maxHeartbeats 16000000 in
theorem qo {a:eY} (T:Txt K mg a) (hB:gI mg base):bD P w K mg base cE 5 a.fS a.gT ["machine"] (Ji a.bO a.aZ):=by
 have tE:=Ai (P:=P) (w:=w) (base:=base) T hB
 have jB:=mf (P:=P) (w:=w) (base:=base) T
 have xV:=wF (P:=P) (w:=w) (base:=base) T
 obtain⟨gt,RS⟩:=T.vX
 refine T.qS.ok cW (fun vs H Q E h=>?_) (fun Ar outer sh H vs Q E hr h=>?_)
 ·obtain⟨ma,nm,bs,mv,B,bd,rfl,_⟩:=h
  rfl
 ·obtain⟨ma,nm,bs,mv,B,bd,rfl,hma,bf,n0,n1,yU,Jj,NB,tok,hbd,q⟩:=h
  have qp:aU 4 _:=hr
  have iP:aU 1 _:=hr.mono (by decide)
  have wG:aU 1 _:=hr.mono (by decide)
  have pA:aU 3 _:=hr.mono (by decide)
  refine⟨_,(ah (av (i:=1) cW.nd rfl (Or.inr rfl) (aE tE qp rfl T.sO T.sQ T.sU .nil aR (ae (pv 0) ag)))
  (ah (av (i:=2) cW.nd rfl (Or.inl rfl) (aF (aK K) (by rfl) T.bM bo (ae (aH (aM K) (aH (aM K) (pv 1) ao (fun _ _=>rfl)) ao (fun _ _=>rfl)) ag)))
  (ah (av (i:=3) cW.nd rfl (Or.inr rfl) (cA (aD.mk' (esc:=ak bN) (N:=["machine","least","many","into","onward","grown"]) (own:=["letter"]) (aJ:=["least"]) (bx:=[1]) rfl rfl (by decide+kernel)) rfl (bE rfl T.bW (ae (pv 2) ag)) (fun _ _ _ _=>(ax (i:=0) (show List.Nodup (["letter","least"]:List Str) by decide+kernel) rfl (Or.inl rfl))) (fun _ _ _ _=>bG) (fun _ _ _ _=>(aE jB iP rfl T.mY T.mZ T.m_ .nil aR (ae (aH (aM K) (pv 1) ao (fun _ _=>rfl)) (ae (pv 0) ag))))))
  (ah (av (i:=4) cW.nd rfl (Or.inl rfl) (nV (T:=a.aZ) (L:=qm) rfl T.kH hB rfl rfl (List.mem_cons_self) (apart2 (by decide)) rfl))
  (ah (av (i:=5) cW.nd rfl (Or.inl rfl) (uY (fun _=>rfl) pA rfl T.mV T.mW T.mX (ae (aE xV wG rfl T.xA T.xB T.xC .nil aR (ae (pv 1) ag)) (ae (pv 2) (ae (pv 4) (ae (nV (T:=a.aZ) (L:=qm) rfl T.kH hB rfl rfl (List.mem_cons_of_mem _ List.mem_cons_self) (apart2 (by decide)) rfl) (ae (E9 (v:=.int 1000000) rfl RS ⟨gt,rfl⟩) ag)))))))
  (au (aY (aE tE qp rfl T.sO T.sQ T.sU .nil aR (ae (iD (ae (aH (aM K) (pv 1) ao (fun _ _=>rfl)) (ae (aH (aM K) (pv 5) ao (fun _ _=>rfl)) (ae (aH (aM K) (pv 5) ao (fun _ _=>rfl)) ag)))) ag))))))))),?_⟩
  have big:(100000:Nat)≤sizeLine:=by decide
  have RT:∃ps,H a.bO=some (.cD ps):=let ⟨qs,z,_⟩:=Jj;⟨qs,z⟩
  refine⟨_,rfl,ma,nm,bs,mv,B,rfl,hma,bf,n0,n1,yU,Jj,fun lm dB dQ H1 kb1 EB yY cn le1 oM=>?_⟩
  have tb2:=NB.other kb1 T.tne.symm RT
  obtain⟨sm,Jk⟩:=tok dB dQ cn le1
  have m1:=cn.bf
  have p1:=cn.pos
  obtain⟨ya,va,ps,e1,e2,e3,tp⟩:=id yY
  dsimp only[aC]
  obtain⟨w1,w2,w3⟩:=m1.row tp p1
  refine⟨_,rfl,lm,_,_,.ref va,rfl,rfl,.of e1,aA (j:=2) rfl,va,_,_,.ref (ps.getD 0 0),rfl,rfl,.of e3,aA (j:=0) (by rw[List.getElem?_map,w1];rfl),.ref (ps.getD 0 0),B,rfl,.inr ⟨_,.of w2,by rw[List.length_map,aw,w3]⟩,?_⟩
  dsimp only[aC]
  refine⟨_,rfl,_,rfl,by omega,by omega,fun I hI=>?_⟩
  refine dM (n:=(B:Int).toNat) (fun j σ H'=>∃(v:Option V) (ts:List Addr),σ=[v,some (.ref lm)]∧Same H1 H'∧H' I=some (.lst (ts.map V.ref))∧ts.length=j∧cK (fun b=>b≠I) H' dQ dB.length ts)
   ⟨none,[],?BM,Same.new hI,af,rfl,fun a t z=>(by simp at z)⟩ ?_ ?_
  case BM=>rfl
  ·rintro j σ H5 hj ⟨v,ts,rfl,s5,i5,BN,wg⟩
   have ej:(0:Int)+(j:Int)=((j:Nat):Int):=by omega
   rw[ej]
   have lQ:∀b,H5 b=none→b≠I:=fun b hb=>(aj i5 hb).symm
   refine⟨_,rfl,lm,_,_,.ref va,rfl,rfl,.of (s5 _ _ e1),aA (j:=2) rfl,_,rfl,va,ps,dQ,dB.length,B,j,rfl,s5 _ _ e3,tp.keep s5.kt,m1,by omega,by omega,fun t as H6 ht has Ro ta s6 t6 IL=>?_⟩
   have i6:=s6 _ _ i5
   refine⟨_,i6,by rw[List.length_map];omega,_,ts++[t],rfl,(s5.trans s6).kbn hI KB.write,by rw[af,List.map_append];rfl,by rw[List.length_append,BN];rfl,fun a u hu=>?_⟩
   by_cases ha:a<ts.length
   ·rw[List.getElem?_append_left ha] at hu
    exact cK.keep wg (fun b o nb z=>⟨nb,by rw[aq nb];exact s6 _ _ z⟩) a u hu
   ·rw[List.getElem?_append_right (by omega)] at hu
    have ea:a-ts.length=0:=by
     cases h3:a-ts.length with
     | zero=>rfl
     | succ q=>rw[h3] at hu;simp at hu
    rw[ea] at hu
    have eu:t=u:=Option.some.inj hu
    subst eu
    have IM:a=j:=by omega
    subst IM
    refine⟨lQ t ht,as,by rw[aq (lQ t ht)];exact t6,fun b hb=>lQ b (has b hb),IL.keep fun b hb o z=>?_⟩
    rw[aq (lQ b (has b hb))];exact z
  rintro σ H2 ⟨v,ts,rfl,s2,i2,RU,Li⟩
  have Em:ts.length=B:=by rw[RU];omega
  have NC:cK (fun _=>True) H2 dQ dB.length ts:=cK.keep Li fun b o _ z=>⟨trivial,z⟩
  have ND:=EB.same s2
  have Jl:=tb2.same s2
  dsimp only[aC]
  refine⟨Jl,fun f1 c1 Nx H4 hf1 Jc Jd wm yV=>?_⟩
  have LU:∃qs,H2 a.aZ=some (.cD qs):=let ⟨qs,z,_⟩:=Jl;⟨qs,z⟩
  have UX:∃qs,H4 a.aZ=some (.cD qs):=let ⟨qs,z,_⟩:=wm;⟨qs,z⟩
  have nT:∀{H:Hp} {b:Addr} {o:HO},(∃qs,H a.aZ=some (.cD qs))→H b=some o→(∀qs,o≠.cD qs)→b≠a.aZ:=fun⟨qs,z⟩ e hn y=>by rw[y,z] at e;exact hn qs (Option.some.inj e).symm
  have k24:∀{b:Addr} {o:HO},H2 b=some o→(∀qs,o≠.cD qs)→H4 b=some o:=fun e hn=>yV _ _ e (nT LU e hn)
  have NF:cm H2 H4:=fun b xs z=>k24 z (fun _ y=>nomatch y)
  have NG:=ND.other yV T.tne LU
  have LV:cJ H4 lm nm dB dQ:=(yY.keep s2.kt).keep NF
  have Jm:∀{Ha Hb:Hp},(∀{b:Addr} {o:HO},Ha b=some o→(∀qs,o≠.cD qs)→Hb b=some o)→cK (fun _=>True) Ha dQ dB.length ts→cK (fun _=>True) Hb dQ dB.length ts:=fun {Ha Hb} k x i t e=>by
   obtain⟨h1,as,h2,h3,h4⟩:=x i t e
   refine⟨trivial,as,k h2 (fun _ y=>nomatch y),h3,bh.keep h4 fun b hb o z=>?_⟩
   obtain⟨l,y⟩:=h4.mem hb
   rw[y] at z
   rw[←z]
   exact k y (fun _ y=>nomatch y)
  have in4:=Jm k24 NC
  have i4:=k24 i2 (fun _ y=>nomatch y)
  dsimp only[aC]
  refine⟨_,rfl,lm,nm,dB,dQ,rfl,LV,by omega,fun y0 Jn tF RV=>?_⟩
  have EC:=wm.same tF
  have LW:∃qs,Jn a.aZ=some (.cD qs):=let ⟨qs,z,_⟩:=EC;⟨qs,z⟩
  refine⟨_,rfl,_,rfl,EC,fun f2 c2 Nz H5 hf2 BX BZ Du yW=>?_⟩
  have oJ:∀{b:Addr} {o:HO},Jn b=some o→(∀qs,o≠.cD qs)→H5 b=some o:=fun e hn=>yW _ _ e (nT LW e hn)
  have NH:cm Jn H5:=fun b xs z=>oJ z (fun _ y=>nomatch y)
  have NI:=(NG.same tF).other yW T.tne LW
  have B0:cJ H5 lm nm dB dQ:=(LV.keep tF.kt).keep NH
  have wg:=Jm oJ (Jm (fun e _=>tF _ _ e) in4)
  have i5:=oJ (tF _ _ i4) (fun _ y=>nomatch y)
  have RW:=oJ RV (fun _ y=>nomatch y)
  have wq:=oJ (tF _ _ Jc) (fun _ y=>nomatch y)
  have wt:=oJ (tF _ _ Jd) (fun _ y=>nomatch y)
  have hD:∀b∈[f1,c1,f2,c2],∃φ,H5 b=some (.ext φ):=fun b hb=>by
   simp only[List.mem_cons,List.not_mem_nil,or_false] at hb
   rcases hb with z | z | z | z<;>subst z
   ·exact⟨_,wq⟩
   ·exact⟨_,wt⟩
   ·exact⟨_,BX⟩
   ·exact⟨_,BZ⟩
  refine⟨[f1,c1,f2,c2],hD,fun base' W=>?_⟩
  let Ev:Hp→Prop:=fun H=>H I=some (.lst (ts.map V.ref))∧cK (fun _=>True) H dQ dB.length ts
  let Ok:List Nat→Prop:=fun S=>∃w,bU B w∧S=subs dB dQ w
  have wH:bD P w K mg base' cE 1 a.fI a.gn ["before","rooms"] (wC K):=t4 T
  have F1:FnAt P w K mg base' 2 f1 2 (Dp CT B (preS dQ dB.length) Ok Ev):=by
   refine FnAt.lam W wq (by simp) wt (by simp) (ps:=["rooms","letter"]) (aJ:=["into"]) (fvs:=[.ref I]) (fb.mk' rfl rfl rfl (by decide+kernel) (by decide+kernel) (by decide+kernel) (by decide+kernel) (by decide+kernel))
    (List.forall_mem_cons.mpr ⟨rfl,fun _ h=>nomatch h⟩) (.cons ⟨3,rfl,rfl,rfl,rfl⟩ .nil) (fun us hl=>match us,hl with | [_,_],_=>rfl) (fun vs H Q E h=>?_) (fun A outer s H vs Q E hr h=>?_)
   ·obtain⟨x,v,c,rfl,_⟩:=h
    rfl
   ·obtain⟨S,v,c,rfl,⟨rp,rfl,er⟩,⟨wd,RX,rfl⟩,hc,⟨h1,h2⟩,kk⟩:=h
    have hr1:aU 1 _:=hr
    refine⟨_,aE wH hr1 (by rfl) T.vS T.vT T.vU .nil aR (ae (aH (bq K) (pv 2) (pv 1) (fun _ _=>rfl)) (ae (pv 0) ag)),?_⟩
    obtain⟨t,ht⟩:∃t,ts[c]? =some t:=⟨_,List.getElem?_eq_getElem (by rw[Em];exact hc)⟩
    obtain⟨_,as,t5,_,II⟩:=h2 c t ht
    have hpre:=m9 m1 hc wd
    refine⟨_,rfl,_,rfl,I,_,_,.ref t,rfl,rfl,.of h1,aA (by rw[List.getElem?_map,ht];rfl),_,rfl,t,rp,as,dQ,dB.length,c,subs dB dQ wd,rfl,t5,II,by rw[jU];exact er,List.nodup_range.filter _,fun r hr=>(jC.mp hr).1,by omega,by rw[hpre];exact sm _ (RX.app (.cons hc (.nil B))),fun p H' s' ep=>?_⟩
    exact kk _ H' s' ⟨p,rfl,by rw[←jU];exact ep⟩
  have F2:FnAt P w K mg base' 2 f2 1 (Dq CT pB Ok Ev):=by
   refine FnAt.lam W BX (by simp) BZ (by simp) (ps:=["rooms"]) (aJ:=[]) (fvs:=[]) (fb.mk' rfl rfl rfl (by decide+kernel) (by decide+kernel) (by decide+kernel) (by decide+kernel) (by decide+kernel))
    (fun _ h=>nomatch h) .nil (fun us hl=>match us,hl with | [_],_=>rfl) (fun vs H Q E h=>?_) (fun A outer s H vs Q E hr h=>?_)
   ·obtain⟨x,v,rfl,_⟩:=h
    rfl
   ·obtain⟨S,v,rfl,⟨rp,rfl,er⟩,yS,UY,kk⟩:=h
    refine⟨_,nO (uT K) ao (pv 0) (by with_unfolding_all rfl),?_⟩
    refine⟨_,rfl,rp,(ai S).map V.int,rfl,.inr (.of (by rw[jU];exact er)),rfl,?_,?_⟩
    ·rw[List.all_eq_true]
     intro x hx
     obtain⟨z,_,rfl⟩:=List.mem_map.mp hx
     rfl
    ·show Q (.bl (inV (.int 0) ((ai S).map V.int))) H
     rw[Dw]
     exact kk H (Same.refl H)
  have yS:∀S c,Ok S→c<B→Ok (preS dQ dB.length S c):=fun S c ⟨wd,hw,e⟩ hc=>⟨wd++[c],hw.app (.cons hc (.nil B)),by rw[e,m9 m1 hc]⟩
  have yT:∀H H',Ev H→Same H H'→Ev H':=fun H H' ⟨h1,h2⟩ s=>⟨s _ _ h1,cK.keep h2 fun b o _ z=>⟨trivial,s _ _ z⟩⟩
  refine⟨_,mj (k:=2) T CT F1 F2 yS yT,?_⟩
  have u5:∀{b:Addr} {o:HO},H5 b=some o→(∀φ,o≠.ext φ)→dU [f1,c1,f2,c2] H5 b=some o:=fun e hn=>u4 hD e hn
  have RY:cK (fun _=>True) (dU [f1,c1,f2,c2] H5) dQ dB.length ts:=fun i t e=>by
   obtain⟨h1,as,h2,h3,h4⟩:=wg i t e
   refine⟨trivial,as,u5 h2 (fun _ y=>nomatch y),h3,bh.keep h4 fun b hb o z=>?_⟩
   obtain⟨l,y⟩:=h4.mem hb
   rw[y] at z
   rw[←z]
   exact u5 y (fun _ y=>nomatch y)
  have cnt:∀l:List (List Nat),l.Nodup→(∀x∈l,∃w,bU B w∧x=gA (preS dQ dB.length) (subs dB dQ []) w)→l.length≤bd:=fun l nd hl=>Jk l nd fun x hx=>by
   obtain⟨wd,hw,e⟩:=hl x hx
   exact⟨wd,hw,by rw[e,ng m1 wd [] hw];rfl⟩
  refine⟨subs dB dQ [],.ref y0,1000000,bd,rfl,⟨y0,rfl,by rw[←jU,Dv];exact u5 RW (fun _ y=>nomatch y)⟩,⟨[],.nil B,rfl⟩,⟨u5 i5 (fun _ y=>nomatch y),RY⟩,cnt,by omega,by omega,yU,fun xs mv' p Rr tm tu ps' H6 s6 hl g ep Je Jf Jg n6=>?_⟩
  have tD:=sf s6
  have o6:∀{b:Addr} {o:HO},H6 b=some o→gv [f1,c1,f2,c2] H5 H6 b=some o:=fun {b o} e=>by
   rw[dX fun z=>?_]
   ·exact e
   ·rw[n6 b z] at e;cases e
  have BU:cm H6 (gv [f1,c1,f2,c2] H5 H6):=fun b xs z=>o6 z
  have wu:=o6 ep
  have wx:=o6 Je
  have wy:=o6 Jf
  have oK:=Jg.keep BU
  have wz:=Du.same tD
  have Jo:=NI.same tD
  have LX:=B0.keep tD.kt
  have ql:mO a.bO a.aZ H (gv [f1,c1,f2,c2] H5 H6):=fun b o e c1' c2'=>tD _ _ (yW _ _ (tF _ _ (yV _ _ (s2 _ _ (kb1 _ _ e c1')) c2')) c2')
  generalize gv [f1,c1,f2,c2] H5 H6=H7 at wu wx wy oK wz Jo LX ql ⊢
  obtain⟨_,_,_,yX,_⟩:=id LX
  dsimp only[aC]
  refine⟨_,rfl,lm,_,_,.ref nm,rfl,rfl,.of yX,aA (j:=0) rfl,_,rfl,p,_,_,.ref tm,rfl,rfl,.of wu,aA (j:=1) rfl,_,rfl,p,_,_,.ref tu,rfl,rfl,.of wu,aA (j:=2) rfl,by show 3≤sizeLine;omega,fun m2 hm2=>?_⟩
  have s8:=Same.new (o:=.tup [.ref nm,.ref tm,.ref tu]) hm2
  have lx:=cnt xs g.once g.reach
  have RZ:(xs.map pB).length=xs.length:=List.length_map ..
  have x0:0<xs.length:=(List.getElem?_eq_some_iff.mp g.first).1
  have Jp:=Jo.same s8
  have NJ:=wz.same s8
  have R_:∃qs,(upd H7 m2 (.tup [.ref nm,.ref tm,.ref tu])) a.bO=some (.cD qs):=let ⟨qs,z,_⟩:=Jp;⟨qs,z⟩
  refine⟨m2,nm,xs.map pB,mv',B,rfl,⟨tm,tu,ps',af,s8 _ _ wx,s8 _ _ wy,oK.keep s8.kt⟩,by rw[RZ];exact g.bf hl,by omega,by omega,yU,Jp,fun pz lZ R0 H9 LY NK R1 cn9 le9 UZ=>?_⟩
  refine q pz lZ R0 H9 (fun b o e c1' c2'=>LY _ _ (s8 _ _ (ql _ _ e c1' c2')) c1') NK (NJ.other LY T.tne.symm R_) R1 cn9 ((le9.trans (B_ m1 p1 g hl)).trans fun wd hw=>le1 _ hw.rev) (by omega)
theorem _root_.L2.bT.ne {H:Hp} {d N:Addr} (h:bT H d) (e:H N=none):N≠d:=by
 obtain⟨ms,a,_⟩:=h
 exact(aj a e).symm
theorem _root_.L2.bT.lo {H H':Hp} {d N:Addr} (h:bT H' d) (k:KB d H H') (e:H' N=none):H N=none:=by
 have n1:=h.ne e
 cases z:H N with
 | none=>rfl
 | some o=>have:=k N o z n1;rw[e] at this;cases this
theorem _root_.L2.bT.upd {H:Hp} {d N:Addr} {o:HO} (h:bT H d) (n:N≠d):bT (upd H N o) d:=by
 obtain⟨ms,a,c⟩:=h
 exact⟨ms,by rw[aq n.symm];exact a,c⟩
theorem _root_.L2.bT.ktu {H H':Hp} {d:Addr} (h:bT H d) (k:KB d H H'):cm H H':=by
 obtain⟨ms,a,_⟩:=h
 exact cm.kb a k
theorem KB.wI {H H':Hp} {d N:Addr} {o:HO} (k:KB d H H') (e:H N=none):KB d H (upd H' N o):=fun b p h n=>by
 rw[aq (aj h e)]
 exact k b p h n
theorem Jq {T:(Bool→Hp→Prop)→Prop} {Qf:Bool→Hp→Prop} (S:Hp→Prop) (h:∀Qc:Bool→Hp→Prop,(∀c H',S H'→Qc c H')→T Qc) (x:∀c H',S H'→Qf c H'):T Qf:=h Qf x
theorem FY (l:List Str):(l.map V.str).all gi=true:=by rw[List.all_map];exact List.all_eq_true.mpr fun _ _=>rfl
def lV:Str:="abcdefghijklmnopqrstuvwxyz"
theorem wJ:lV.length≤sizeLine:=by
 have:lV.length=26:=by decide+kernel
 rw[this];decide
theorem B1 {r:Int} (h0:0≤r) (h1:r<26):∃c,mF lV.cps.toList r=some c:=by
 obtain⟨n,rfl⟩:∃n:Nat,r=(n:Int):=⟨r.toNat,by omega⟩
 have:lV.cps.toList.length=26:=by decide+kernel
 exact⟨_,aA (List.getElem?_eq_getElem (by omega))⟩
def Dx:Sp:=fun vs H Q _=>∃(d:Addr) (m:Nat),vs=[.ref d,.int m]∧bT H d∧m≤6∧
 ∀(N:Addr) (ss:List Str) (H':Hp),H N=none→KB d H H'→bT H' d→H' N=some (.lst (ss.map V.str))→ss.length=m→Q (.ref N) H'
theorem bV:aW ["_law_deck_here","_law_many","_law_letters_here","_law_names","_law_k","_law_name","_law_turn"] ["_law_deck_here","_law_many"] (ak bZ):=⟨rfl,rfl,rfl,by decide+kernel,rfl,by decide+kernel,by decide+kernel⟩
theorem ni {a:eY} (T:Txt K mg a):bD P w K mg base cE 3 a.eG a.fJ ["_law_deck_here","_law_many"] Dx:=by
 have bB:=iG (P:=P) (w:=w) (base:=base) T
 refine T.oi.ok bV (fun vs H Q E h=>?_) (fun cdv A outer s H vs Q E hr h=>?_)
 ·obtain⟨d,m,rfl,_⟩:=h
  rfl
 ·obtain⟨d,m,rfl,hd,hm,k⟩:=h
  have a_:aU 2 _:=hr
  refine⟨_,(ah (av (i:=2) bV.nd rfl (Or.inr rfl) je)
  (ah (av (i:=3) bV.nd rfl (Or.inl rfl) (cq ag))
  (ah (bF PassesOwn.never rfl (bE rfl T.bW (ae (pv 1) ag)) (ax (i:=4) bV.nd rfl (Or.inl rfl))
   (ah (av (i:=5) bV.nd rfl (Or.inl rfl) (cL PySem.F.plainAttrs_str PySem.F.slot_str_join PySem.F.type_str_join (CG K) je (ae (cA (aD.mk' (esc:=ak bZ) (N:=["_law_deck_here","_law_many","_law_letters_here","_law_names","_law_k","_law_name","_law_turn"]) (own:=["_law_j"]) (aJ:=["_law_letters_here","_law_deck_here"]) (bx:=[2,0]) rfl rfl (by decide+kernel)) rfl (bE rfl T.bW (ae (aO dn ao (aE bB a_ rfl T.b_ T.cb T.cf .nil aR (ae (pv 0) (ae ao ag)))) ag)) (fun _ _ _ _=>(ax (i:=0) (show List.Nodup (["_law_j","_law_letters_here","_law_deck_here"]:List Str) by decide+kernel) rfl (Or.inl rfl))) (fun _ _ _ _=>bG) (fun _ _ _ _=>(aH AK (pv 1) (aE bB a_ rfl T.b_ T.cb T.cf .nil aR (ae (pv 2) (ae ao ag))) (fun _ _=>rfl)))) ag)))
   (ah (bF PassesOwn.never rfl (bE rfl T.bW (ae ao ag)) (ax (i:=6) bV.nd rfl (Or.inl rfl))
    (au (dy (PW.pt (kO (br (uT K) (pv 5) (pv 3) (by with_unfolding_all rfl)) (ux (br (uT K) (pv 5) (cq (ae je (ae je (ae je (ae je (ae je ag)))))) (by with_unfolding_all rfl)))))
     (au (av (i:=5) bV.nd rfl (Or.inl rfl) (aO zq (kS Hn (pv 5) i3 (ke ao)) (aH AK (pv 2) (aO hU (pv 6) ao) (fun _ _=>rfl)))))
     cz)))
   (au (bR (cL PySem.F.plainAttrs_list PySem.F.slot_list_append PySem.F.type_list_append bS (pv 3) (ae (pv 5) ag)))))))
  (au (aY (aF (xk K) (by rfl) T.pq mM (ae (pv 3) ag))))))),?_⟩
  have big:(10000:Nat)≤sizeLine:=by decide
  dsimp only[mx,qw,tC,aC]
  refine⟨by decide,fun N hN=>?_⟩
  have nN:=hd.ne hN
  refine⟨_,rfl,_,rfl,by omega,by omega,dH (n:=(m:Int).toNat) (fun i σ H'=>∃(ss:List Str) (v4 v5 v6:Option V),σ=[some (.ref d),some (.int (m:Nat)),some (.str lV),some (.ref N),v4,v5,v6]∧KB d H H'∧bT H' d∧H' N=some (.lst (ss.map V.str))∧ss.length=i)
   ⟨[],none,none,none,rfl,(Same.new hN).kb,hd.same (Same.new hN),af,rfl⟩ ?_ ?_⟩
  ·rintro i σ H1 hi ⟨ss,v4,v5,v6,rfl,k1,d1,n1,ls⟩
   rw[Int.toNat_natCast] at hi
   refine⟨rfl,_,rfl,d,3,rfl,d1,by decide,fun t H2 t0 t1 k2 d2=>⟨_,_,rfl,rfl,_,rfl,by omega,by omega,fun C hC=>?_⟩⟩
   have n2:=k2 _ _ n1 nN
   have nC:=d2.ne hC
   refine dM (fun j σ H'=>∃(ys:List Str) (v:Option V),σ=[v,some (.str lV),some (.ref d)]∧KB d H2 H'∧bT H' d∧H' C=some (.lst (ys.map V.str))∧ys.length=j∧(ys.map (·.length)).sum=j)
    ⟨[],none,?sg,(Same.new hC).kb,d2.same (Same.new hC),af,rfl,rfl⟩ ?_ ?_
   case sg=>rfl
   ·rintro j σ H3 hj ⟨ys,v,rfl,k3,d3,c3,ly,ED⟩
    refine⟨_,rfl,_,rfl,d,26,rfl,d3,by decide,fun r H4 r0 r1 k4 d4=>?_⟩
    obtain⟨c,hc⟩:=B1 r0 r1
    refine⟨lV,r,c,rfl,rfl,wJ,hc,_,k4 _ _ c3 nC,?_,ys++[⟨#[c]⟩],_,rfl,KB.wI (k3.trans k4) hC,d4.upd nC,?_,?_,?_⟩
    ·rw[List.length_map];omega
    ·rw[af,List.map_append];rfl
    ·rw[List.length_append,ly];rfl
    ·rw[List.map_append,List.sum_append,ED];rfl
   rintro σ H3 ⟨ys,v,rfl,k3,d3,c3,ly,ED⟩
   have n3:=k3 _ _ n2 nN
   have e0:(Str.length ("":Str))=0:=rfl
   refine⟨"",C,ys,rfl,rfl,.of c3,by rw[ED,ly,e0];omega,fun z hz LZ=>?_⟩
   have zl:z.length≤3:=by
    rw[LZ]
    exact Nat.le_trans (A' ys) (by rw[ED];omega)
   clear LZ
   dsimp only[aC]
   refine⟨_,rfl,by decide,by decide,dH (n:=(30:Int).toNat) (fun j σ H'=>∃(z:Str) (v6:Option V),σ=[some (.ref d),some (.int (m:Nat)),some (.str lV),some (.ref N),some (.int (0+(i:Int))),some (.str z),v6]∧Same H3 H'∧z.length≤3+j)
    ⟨z,v6,rfl,.refl _,zl⟩ ?_ ?_⟩
   ·rintro j σ H4 hj ⟨z,v6,rfl,s4,zl⟩
    have hj':j<30:=hj
    have n4:=s4 _ _ n3
    dsimp only[aC,uz]
    refine Jq (Same H4) (fun Qc hq=>?_) (fun c H5 s5=>?_)
    ·refine⟨_,rfl,_,rfl,N,_,rfl,.inl (.of n4),rfl,FY ss,_,rfl,?_⟩
     refine fW (fun _=>hq _ _ (.refl _)) (fun _=>?_)
     exact⟨_,rfl,by show 5≤sizeLine;decide,fun Z hZ=>⟨Z,_,rfl,.inl (.of af),rfl,rfl,_,rfl,hq _ _ (Same.new hZ)⟩⟩
    ·refine fW (fun _=>?_) (fun _=>⟨z,_,rfl,s4.trans s5,by omega⟩)
     obtain⟨cc,hcc⟩:=B1 (r:=(0+(j:Int)) % 26) (Int.emod_nonneg _ (by decide)) (Int.emod_lt_of_pos _ (by decide))
     have sl:=Txt.slice_le z none (some 2)
     have e1:Str.length (⟨#[cc]⟩:Str)=1:=rfl
     refine⟨_,rfl,_,rfl,z,rfl,by omega,_,rfl,_,rfl,_,_,rfl,rfl,cpos (by decide),lV,_,cc,rfl,rfl,wJ,hcc,_,_,rfl,rfl,by rw[e1];omega,Txt.slice z none (some 2)++⟨#[cc]⟩,_,rfl,s4.trans s5,?_⟩
     show((Txt.slice z none (some 2)).cps++ #[cc]).size≤_
     rw[Array.size_append]
     have:(Txt.slice z none (some 2)).cps.size≤z.length:=sl
     show _+1≤_
     omega
   ·rintro σ H4 ⟨z,v6,rfl,s4,_⟩
    have n4:=s4 _ _ n3
    refine⟨_,rfl,.inl ⟨rfl,_,.of n4⟩,_,rfl,N,_,_,rfl,rfl,n4,?_,ss++[z],_,_,_,rfl,?_,?_,?_,?_⟩
    ·rw[List.length_map];omega
    ·exact KB.wI (((k1.trans k2).trans k3).trans s4.kb) hN
    ·exact(d3.same s4).upd nN
    ·rw[af,List.map_append];rfl
    ·rw[List.length_append,ls];rfl
  ·rintro σ H1 ⟨ss,v4,v5,v6,rfl,k1,d1,n1,ls⟩
   rw[Int.toNat_natCast] at ls
   refine⟨_,rfl,N,ss,rfl,.of n1,by omega,fun p zs hp perm _=>?_⟩
   have sp:=Same.new (o:=.lst (zs.map V.str)) hp
   exact k p zs _ (d1.lo k1 hp) (k1.trans sp.kb) (d1.same sp) af (by rw[perm.length_eq,ls])
theorem FZ:∀m:Nat,m<5→∃v:Nat,v<3∧mF ([.int 0,.int 0,.int 0,.int 1,.int 2]:List V) (m:Int)=some (.int (v:Nat))
 | 0,_=>⟨0,by decide,rfl⟩
 | 1,_=>⟨0,by decide,rfl⟩
 | 2,_=>⟨0,by decide,rfl⟩
 | 3,_=>⟨1,by decide,rfl⟩
 | 4,_=>⟨2,by decide,rfl⟩
 | m+5,h=>absurd h (by omega)
theorem Dy {n a b c:Nat} (ha:a<n) (hb:b<n) (hc:c<n):∀v:Nat,v<3→∃x:Nat,x<n∧mF ([.int (a:Nat),.int (b:Nat),.int (c:Nat)]:List V) (v:Int)=some (.int (x:Nat))
 | 0,_=>⟨a,ha,rfl⟩
 | 1,_=>⟨b,hb,rfl⟩
 | 2,_=>⟨c,hc,rfl⟩
 | v+3,h=>absurd h (by omega)
theorem toN {r:Int} (h:0≤r):∃n:Nat,r=(n:Int):=⟨r.toNat,(Int.toNat_of_nonneg h).symm⟩
def F_:Sp:=fun vs H Q _=>∃(d:Addr) (b most m:Nat),vs=[.ref d,.int b,.int most,.int m]∧bT H d∧2≤b∧b≤4∧0<most∧most≤50∧m≤3∧
 ∀(ma nm:Addr) (ss:List Str) (bs:List Bool) (mv:List (List Nat)) (H':Hp),H ma=none→KB d H H'→bT H' d→H' nm=some (.tup (ss.map V.str))→ss.length=m→cJ H' ma nm bs mv→Moves bs.length (b ^ m) mv→0<bs.length→bs.length≤most→(∀r,r<bs.length→bs.getD ((mv.getD r []).getD 0 0) false=bs.getD r false)→Q (.ref ma) H'
theorem bC:aW ["_law_deck_here","_law_base_here","_law_most","_law_many","_law_names","_law_letters_here","_law_name","_law_rooms","_law_share","_law_yes","_law_moves","_law_room","_law_like","_law_goes","_law_k"] ["_law_deck_here","_law_base_here","_law_most","_law_many"] (ak dj):=⟨rfl,rfl,rfl,by decide+kernel,rfl,by decide+kernel,by decide+kernel⟩
theorem wK {a:eY} (T:Txt K mg a):bD P w K mg base cE 4 a.iz a.jv ["_law_deck_here","_law_base_here","_law_most","_law_many"] F_:=by
 have bB:=iG (P:=P) (w:=w) (base:=base) T
 have oq:=ni (P:=P) (w:=w) (base:=base) T
 refine T.xH.ok bC (fun vs H Q E h=>?_) (fun cdv A outer s H vs Q E hr h=>?_)
 ·obtain⟨d,b,most,m,rfl,_⟩:=h
  rfl
 ·obtain⟨d,b,most,m,rfl,hd,hb2,hb4,hm0,hm1,Lj,k⟩:=h
  have a_:aU 2 _:=hr.mono (by decide)
  have nq:aU 3 _:=hr
  refine⟨_,(ah (av (i:=4) bC.nd rfl (Or.inl rfl) (bt (cv K) (by rfl) T.dD cX (ae (aE oq nq rfl T.oj T.om T.oo .nil aR (ae (pv 0) (ae (pv 3) ag))) ag)))
  (ah (av (i:=5) bC.nd rfl (Or.inl rfl) ao)
  (ah (bF PassesOwn.never rfl (fZ (pv 4)) (ax (i:=6) bC.nd rfl (Or.inl rfl))
   (au (av (i:=5) bC.nd rfl (Or.inl rfl) (aO f_ (pv 5) (pv 1)))))
  (ah (av (i:=7) bC.nd rfl (Or.inl rfl) (aO dn ao (aE bB a_ rfl T.b_ T.cb T.cf .nil aR (ae (pv 0) (ae (pv 2) ag)))))
  (ah (av (i:=8) bC.nd rfl (Or.inr rfl) (aO dn ao (aE bB a_ rfl T.b_ T.cb T.cf .nil aR (ae (pv 0) (ae ao ag)))))
  (ah (av (i:=9) bC.nd rfl (Or.inr rfl) (bt (cv K) (by rfl) T.dD cX (ae (cA (aD.mk' (esc:=ak dj) (N:=["_law_deck_here","_law_base_here","_law_most","_law_many","_law_names","_law_letters_here","_law_name","_law_rooms","_law_share","_law_yes","_law_moves","_law_room","_law_like","_law_goes","_law_k"]) (own:=["_law_room"]) (aJ:=["_law_deck_here","_law_share"]) (bx:=[0,8]) rfl rfl (by decide+kernel)) rfl (bE rfl T.bW (ae (pv 7) ag)) (fun _ _ _ _=>(ax (i:=0) (show List.Nodup (["_law_room","_law_deck_here","_law_share"]:List Str) by decide+kernel) rfl (Or.inl rfl))) (fun _ _ _ _=>bG) (fun _ _ _ _=>(nO nJ (aE bB a_ rfl T.b_ T.cb T.cf .nil aR (ae (pv 1) (ae (pv 2) ag))) ao (bQ _)))) ag)))
  (ah (av (i:=10) bC.nd rfl (Or.inl rfl) (cq ag))
  (ah (bF PassesOwn.never rfl (bE rfl T.bW (ae (pv 7) ag)) (ax (i:=11) bC.nd rfl (Or.inr rfl))
   (ah (eZ (i:=12) (aD.mk' (esc:=ak dj) (N:=["_law_deck_here","_law_base_here","_law_most","_law_many","_law_names","_law_letters_here","_law_name","_law_rooms","_law_share","_law_yes","_law_moves","_law_room","_law_like","_law_goes","_law_k"]) (own:=["_law_other"]) (aJ:=["_law_yes","_law_room"]) (bx:=[9,11]) rfl rfl (by decide+kernel)) rfl (bE rfl T.bW (ae (pv 7) ag)) (fun _ _ _ _=>(ax (i:=0) (show List.Nodup (["_law_other","_law_yes","_law_room"]:List Str) by decide+kernel) rfl (Or.inl rfl))) (fun _ _ _ _=>(jk (br nJ (aH (aM K) (pv 1) (pv 0) (fun _ _=>rfl)) (aH (aM K) (pv 1) (pv 2) (fun _ _=>rfl)) (bQ _)))) (fun _ _ _ _=>(pv 0)) bC.nd rfl rfl)
   (ah (av (i:=13) bC.nd rfl (Or.inl rfl) (cq (ae (aH (bq K) (pv 12) (aE bB a_ rfl T.b_ T.cb T.cf .nil aR (ae (pv 0) (ae (aF (aK K) (by rfl) T.bM bo (ae (pv 12) ag)) ag))) (fun _ _=>rfl)) ag)))
   (ah (bF PassesOwn.never rfl (bE rfl T.bW (ae (aO uC (pv 5) ao) ag)) (ax (i:=14) bC.nd rfl (Or.inl rfl))
    (au (bR (cL PySem.F.plainAttrs_list PySem.F.slot_list_append PySem.F.type_list_append bS (pv 13) (ae (aH (bq K) (cq (ae (aE bB a_ rfl T.b_ T.cb T.cf .nil aR (ae (pv 0) (ae (pv 7) ag))) (ae (aH (bq K) (pv 13) ao (fun _ _=>rfl)) (ae (pv 11) ag)))) (aH (bq K) (cq (ae ao (ae ao (ae ao (ae ao (ae ao ag)))))) (aE bB a_ rfl T.b_ T.cb T.cf .nil aR (ae (pv 0) (ae ao ag))) (fun _ _=>rfl)) (fun _ _=>rfl)) ag)))))
   (au (bR (cL PySem.F.plainAttrs_list PySem.F.slot_list_append PySem.F.type_list_append bS (pv 10) (ae (bt (cv K) (by rfl) T.dD cX (ae (pv 13) ag)) ag))))))))
  (au (aY (iD (ae (pv 4) (ae (pv 9) (ae (bt (cv K) (by rfl) T.dD cX (ae (pv 10) ag)) ag)))))))))))))),?_⟩
  have big:(10000:Nat)≤sizeLine:=by decide
  refine⟨_,rfl,_,rfl,d,m,rfl,hd,by omega,fun N ss H1 hN k1 d1 n1 EE=>?_⟩
  refine⟨N,_,rfl,.inl ⟨.of n1,fun nm hnm=>?_⟩⟩
  have L_:=Same.new (o:=.tup (ss.map V.str)) hnm
  have k2:KB d H (upd H1 nm (.tup (ss.map V.str))):=k1.trans L_.kb
  have d2:=d1.same L_
  have e2:(upd H1 nm (.tup (ss.map V.str))) nm=some (.tup (ss.map V.str)):=af
  generalize upd H1 nm (.tup (ss.map V.str))=H2 at k2 d2 e2 ⊢
  dsimp only[mx,qw,tC,aC]
  refine⟨_,rfl,nm,rfl,⟨_,.of e2⟩,qx (xs:=ss.map V.str) (fun i σ H'=>∃v6:Option V,σ=[some (.ref d),some (.int (b:Nat)),some (.int (most:Nat)),some (.int (m:Nat)),some (.ref nm),some (.int (b ^ i:Nat)),v6,none,none,none,none,none,none,none,none]∧H'=H2)
   ⟨none,rfl,rfl⟩ (fun i σ H' _ ⟨_,_,e⟩=>by rw[e];exact .of e2) ?_ ?_⟩
  ·rintro i x σ H3 hx ⟨v6,rfl,rfl⟩
   refine⟨_,rfl,_,rfl,_,_,rfl,rfl,.inr (by constructor<;>omega),some x,?_,rfl⟩
   have e1:(b ^ (i+1):Nat)=b ^ i*b:=Nat.pow_succ ..
   have e3:((b ^ i:Nat):Int)*(b:Int)=((b ^ (i+1):Nat):Int):=by rw[e1,Int.natCast_mul]
   rw[←e3]
   rfl
  rintro σ H3 ⟨v6,rfl,rfl⟩
  rw[List.length_map,EE]
  have IA:0<b ^ m:=Nat.pow_pos (by omega)
  have NL:b ^ m≤64:=Nat.le_trans (Nat.pow_le_pow_left hb4 _) (Nat.le_trans (Nat.pow_le_pow_right (show 0<4 by decide) Lj) (by decide))
  generalize b ^ m=B at IA NL k ⊢
  refine⟨_,rfl,_,rfl,d,(most:Int),rfl,d2,by omega,fun r H4 r0 r1 k4 d4=>⟨_,_,rfl,rfl,?_⟩⟩
  obtain⟨r',rfl⟩:=toN r0
  have en:(1:Int)+(r':Int)=((1+r':Nat):Int):=by omega
  dsimp only[aC]
  rw[en]
  generalize hN':1+r'=n
  have n0:0<n:=by omega
  have n50:n≤most:=by omega
  refine⟨_,rfl,d,3,rfl,d4,by decide,fun u H5 u0 u1 k5 d5=>⟨_,_,rfl,rfl,?_⟩⟩
  dsimp only[aC]
  refine⟨_,rfl,_,rfl,by omega,by omega,fun C hC=>?_⟩
  have nC:=d5.ne hC
  refine dM (fun j σ H'=>∃(bs:List Bool) (v:Option V),σ=[v,some (.ref d),some (.int (2+u))]∧KB d H5 H'∧bT H' d∧H' C=some (.lst (bs.map V.bl))∧bs.length=j)
   ⟨[],none,?sg,(Same.new hC).kb,d5.same (Same.new hC),af,rfl⟩ ?_ ?_
  case sg=>rfl
  ·rintro j σ H6 hj ⟨bs,v,rfl,k6,d6,c6,lb⟩
   rw[Int.toNat_natCast] at hj
   refine⟨_,rfl,_,rfl,d,2+u,rfl,d6,by omega,fun q H7 q0 q1 k7 d7=>⟨rfl,?_⟩⟩
   refine⟨_,k7 _ _ c6 nC,?_,bs++[decide (V.int q=V.int 0)],_,rfl,KB.wI (k6.trans k7) hC,d7.upd nC,?_,by rw[List.length_append,lb];rfl⟩
   ·rw[List.length_map];omega
   ·rw[af,List.map_append];rfl
  rintro σ H6 ⟨bs,v,rfl,k6,d6,c6,lb⟩
  rw[Int.toNat_natCast] at lb
  refine⟨C,_,rfl,.inl ⟨.of c6,fun Y hY=>?_⟩⟩
  have sY:=Same.new (o:=.tup (bs.map V.bl)) hY
  have d7:=d6.same sY
  have y7:(upd H6 Y (.tup (bs.map V.bl))) Y=some (.tup (bs.map V.bl)):=af
  have Jr:KB d H3 (upd H6 Y (.tup (bs.map V.bl))):=((k4.trans k5).trans k6).trans sY.kb
  have e7:=d2.ktu Jr _ _ e2
  have Js:=k2.trans Jr
  clear Jr c6 sY k6 d6
  generalize upd H6 Y (.tup (bs.map V.bl))=H7 at d7 y7 e7 Js ⊢
  dsimp only[aC]
  refine⟨by decide,fun M hM=>?_⟩
  have nM:=d7.ne hM
  have IT:=d7.lo Js hM
  have sM:=Same.new (o:=.lst []) hM
  refine⟨_,rfl,_,rfl,by omega,by omega,dH (n:=(n:Int).toNat) (fun i σ H'=>∃(ps:List Addr) (mv:List (List Nat)) (v11 oN oO jD:Option V),σ=[some (.ref d),some (.int (b:Nat)),some (.int (most:Nat)),some (.int (m:Nat)),some (.ref nm),some (.int (B:Nat)),v6,some (.int (n:Nat)),some (.int (2+u)),some (.ref Y),some (.ref M),v11,oN,oO,jD]∧KB d H H'∧cm H7 H'∧bT H' d∧H' M=some (.lst (ps.map V.ref))∧fB H' ps (mv.map ai)∧mv.length=i∧(∀l∈mv,l.length=B∧∀x∈l,x<n)∧∀r,r<i→bs.getD ((mv.getD r []).getD 0 0) false=bs.getD r false)
   ⟨[],[],none,none,none,none,rfl,Js.trans sM.kb,sM.kt,d7.same sM,af,.nil,rfl,fun l hl=>(by cases hl),fun r hr=>absurd hr (Nat.not_lt_zero _)⟩ ?_ ?_⟩
  ·rintro i σ H8 hi ⟨ps,mv,v11,oN,oO,jD,rfl,k8,t8,d8,m8,EF,lm,Jt,EG⟩
   rw[Int.toNat_natCast] at hi
   have y8:=t8 _ _ y7
   have lps:ps.length=i:=by rw[Paired.length EF,List.length_map,lm]
   obtain⟨yi,Ju⟩:∃y,bs[i]? =some y:=⟨_,List.getElem?_eq_getElem (by omega)⟩
   have ei:(0:Int)+(i:Int)=(i:Int):=by omega
   refine⟨_,rfl,_,rfl,by omega,by omega,fun L hL=>?_⟩
   refine dM (fun j σ H'=>∃(ls:List Nat) (v:Option V),σ=[v,some (.ref Y),some (.int (0+(i:Int)))]∧Same H8 H'∧H' L=some (.lst ((ai ls).map V.int))∧ls.length≤j∧(∀x∈ls,x<n∧bs.getD x false=yi)∧(i<j→ls≠[]))
    ⟨[],none,?sg2,Same.new hL,af,Nat.le_refl _,fun x hx=>(by cases hx),fun z=>absurd z (Nat.not_lt_zero _)⟩ ?_ ?_
   case sg2=>rfl
   ·rintro j σ H9 hj ⟨ls,v,rfl,s9,l9,ll,hls,hne⟩
    rw[Int.toNat_natCast] at hj
    have ej:(0:Int)+(j:Int)=(j:Int):=by omega
    obtain⟨yj,EH⟩:∃y,bs[j]? =some y:=⟨_,List.getElem?_eq_getElem (by omega)⟩
    refine⟨_,rfl,_,rfl,Y,_,_,.bl yj,rfl,rfl,.of (s9 _ _ y8),by rw[ej];exact aA (by rw[List.getElem?_map,EH];rfl),_,rfl,_,rfl,Y,_,_,.bl yi,rfl,rfl,.of (s9 _ _ y8),by rw[ei];exact aA (by rw[List.getElem?_map,Ju];rfl),rfl,_,rfl,?_⟩
    refine fW (fun z=>?_) (fun z=>?_)
    ·refine⟨_,rfl,_,l9,?_,ls++[j],_,rfl,s9.kbn hL KB.write,?_,by rw[List.length_append];show ls.length+1≤j+1;omega,fun x hx=>?_,fun _=>by simp⟩
     ·rw[List.length_map,aw];omega
     ·rw[af,aS,List.map_append,ej];rfl
     ·rcases List.mem_append.mp hx with y | y
      ·exact hls x y
      ·rw[List.mem_singleton.mp y];exact⟨hj,by rw[List.getD_eq_getElem?_getD,EH];simpa using z⟩
    ·refine⟨ls,_,rfl,s9,l9,by omega,hls,fun hij=>hne ?_⟩
     rcases Nat.lt_or_ge i j with q | q
     ·exact q
     ·have:i=j:=by omega
      subst this
      rw[Ju] at EH
      rw[Option.some.inj EH] at z
      simp at z
   rintro σ H9 ⟨ls,v,rfl,s9,l9,ll,hls,hne⟩
   rw[Int.toNat_natCast] at ll hne
   have UC:0<ls.length:=List.length_pos_iff.mpr (hne hi)
   have d9:=d8.same s9
   have nL:L≠d:=d8.ne hL
   refine⟨_,rfl,_,rfl,_,rfl,_,ls.length,rfl,.inl ⟨_,.of l9,by rw[List.length_map,aw]⟩,d,(ls.length:Int),rfl,d9,by omega,fun q Ha q0 q1 ka da=>?_⟩
   obtain⟨q',rfl⟩:=toN q0
   have hq':q'<ls.length:=by omega
   refine⟨L,_,_,_,rfl,rfl,.of (ka _ _ l9 nL),aA (cN hq'),by show 1≤sizeLine;decide,fun G hG=>?_⟩
   obtain⟨hg0,L3⟩:ls.getD q' 0<n∧bs.getD (ls.getD q' 0) false=yi:=hls _ (List.mem_of_getElem? (item_at 0 hq'))
   have nG:=da.ne hG
   have L4:KB d H8 Ha:=s9.kb.trans ka
   have R4:=da.lo L4 hG
   have sG:=Same.new (o:=.lst [.int (ls.getD q' 0:Nat)]) hG
   generalize ls.getD q' 0=g0 at hg0 L3 sG ⊢
   dsimp only[aC]
   refine⟨_,rfl,_,_,rfl,rfl,_,rfl,by omega,by omega,dH (n:=((B:Int)-1).toNat) (fun j σ H'=>∃(gs:List Nat) (jD:Option V),σ=[some (.ref d),some (.int (b:Nat)),some (.int (most:Nat)),some (.int (m:Nat)),some (.ref nm),some (.int (B:Nat)),v6,some (.int (n:Nat)),some (.int (2+u)),some (.ref Y),some (.ref M),some (.int (0+(i:Int))),some (.ref L),some (.ref G),jD]∧KB d H8 H'∧bT H' d∧H' G=some (.lst ((ai (g0::gs)).map V.int))∧gs.length=j∧∀x∈gs,x<n)
    ⟨[],jD,rfl,L4.trans sG.kb,da.same sG,af,rfl,fun x hx=>(by cases hx)⟩ ?_ ?_⟩
   ·rintro j σ Hb hj ⟨gs,jD,rfl,kb,db,gb,lg,hgs⟩
    refine⟨_,rfl,.inl ⟨rfl,_,.of gb⟩,_,rfl,_,rfl,d,(n:Int),rfl,db,by omega,fun q2 Hc R7 U_ kc dc=>?_⟩
    obtain⟨Jv,rfl⟩:=toN R7
    have gc:=kc _ _ gb nG
    refine⟨_,rfl,G,_,_,.int (g0:Nat),rfl,rfl,.of gc,aA (j:=0) rfl,_,rfl,by show 3≤sizeLine;decide,fun Z1 L5=>?_⟩
    have L6:=Same.new (o:=.lst [.int (Jv:Nat),.int (g0:Nat),.int (0+(i:Int))]) L5
    refine⟨by show 5≤sizeLine;decide,fun Z2 EI=>?_⟩
    have B2:=Same.new (o:=.lst [.int 0,.int 0,.int 0,.int 1,.int 2]) EI
    have sZ:=L6.trans B2
    have dz:=dc.same sZ
    have R8:Z1≠d:=dc.ne L5
    have R9:Z2≠d:=(dc.same L6).ne EI
    refine⟨_,rfl,d,5,rfl,dz,by decide,fun q3 Hd Sb U0 kd dd=>?_⟩
    obtain⟨Sf,rfl⟩:=toN Sb
    obtain⟨v,hv,ev⟩:=FZ Sf (by omega)
    obtain⟨x,hx,ex⟩:=Dy (n:=n) (a:=Jv) (b:=g0) (c:=i) (by omega) hg0 hi v hv
    have z2:=kd _ _ (show(upd _ Z2 (.lst [.int 0,.int 0,.int 0,.int 1,.int 2])) Z2=_ from af) R9
    have z1:=kd _ _ (B2 _ _ (show(upd Hc Z1 (.lst [.int (Jv:Nat),.int (g0:Nat),.int (0+(i:Int))])) Z1=_ from af)) R8
    rw[ei] at z1
    have gd:=kd _ _ (sZ _ _ gc) nG
    refine⟨Z2,_,_,_,rfl,rfl,.of z2,ev,Z1,_,_,_,rfl,rfl,.of z1,ex,G,_,_,rfl,rfl,gd,?_,gs++[x],_,rfl,KB.wI (((kb.trans kc).trans sZ.kb).trans kd) R4,dd.upd nG,?_,by rw[List.length_append,lg];rfl,fun y hy=>?_⟩
    ·rw[List.length_map,aw,List.length_cons];omega
    ·rw[af,←List.cons_append,aS,List.map_append];rfl
    ·rcases List.mem_append.mp hy with w | w
     ·exact hgs y w
     ·rw[List.mem_singleton.mp w];exact hx
   rintro σ Hb ⟨gs,jD,rfl,kb,db,gb,lg,hgs⟩
   have mb:=kb _ _ m8 nM
   have tb:=d8.ktu kb
   refine⟨_,rfl,.inl ⟨rfl,_,.of mb⟩,_,rfl,G,_,rfl,.inl ⟨.of gb,fun Dd Sg=>?_⟩⟩
   have sD:=Same.new (o:=.tup ((ai (g0::gs)).map V.int)) Sg
   have mD:=sD _ _ mb
   have ktM:cm (upd Hb Dd (.tup ((ai (g0::gs)).map V.int))) (upd (upd Hb Dd (.tup ((ai (g0::gs)).map V.int))) M (.lst (ps.map V.ref++[.ref Dd]))):=cm.lst mD
   refine⟨M,_,_,rfl,rfl,mD,?_,ps++[Dd],mv++[g0::gs],_,_,_,_,rfl,?_,?_,?_,?_,?_,by rw[List.length_append,lm];rfl,fun l hl=>?_,fun r hr=>?_⟩
   ·rw[List.length_map];omega
   ·exact KB.wI ((k8.trans kb).trans sD.kb) IT
   ·exact(t8.trans (tb.trans sD.kt)).trans ktM
   ·exact(db.same sD).upd nM
   ·rw[af,List.map_append];rfl
   ·rw[List.map_append]
    exact gj (((EF.keep tb).keep sD.kt).keep ktM) (.cons (ktM _ _ af) .nil)
   ·rcases List.mem_append.mp hl with z | z
    ·exact Jt l z
    ·rw[List.mem_singleton.mp z]
     refine⟨by rw[List.length_cons,lg];omega,fun x hx=>?_⟩
     rcases List.mem_cons.mp hx with w | w
     ·rw[w];exact hg0
     ·exact hgs x w
   ·rw[List.getD_eq_getElem?_getD (l:=mv++[g0::gs])]
    by_cases z:r<i
    ·rw[List.getElem?_append_left (by omega),←List.getD_eq_getElem?_getD];exact EG r z
    ·have:r=i:=by omega
     subst this
     rw[List.getElem?_append_right (by omega),lm,Nat.sub_self]
     show bs.getD g0 false=bs.getD r false
     rw[L3,List.getD_eq_getElem?_getD,Ju];rfl
  rintro σ H8 ⟨ps,mv,v11,oN,oO,jD,rfl,k8,t8,d8,m8,EF,lm,Jt,EG⟩
  rw[Int.toNat_natCast] at lm EG
  refine⟨_,rfl,_,rfl,_,rfl,M,_,rfl,.inl ⟨.of m8,fun V' hV=>?_⟩⟩
  have sV:=Same.new (o:=.tup (ps.map V.ref)) hV
  refine⟨by show 3≤sizeLine;decide,fun ma hma=>?_⟩
  have L7:=Same.new (o:=.tup [.ref nm,.ref Y,.ref V']) hma
  have sA:=sV.trans L7
  exact k ma nm ss bs mv _ (bT.lo (d8.same sV) (k8.trans sV.kb) hma) (k8.trans sA.kb) (d8.same sA) (sA _ _ (t8 _ _ e7)) EE ⟨Y,V',ps,af,sA _ _ (t8 _ _ y7),L7 _ _ af,EF.keep sA.kt⟩ (by rw[lb];exact⟨lm,Jt⟩) (by omega) (by omega) (by rw[lb];exact EG)
def cg (b n:Nat):List Int:=if h:n=0∨b<2 then [] else((n % b:Nat):Int)::cg b (n / b)
termination_by n
decreasing_by exact Nat.div_lt_self (by omega) (by omega)
theorem fL (b:Nat):cg b 0=[]:=by rw[cg,dif_pos (.inl rfl)]
theorem ik {b n:Nat} (hb:2≤b) (hn:0<n):cg b n=((n % b:Nat):Int)::cg b (n / b):=by rw[cg,dif_neg (by omega)]
theorem pF {b:Nat} (hb:2≤b):∀(L n:Nat),n<2 ^ L→(cg b n).length≤L
 | 0,n,h=>by
  have:n=0:=by simpa using h
  subst this;rw[fL];simp
 | L+1,n,h=>by
  by_cases hn:n=0
  ·subst hn;rw[fL];simp
  ·rw[ik hb (by omega),List.length_cons]
   refine Nat.succ_le_succ (pF hb L _ ?_)
   rw[Nat.div_lt_iff_lt_mul (by omega)]
   refine Nat.lt_of_lt_of_le h ?_
   rw[Nat.pow_succ]
   exact Nat.mul_le_mul_left _ hb
def B3:Sp:=fun vs H Q _=>∃(b n:Nat),vs=[.int b,.int n]∧2≤b∧b≤1000∧n<2 ^ 20000∧∀(D:Addr) (H':Hp),H D=none→Same H H'→H' D=some (.lst ((cg b n).map V.int))→Q (.ref D) H'
theorem B4 {b:Nat} (h:b≤1000):(b:Int).natAbs.log2<9000:=by
 rw[Int.natAbs_natCast]
 by_cases hb:b=0
 ·subst hb;decide
 ·rw[Nat.log2_lt hb]
  refine Nat.lt_of_le_of_lt h ?_
  refine Nat.lt_of_lt_of_le (show 1000<2 ^ 10 by decide) (Nat.pow_le_pow_right (by decide) (by decide))
theorem iS:aW ["base","number","figures"] ["base","number"] (ak eK):=⟨rfl,rfl,rfl,by decide+kernel,rfl,by decide+kernel,by decide+kernel⟩
theorem t7 {a:eY} (T:Txt K mg a):bD P w K mg base cE 1 a.gM a.iK ["base","number"] B3:=by
 refine T.vz.ok iS (fun vs H Q E h=>?_) (fun cdv A outer s H vs Q E hr h=>?_)
 ·obtain⟨b,n,rfl,_⟩:=h
  rfl
 ·obtain⟨b,n,rfl,hb2,hb9,hn,k⟩:=h
  refine⟨_,(ah (av (i:=2) iS.nd rfl (Or.inl rfl) (cq ag))
  (ah (kP PassesOwn.never (br pK (pv 1) ao (bQ _))
   (ah (bR (cL PySem.F.plainAttrs_list PySem.F.slot_list_append PySem.F.type_list_append bS (pv 2) (ae (aO hU (pv 1) (pv 0)) ag)))
   (au (av (i:=1) iS.nd rfl (Or.inl rfl) (aO oU (pv 1) (pv 0))))))
  (au (aY (pv 2))))),?_⟩
  refine⟨by decide,fun D hD=>?_⟩
  have hlen:(cg b n).length≤20000:=pF hb2 20000 n hn
  refine Cn (fun σ H'=>∃(m:Nat) (pre:List Int),σ=[some (.int b),some (.int m),some (.ref D)]∧Same H H'∧H' D=some (.lst (pre.map V.int))∧pre++cg b m=cg b n)
   (fun σ _=>match σ with | [_,some (.int m),_]=>m.toNat | _=>0) ⟨n,[],rfl,Same.new hD,af,rfl⟩ ?_ ?_
  ·rintro σ H1 ⟨m,pre,rfl,s1,e1,hp⟩
   refine⟨_,rfl,_,_,rfl,rfl,_,rfl,?_⟩
   refine fW (fun hm=>?_) (fun hm=>?_)
   ·have hm':0<m:=by have:=of_decide_eq_true hm;omega
    have hpl:pre.length≤20000:=by rw[←hp,List.length_append] at hlen;omega
    refine⟨_,rfl,.inl ⟨rfl,_,.of e1⟩,_,rfl,_,rfl,_,_,rfl,rfl,cpos (by omega),D,_,_,rfl,rfl,e1,?_,?_⟩
    ·rw[List.length_map];exact Nat.lt_of_le_of_lt hpl (by decide)
    refine⟨_,rfl,_,rfl,_,_,rfl,rfl,⟨by omega,B4 hb9⟩,⟨m / b,pre++[((m % b:Nat):Int)],?_,s1.kbn hD KB.write,?_,?_⟩,?_⟩
    ·rw[Int.natCast_ediv];rfl
    ·rw[af,List.map_append,Int.natCast_emod];rfl
    ·rw[List.append_assoc,←hp,ik hb2 hm'];rfl
    ·show((m:Int) / (b:Int)).toNat<(m:Int).toNat
     rw[←Int.natCast_ediv,Int.toNat_natCast,Int.toNat_natCast]
     exact Nat.div_lt_self hm' (by omega)
   ·have hm':m=0:=by
     by_cases z:m=0
     ·exact z
     ·exact absurd (decide_eq_true (show(0:Int)<(m:Int) by omega)) hm
    subst hm'
    rw[fL,List.append_nil] at hp
    subst hp
    exact⟨_,rfl,k D H1 hD s1 e1⟩
  ·rintro σ H1 Q1 Q2 hQ ⟨v,e,i,j,e1,e2,c,e3,q⟩
   exact⟨v,e,i,j,e1,e2,c,e3,hQ _ _ q⟩
def lst (b:Nat) (acc:Nat) (ds:List Nat):Nat:=ds.foldl (fun l d=>l*b+d) acc
theorem Dz (b acc d:Nat) (ds:List Nat):lst b acc (d::ds)=lst b (acc*b+d) ds:=rfl
theorem B5 {b:Nat}:∀(ds:List Nat) (k acc:Nat),(∀d∈ds,d<b)→acc<b ^ k→lst b acc ds<b ^ (k+ds.length)
 | [],k,acc,_,h=>h
 | d::t,k,acc,h,ha=>by
  have hd:d<b:=h d List.mem_cons_self
  rw[Dz,List.length_cons,show k+(t.length+1)=(k+1)+t.length by omega]
  refine B5 t (k+1) _ (fun x hx=>h x (List.mem_cons_of_mem _ hx)) ?_
  rw[Nat.pow_succ]
  have:=Nat.mul_le_mul_right b (show acc+1≤b ^ k from ha)
  rw[Nat.add_mul,Nat.one_mul] at this
  omega
theorem B6 {b:Nat} (hb:2≤b):∀(p n:Nat),(cg b n).getD p 0=((n / b ^ p % b:Nat):Int)
 | 0,n=>by
  by_cases hn:n=0
  ·subst hn;rw[fL];simp
  ·rw[ik hb (by omega),Nat.pow_zero,Nat.div_one];rfl
 | p+1,n=>by
  by_cases hn:n=0
  ·subst hn;rw[fL];simp
  ·rw[ik hb (by omega),List.getD_cons_succ,B6 hb p,Nat.div_div_eq_div_mul,Nat.pow_succ,Nat.mul_comm b]
theorem wL {b:Nat} (hb:2≤b):∀(p n:Nat),p<(cg b n).length↔0<n / b ^ p
 | 0,n=>by
  by_cases hn:n=0
  ·subst hn;rw[fL];simp
  ·rw[ik hb (by omega),Nat.pow_zero,Nat.div_one]
   simp;omega
 | p+1,n=>by
  by_cases hn:n=0
  ·subst hn;rw[fL];simp
  ·rw[ik hb (by omega),List.length_cons,Nat.succ_lt_succ_iff,wL hb p,Nat.div_div_eq_div_mul,Nat.pow_succ,Nat.mul_comm b]
def oP (b:Nat) (ns:List Nat) (p:Nat):Nat:=lst b 0 (ns.map fun n=>n / b ^ p % b)
theorem Jw {b:Nat} (hb:0<b) (ns:List Nat) (p:Nat):oP b ns p<b ^ ns.length:=by
 have:=B5 (b:=b) (ns.map fun n=>n / b ^ p % b) 0 0 (fun d hd=>by
  obtain⟨n,_,rfl⟩:=List.mem_map.mp hd
  exact Nat.mod_lt _ hb) (by simp)
 rw[List.length_map,Nat.zero_add] at this
 exact this
def gf (b:Nat) (ns:List Nat):Nat:=ns.foldr (fun n m=>max (cg b n).length m) 0
theorem wM {b:Nat}:∀{ns:List Nat} {n:Nat},n∈ns→(cg b n).length≤gf b ns
 | m::ns,n,h=>by
  show _≤max (cg b m).length (gf b ns)
  rcases List.mem_cons.mp h with rfl | h
  ·omega
  ·have:=wM (b:=b) h
   omega
theorem rf {b:Nat}:∀{ns:List Nat},ns≠[]→∃n∈ns,(cg b n).length=gf b ns
 | [m],_=>⟨m,List.mem_cons_self,by show _=max (cg b m).length 0;omega⟩
 | m::m'::ns,_=>by
  obtain⟨n,hn,e⟩:=rf (b:=b) (ns:=m'::ns) (by simp)
  have e':gf b (m::m'::ns)=max (cg b m).length (gf b (m'::ns)):=rfl
  rw[e']
  by_cases h:(cg b m).length≤gf b (m'::ns)
  ·exact⟨n,List.mem_cons_of_mem _ hn,by omega⟩
  ·exact⟨m,List.mem_cons_self,by omega⟩
theorem Ga {b:Nat} {ns:List Nat} {m:Int} (hm:m∈ns.map fun n=>((cg b n).length:Int)) (hx:∀x∈ns.map fun n=>((cg b n).length:Int),x≤m):m=gf b ns:=by
 obtain⟨n,hn,rfl⟩:=List.mem_map.mp hm
 have h1:=wM (b:=b) hn
 obtain⟨k,hk,ek⟩:=rf (b:=b) (ns:=ns) (by rintro rfl;cases hn)
 have:=hx _ (List.mem_map.mpr ⟨k,hk,rfl⟩)
 omega
theorem jV {b:Nat} (hb:2≤b) {L:Nat}:∀{ns:List Nat},(∀n∈ns,n<2 ^ L)→gf b ns≤L
 | [],_=>Nat.zero_le _
 | m::ns,h=>by
  show max (cg b m).length (gf b ns)≤L
  have:=jV hb (ns:=ns) fun n hn=>h n (List.mem_cons_of_mem _ hn)
  have:=pF hb L m (h m List.mem_cons_self)
  omega
def gB (H:Hp) (rs:List Addr) (xss:List (List Int)):Prop:=Paired (fun r xs=>H r=some (.lst (xs.map V.int))) rs xss
theorem gB.keep {H H':Hp}:∀{rs:List Addr} {xss:List (List Int)},gB H rs xss→(∀r∈rs,∀o,H r=some o→H' r=some o)→gB H' rs xss
 | _,_,.nil,_=>.nil
 | _,_,.cons a t,k=>.cons (k _ List.mem_cons_self _ a) (gB.keep t fun r hr=>k r (List.mem_cons_of_mem _ hr))
theorem gB.same {H H':Hp} {rs:List Addr} {xss:List (List Int)} (h:gB H rs xss) (s:Same H H'):gB H' rs xss:=h.keep fun r _ o e=>s r o e
theorem gB.but {H:Hp} {o:HO} {C:Addr} {rs:List Addr} {xss:List (List Int)} (h:gB H rs xss) (n:C ∉ rs):gB (upd H C o) rs xss:=h.keep fun r hr u e=>by rw[aq (fun z=>n (by subst z;exact hr))];exact e
theorem gB.get {H:Hp}:∀{rs:List Addr} {xss:List (List Int)} {i:Nat} {r:Addr},gB H rs xss→rs[i]? =some r→∃xs,xss[i]? =some xs∧H r=some (.lst (xs.map V.int))
 | _,_,_,_,.nil,e=>by simp at e
 | _,_,0,_,.cons r _,e=>by simp at e;subst e;exact⟨_,rfl,r⟩
 | _,_,i+1,p,.cons _ t,e=>by
  simp only[List.getElem?_cons_succ] at e ⊢
  exact gB.get t e
theorem B7 {xs ys:List Nat} (h:ai xs=ai ys):xs=ys:=by
 have cc:∀zs:List Nat,(ai zs).map Int.toNat=zs:=fun zs=>by
  induction zs with
  | nil=>rfl
  | cons z zs ih=>show(z:Int).toNat::(ai zs).map Int.toNat=_;rw[ih,Int.toNat_natCast]
 rw[←cc xs,←cc ys,h]
theorem lst_snoc (b acc:Nat) (ds:List Nat) (d:Nat):lst b acc (ds++[d])=lst b acc ds*b+d:=by simp[lst,List.foldl_append]
def Ak (K:PySem.W.Frag):Sp:=fun vs H Q _=>∃(b p:Nat) (a:Addr) (rs:List Addr) (ns:List Nat),vs=[.int b,.ref a,.int p]∧2≤b∧b≤1000∧bJ K H a (rs.map V.ref)∧gB H rs (ns.map (cg b))∧Q (.int (oP b ns p:Nat)) H
def cj (b:Nat) (ns:List Nat):List Nat:=(List.range (gf b ns)).map (oP b ns)
def xW (K:PySem.W.Frag):Sp:=fun vs H Q _=>∃(b:Nat) (a:Addr) (ns:List Nat),vs=[.int b,.ref a]∧2≤b∧b≤1000∧cH K H a ((ai ns).map V.int)∧ns.length≤1000∧(∀n∈ns,n<2 ^ 600)∧
 ∀(D:Addr) (H':Hp),H D=none→Same H H'→H' D=some (.lst ((ai (cj b ns)).map V.int))→Q (.ref D) H'
theorem fM:aW ["base","rows","place","letter","row","figure"] ["base","rows","place"] (ak fm):=⟨rfl,rfl,rfl,by decide+kernel,rfl,by decide+kernel,by decide+kernel⟩
theorem wN {a:eY} (T:Txt K mg a):bD P w K mg base cE 1 a.iw a.js ["base","rows","place"] (Ak K):=by
 refine T.xt.ok fM (fun vs H Q E h=>?_) (fun cdv A outer s H vs Q E hr h=>?_)
 ·obtain⟨b,p,a,rs,ns,rfl,_⟩:=h
  rfl
 ·obtain⟨b,p,a,rs,ns,rfl,hb2,hb9,hS,hL,k⟩:=h
  refine⟨_,(ah (av (i:=3) fM.nd rfl (Or.inl rfl) ao)
  (ah (bF PassesOwn.never rfl (cR (pv 1)) (ax (i:=4) fM.nd rfl (Or.inl rfl))
   (ah (av (i:=5) fM.nd rfl (Or.inl rfl) (uy (br uh (pv 2) (aF (aK K) (by rfl) T.bM bo (ae (pv 4) ag)) (bQ _)) (aH (bq K) (pv 4) (pv 2) (fun _ _=>rfl)) ao))
   (au (av (i:=3) fM.nd rfl (Or.inl rfl) (aO dn (aO f_ (pv 3) (pv 0)) (pv 5))))))
  (au (aY (pv 3))))),?_⟩
  have ll:rs.length=ns.length:=by rw[Paired.length hL,List.length_map]
  refine⟨_,rfl,a,rfl,⟨_,hS⟩,fw (xs:=rs.map V.ref) (fun i σ H'=>∃v4 v5:Option V,σ=[some (.int b),some (.ref a),some (.int p),some (.int (lst b 0 ((ns.take i).map fun n=>n / b ^ p % b):Nat)),v4,v5]∧H'=H)
   ⟨none,none,rfl,rfl⟩ (fun i σ H' _ ⟨_,_,_,e⟩=>e▸hS) ?_ ?_⟩
  ·rintro i x σ H' hx ⟨v4,v5,rfl,rfl⟩
   obtain⟨r,rfl,hr'⟩:=ij hx
   obtain⟨xs,hxs,er⟩:=hL.get hr'
   rw[List.getElem?_map] at hxs
   cases en:ns[i]? with
   | none=>rw[en] at hxs;cases hxs
   | some n=>
    rw[en] at hxs
    have exs:cg b n=xs:=Option.some.inj hxs
    subst exs
    have fin:∀f:Int,f=(cg b n).getD p 0→∃v4 v5:Option V,[some (V.int b),some (.ref a),some (.int p),some (.int ((lst b 0 ((ns.take i).map fun n=>n / b ^ p % b):Nat)*b+f)),some (.ref r),some (.int f)]=[some (.int b),some (.ref a),some (.int p),some (.int (lst b 0 ((ns.take (i+1)).map fun n=>n / b ^ p % b):Nat)),v4,v5]∧H'=H':=fun f ef=>by
     refine⟨some (.ref r),some (.int f),?_,rfl⟩
     rw[take_snoc en,List.map_append,List.map_singleton,lst_snoc,ef,B6 hb2,Int.natCast_add,Int.natCast_mul]
    refine⟨_,rfl,_,rfl,_,_,rfl,.inl ⟨_,.of er,rfl⟩,_,_,rfl,rfl,_,rfl,?_⟩
    refine fW (fun h1=>?_) (fun h1=>?_)
    ·have h2:p<(cg b n).length:=by
      have:=of_decide_eq_true h1
      rw[List.length_map] at this
      omega
     refine⟨_,rfl,_,rfl,r,_,_,_,rfl,rfl,.of er,aA (v:=.int ((cg b n).getD p 0)) ?_,?_⟩
     ·rw[List.getElem?_map,List.getD_eq_getElem?_getD,List.getElem?_eq_getElem h2];rfl
     exact⟨_,rfl,_,rfl,_,_,rfl,rfl,.inr (by constructor<;>omega),_,rfl,_,_,rfl,rfl,fin _ rfl⟩
    ·have h2:¬p<(cg b n).length:=fun z=>h1 (decide_eq_true (by rw[List.length_map];omega))
     refine⟨_,rfl,_,rfl,_,_,rfl,rfl,.inr (by constructor<;>omega),_,rfl,_,_,rfl,rfl,fin 0 ?_⟩
     rw[List.getD_eq_getElem?_getD,List.getElem?_eq_none (by omega)];rfl
  ·rintro σ H' ⟨v4,v5,rfl,rfl⟩
   rw[List.length_map,ll,List.take_length]
   exact⟨_,rfl,k⟩
theorem iT:aW ["base","numbers","rows","places"] ["base","numbers"] (ak cF):=⟨rfl,rfl,rfl,by decide+kernel,rfl,by decide+kernel,by decide+kernel⟩
theorem ua {a:eY} (T:Txt K mg a):bD P w K mg base cE 2 a.gN a.iL ["base","numbers"] (xW K):=by
 have wO:=t7 (P:=P) (w:=w) (base:=base) T
 have xX:=wN (P:=P) (w:=w) (base:=base) T
 refine T.vD.ok iT (fun vs H Q E h=>?_) (fun cdv A outer s H vs Q E hr h=>?_)
 ·obtain⟨b,a,ns,rfl,_⟩:=h
  rfl
 ·obtain⟨b,a,ns,rfl,hb2,hb9,hS,hlen,hn,k⟩:=h
  have ub:aU 1 _:=hr
  have wQ:aU 1 _:=hr
  refine⟨_,(ah (av (i:=2) iT.nd rfl (Or.inr rfl) (cA (aD.mk' (esc:=ak cF) (N:=["base","numbers","rows","places"]) (own:=["number"]) (aJ:=["base"]) (bx:=[0]) rfl rfl (by decide+kernel)) rfl (fZ (pv 1)) (fun _ _ _ _=>(ax (i:=0) (show List.Nodup (["number","base"]:List Str) by decide+kernel) rfl (Or.inl rfl))) (fun _ _ _ _=>bG) (fun _ _ _ _=>(aE wO ub rfl T.vA T.vB T.vC .nil aR (ae (pv 1) (ae (pv 0) ag))))))
  (ah (av (i:=3) iT.nd rfl (Or.inl rfl) (yz K rfl rfl T.Eb (ae (cA (aD.mk' (esc:=ak cF) (N:=["base","numbers","rows","places"]) (own:=["row"]) (aJ:=[]) (bx:=[]) rfl rfl (by decide+kernel)) rfl (cR (pv 2)) (fun _ _ _ _=>(ax (i:=0) (show List.Nodup (["row"]:List Str) by decide+kernel) rfl (Or.inl rfl))) (fun _ _ _ _=>bG) (fun _ _ _ _=>(aF (aK K) (by rfl) T.bM bo (ae (pv 0) ag)))) ag) (yl ao AI)))
  (au (aY (cA (aD.mk' (esc:=ak cF) (N:=["base","numbers","rows","places"]) (own:=["place"]) (aJ:=["base","rows"]) (bx:=[0,2]) rfl rfl (by decide+kernel)) rfl (bE rfl T.bW (ae (pv 3) ag)) (fun _ _ _ _=>(ax (i:=0) (show List.Nodup (["place","base","rows"]:List Str) by decide+kernel) rfl (Or.inl rfl))) (fun _ _ _ _=>bG) (fun _ _ _ _=>(aE xX wQ rfl T.xu T.xv T.xx .nil aR (ae (pv 1) (ae (pv 2) (ae (pv 0) ag)))))))))),?_⟩
  refine⟨_,rfl,a,rfl,⟨_,hS⟩,fun C hC=>?_⟩
  refine g_ (xs:=(ai ns).map V.int) (fun i σ H'=>∃(rs:List Addr) (v:Option V),σ=[v,some (.int b)]∧Same H H'∧H' C=some (.lst (rs.map V.ref))∧C ∉ rs∧gB H' rs ((ns.take i).map (cg b)))
   ⟨[],none,rfl,Same.new hC,af,by simp,.nil⟩ (fun i σ H' _ ⟨_,_,_,s,_⟩=>s.M' hS) ?_ ?_
  ·rintro i x σ H1 hx ⟨rs,v,rfl,s1,eC,nC,L1⟩
   obtain⟨n,rfl,en⟩:=cV hx
   refine⟨_,rfl,_,rfl,b,n,rfl,hb2,hb9,Nat.lt_of_lt_of_le (hn n (List.mem_of_getElem? en)) (Nat.pow_le_pow_right (by decide) (by decide)),fun D H2 hD s2 eD=>?_⟩
   have lrs:rs.length≤1000:=by
    rw[Paired.length L1,List.length_map,List.length_take];omega
   have Sh:=s2 _ _ eC
   refine⟨_,Sh,?_,rs++[D],_,rfl,(s1.trans s2).kbn hC KB.write,by rw[af,List.map_append];rfl,?_,?_⟩
   ·rw[List.length_map];exact Nat.lt_of_le_of_lt lrs (by decide)
   ·intro z
    rcases List.mem_append.mp z with z | z
    ·exact nC z
    ·have:C=D:=by simpa using z
     exact(aj eC hD) this
   ·rw[take_snoc en,List.map_append]
    refine gj ((L1.same s2).but nC) (.cons ?_ .nil)
    rw[aq (aj eC hD).symm]
    exact eD
  ·rintro σ H1 ⟨rs,v,rfl,s1,eC,nC,L1⟩
   rw[List.length_map,aw,List.take_length] at L1
   have lrs:rs.length=ns.length:=by rw[Paired.length L1,List.length_map]
   refine⟨_,rfl,C,rfl,⟨_,.of eC⟩,fun E hE=>?_⟩
   have nE:E ∉ rs:=fun z=>by
    obtain⟨i,hi⟩:=List.getElem?_of_mem z
    obtain⟨xs,_,e⟩:=L1.get hi
    rw[hE] at e;cases e
   have U1:=aj eC hE
   refine gC (xs:=rs.map V.ref) (fun i σ H'=>∃v:Option V,σ=[v]∧Same H1 H'∧H' E=some (.lst (((ns.take i).map fun n=>((cg b n).length:Int)).map V.int)))
    ⟨none,rfl,Same.new hE,af⟩ (fun i σ H' _ ⟨_,_,s,_⟩=>.of (s _ _ eC)) ?_ ?_
   ·rintro i x σ H2 hx ⟨v,rfl,s2,eE⟩
    obtain⟨r,rfl,hr'⟩:=ij hx
    obtain⟨xs,hxs,er⟩:=L1.get hr'
    rw[List.getElem?_map] at hxs
    cases en:ns[i]? with
    | none=>rw[en] at hxs;cases hxs
    | some n=>
     rw[en] at hxs
     have exs:cg b n=xs:=Option.some.inj hxs
     subst exs
     refine⟨_,rfl,_,_,rfl,.inl ⟨_,.of (s2 _ _ er),rfl⟩,_,eE,?_,_,rfl,s2.kbn hE KB.write,?_⟩
     ·rw[List.length_map,List.length_map,List.length_take]
      exact Nat.lt_of_le_of_lt (show min i ns.length≤1000 by omega) (by decide)
     ·rw[af,take_snoc en,List.map_append,List.map_append,List.length_map];rfl
   ·rintro σ H2 ⟨v,rfl,s2,eE⟩
    rw[List.length_map,lrs,List.take_length] at eE
    have pl:gf b ns≤600:=jV hb2 hn
    have go:∃v:V,v=.int (gf b ns:Nat)∧True:=⟨_,rfl,trivial⟩
    refine⟨E,_,_,rfl,rfl,.of eE,fun z=>?e0,fun m hm hx=>?e1⟩
    case e0=>
     have z':ns=[]:=by simpa using z
     have zp:gf b ns=0:=by rw[z'];rfl
     refine⟨_,rfl,(0:Int),rfl,by decide,by decide,fun F hF=>?_⟩
     refine dM (fun i σ H'=>Same H2 H'∧H' F=some (.lst [])) ⟨Same.new hF,af⟩ (fun i σ H' hi _=>absurd hi (by simp)) ?_
     rintro σ H3 ⟨s3,eF⟩
     refine k F H3 ((s1.trans s2).free hF) ((s1.trans s2).trans s3) ?_
     rw[eF,cj,zp];rfl
    case e1=>
     have em:m=gf b ns:=Ga hm hx
     subst em
     refine⟨_,rfl,_,rfl,by omega,by omega,fun F hF=>?_⟩
     have U2:C≠F:=aj (s2 _ _ eC) hF
     refine dM (fun i σ H'=>∃v:Option V,σ=[v,some (.int b),some (.ref C)]∧Same H2 H'∧H' F=some (.lst ((ai ((List.range i).map (oP b ns))).map V.int))) ⟨none,rfl,Same.new hF,af⟩ ?_ ?_
     ·rintro i σ H3 hi ⟨v,rfl,s3,eF⟩
      rw[Int.toNat_natCast] at hi
      have e0:(0:Int)+(i:Int)=(i:Nat):=by omega
      refine⟨_,rfl,_,rfl,_,rfl,b,i,C,rs,ns,by rw[e0];rfl,hb2,hb9,.of (s3 _ _ (s2 _ _ eC)),L1.same (s2.trans s3),_,eF,?_,_,rfl,s3.kbn hF KB.write,?_⟩
      ·rw[List.length_map,aw,List.length_map,List.length_range];exact Nat.lt_of_lt_of_le (show i<1000 by omega) (by decide)
      ·rw[af,List.range_succ,List.map_append,aS,List.map_append];rfl
     ·rintro σ H3 ⟨v,rfl,s3,eF⟩
      rw[Int.toNat_natCast] at eF
      exact k F H3 ((s1.trans s2).free hF) ((s1.trans s2).trans s3) eF
theorem B8 {b i:Nat} (hb:2≤b) {ns:List Nat} (h:∀n∈ns,n / b ^ i=0):gf b ns≤i:=by
 by_cases e:ns=[]
 ·subst e;exact Nat.zero_le _
 ·obtain⟨n,hn,en⟩:=rf (b:=b) e
  rw[←en]
  rcases Nat.lt_or_ge i (cg b n).length with z | z
  ·have:=(wL hb i n).mp z
   have:=h n hn
   omega
  ·exact z
def EJ:Sp:=fun vs H Q _=>∃(va sa:Addr) (ps:List Addr) (mv:List (List Nat)) (n B:Nat) (w:List Nat),vs=[.ref va,.int 0,.ref sa]∧H va=some (.tup (ps.map V.ref))∧fB H ps (mv.map ai)∧Moves n B mv∧0<n∧H sa=some (.lst ((ai w).map V.int))∧bU B w∧Q (.int (run mv 0 w:Nat)) H
def Jx:Sp:=fun vs H Q _=>∃(b:Nat) (na:Addr) (ns:List Nat),vs=[.int b,.ref na]∧2≤b∧b≤4∧H na=some (.tup ((ai ns).map V.int))∧ns.length≤3∧(∀n∈ns,n<2 ^ 600)∧
 ∀(D:Addr) (H':Hp),H D=none→Same H H'→H' D=some (.lst ((ai (cj b ns)).map V.int))→Q (.ref D) H'
theorem pG:aW ["_law_moves","_law_room","_law_some","_law_letter"] ["_law_moves","_law_room","_law_some"] (ak i8):=⟨rfl,rfl,rfl,by decide+kernel,rfl,by decide+kernel,by decide+kernel⟩
theorem DA {a:eY} (T:Txt K mg a):bD P w K mg base cE 1 a.og a.pj ["_law_moves","_law_room","_law_some"] EJ:=by
 refine T.FN.ok pG (fun vs H Q E h=>?_) (fun cdv A outer s H vs Q E hr h=>?_)
 ·obtain⟨va,sa,ps,mv,n,B,w,rfl,_⟩:=h
  rfl
 ·obtain⟨va,sa,ps,mv,n,B,w,rfl,e3,tp,mo,h0,B9,hw,k⟩:=h
  refine⟨_,(ah (bF PassesOwn.never rfl (cR (pv 2)) (ax (i:=3) pG.nd rfl (Or.inl rfl))
   (au (av (i:=1) pG.nd rfl (Or.inl rfl) (aH (aM K) (aH (aM K) (pv 0) (pv 1) (fun _ _=>rfl)) (pv 3) (fun _ _=>rfl)))))
  (au (aY (pv 1)))),?_⟩
  refine⟨_,rfl,sa,rfl,⟨_,.of B9⟩,fw (xs:=(ai w).map V.int) (fun j σ H'=>∃v3:Option V,σ=[some (.ref va),some (.int (run mv 0 (w.take j):Nat)),some (.ref sa),v3]∧H'=H)
   ⟨none,rfl,rfl⟩ (fun j σ H' _ ⟨_,_,e⟩=>by rw[e];exact .of B9) ?_ ?_⟩
  ·rintro j x σ H' hx ⟨v3,rfl,rfl⟩
   obtain⟨c,rfl,ec⟩:=cV hx
   have hc:c<B:=hw c (List.mem_of_getElem? ec)
   have hrn:run mv 0 (w.take j)<n:=mo.run h0 fun x hx=>hw x (List.mem_of_mem_take hx)
   obtain⟨r1,r2,r3⟩:=mo.row tp hrn
   have e:run mv 0 (w.take (j+1))=stp mv (run mv 0 (w.take j)) c:=by rw[take_snoc ec,kI];rfl
   refine⟨_,rfl,_,rfl,va,_,_,_,rfl,rfl,.of e3,aA (by rw[List.getElem?_map,r1];rfl),_,rfl,_,_,_,.int (stp mv (run mv 0 (w.take j)) c:Nat),rfl,rfl,.of r2,aA (cN (by rw[r3];exact hc)),some (.int (c:Nat)),?_,rfl⟩
   rw[e];rfl
  ·rintro σ H' ⟨v3,rfl,rfl⟩
   rw[List.length_map,aw,List.take_length]
   exact⟨_,rfl,k⟩
theorem iU:aW ["moves","room","figures","figure"] ["moves","room","figures"] (ak eL):=⟨rfl,rfl,rfl,by decide+kernel,rfl,by decide+kernel,by decide+kernel⟩
theorem uc {a:eY} (T:Txt K mg a):bD P w K mg base cE 1 a.gO a.iM ["moves","room","figures"] EJ:=by
 refine T.vH.ok iU (fun vs H Q E h=>?_) (fun cdv A outer s H vs Q E hr h=>?_)
 ·obtain⟨va,sa,ps,mv,n,B,w,rfl,_⟩:=h
  rfl
 ·obtain⟨va,sa,ps,mv,n,B,w,rfl,e3,tp,mo,h0,B9,hw,k⟩:=h
  refine⟨_,(ah (bF PassesOwn.never rfl (cR (pv 2)) (ax (i:=3) iU.nd rfl (Or.inl rfl))
   (au (av (i:=1) iU.nd rfl (Or.inl rfl) (aH (aM K) (aH (aM K) (pv 0) (pv 1) (fun _ _=>rfl)) (pv 3) (fun _ _=>rfl)))))
  (au (aY (pv 1)))),?_⟩
  refine⟨_,rfl,sa,rfl,⟨_,.of B9⟩,fw (xs:=(ai w).map V.int) (fun j σ H'=>∃v3:Option V,σ=[some (.ref va),some (.int (run mv 0 (w.take j):Nat)),some (.ref sa),v3]∧H'=H)
   ⟨none,rfl,rfl⟩ (fun j σ H' _ ⟨_,_,e⟩=>by rw[e];exact .of B9) ?_ ?_⟩
  ·rintro j x σ H' hx ⟨v3,rfl,rfl⟩
   obtain⟨c,rfl,ec⟩:=cV hx
   have hc:c<B:=hw c (List.mem_of_getElem? ec)
   have hrn:run mv 0 (w.take j)<n:=mo.run h0 fun x hx=>hw x (List.mem_of_mem_take hx)
   obtain⟨r1,r2,r3⟩:=mo.row tp hrn
   have e:run mv 0 (w.take (j+1))=stp mv (run mv 0 (w.take j)) c:=by rw[take_snoc ec,kI];rfl
   refine⟨_,rfl,_,rfl,va,_,_,_,rfl,rfl,.of e3,aA (by rw[List.getElem?_map,r1];rfl),_,rfl,_,_,_,.int (stp mv (run mv 0 (w.take j)) c:Nat),rfl,rfl,.of r2,aA (cN (by rw[r3];exact hc)),some (.int (c:Nat)),?_,rfl⟩
   rw[e];rfl
  ·rintro σ H' ⟨v3,rfl,rfl⟩
   rw[List.length_map,aw,List.take_length]
   exact⟨_,rfl,k⟩
theorem dv:aW ["_law_base_here","_law_numbers","_law_found","_law_left","_law_letter","_law_number_here"] ["_law_base_here","_law_numbers"] (ak dZ):=⟨rfl,rfl,rfl,by decide+kernel,rfl,by decide+kernel,by decide+kernel⟩
set_option maxHeartbeats 16000000 in
theorem wR {a:eY} (T:Txt K mg a):bD P w K mg base cE 1 a.iA a.jw ["_law_base_here","_law_numbers"] Jx:=by
 refine T.xM.ok dv (fun vs H Q E h=>?_) (fun cdv A outer s H vs Q E hr h=>?_)
 ·obtain⟨b,na,ns,rfl,_⟩:=h
  rfl
 ·obtain⟨b,na,ns,rfl,hb2,hb,Jy,ln,hns,k⟩:=h
  refine⟨_,(ah (av (i:=2) dv.nd rfl (Or.inl rfl) (cq ag))
  (ah (av (i:=3) dv.nd rfl (Or.inl rfl) (bt (zC K) (by rfl) T.vV qE (ae (pv 1) ag)))
  (ah (kP PassesOwn.never (br pK (yz K rfl rfl T.Eb (ae (pv 3) ag) (yl ao AI)) ao (bQ _))
   (ah (av (i:=4) dv.nd rfl (Or.inl rfl) ao)
   (ah (bF PassesOwn.never rfl (cR (pv 3)) (ax (i:=5) dv.nd rfl (Or.inl rfl))
    (au (av (i:=4) dv.nd rfl (Or.inl rfl) (aO dn (aO f_ (pv 4) (pv 0)) (aO hU (pv 5) (pv 0))))))
   (ah (bR (cL PySem.F.plainAttrs_list PySem.F.slot_list_append PySem.F.type_list_append bS (pv 2) (ae (pv 4) ag)))
   (au (eZ (i:=3) (aD.mk' (esc:=ak dZ) (N:=["_law_base_here","_law_numbers","_law_found","_law_left","_law_letter","_law_number_here"]) (own:=["_law_number_here"]) (aJ:=["_law_base_here"]) (bx:=[0]) rfl rfl (by decide+kernel)) rfl (cR (pv 3)) (fun _ _ _ _=>(ax (i:=0) (show List.Nodup (["_law_number_here","_law_base_here"]:List Str) by decide+kernel) rfl (Or.inl rfl))) (fun _ _ _ _=>bG) (fun _ _ _ _=>(aO oU (pv 0) (pv 1))) dv.nd rfl rfl))))))
  (au (aY (pv 2)))))),?_⟩
  have big:(1000000:Nat)≤sizeLine:=by decide
  have lg:((b:Nat):Int).natAbs.log2<9000:=by
   have:b=2∨b=3∨b=4:=by omega
   rcases this with rfl | rfl | rfl<;>decide
  have pl:gf b ns≤600:=jV hb2 hns
  refine⟨by decide,fun F hF=>?_⟩
  have sF:=Same.new (o:=.lst []) hF
  dsimp only[aC]
  refine⟨_,rfl,na,_,rfl,.inr (.of (sF _ _ Jy)),fun L0 hL0=>?_⟩
  have L8:=Same.new (o:=.lst ((ai ns).map V.int)) hL0
  dsimp only[aC]
  refine cw fun Y hY=>?_
  have Si:ns=ns.map fun n=>n / b ^ 0:=by simp
  refine FF (fun M σ H'=>∃(i:Nat) (L:Addr) (v4 v5:Option V),M=gf b ns-i∧i≤gf b ns∧σ=[some (.int (b:Nat)),some (.ref na),some (.ref F),some (.ref L),v4,v5]∧Same H H'∧L≠F∧H' F=some (.lst ((ai ((List.range i).map (oP b ns))).map V.int))∧H' L=some (.lst ((ai (ns.map fun n=>n / b ^ i)).map V.int)))
   ⟨_,0,L0,none,none,rfl,Nat.zero_le _,rfl,sF.trans L8,(aj (show(upd H F (.lst [])) F=_ from af) hL0).symm,L8 _ _ af,by rw[←Si];exact af⟩ ?_ ?mono
  case mono=>
   intro σ H Q Q' h ⟨v1,e1,a,ns,d,e2,e3,e4,e5,q⟩
   refine⟨v1,e1,a,ns,d,e2,e3,e4,fun z=>?_,fun m' h1 h2=>?_⟩
   ·obtain⟨i,j,g1,g2,x,g3,g4⟩:=e5 z
    exact⟨i,j,g1,g2,x,g3,h _ _ g4⟩
   ·obtain⟨i,j,g1,g2,x,g3,g4⟩:=q m' h1 h2
    exact⟨i,j,g1,g2,x,g3,h _ _ g4⟩
  rintro M σ H1 N hN ⟨i,L,v4,v5,rfl,hi,rfl,s1,Sj,f1,l1⟩
  have NM:∀x∈ai (ns.map fun n=>n / b ^ i),∃n∈ns,x=((n / b ^ i:Nat):Int):=fun x hx=>by
   obtain⟨y,hy,rfl⟩:=List.mem_map.mp hx
   obtain⟨n,hn,rfl⟩:=List.mem_map.mp hy
   exact⟨n,hn,rfl⟩
  have done:(∀n∈ns,n / b ^ i=0)→Y [some (.int (b:Nat)),some (.ref na),some (.ref F),some (.ref L),v4,v5] H1:=fun z=>by
   have e:i=gf b ns:=by have:=B8 hb2 z;omega
   subst hY
   refine⟨_,rfl,k F H1 hF s1 ?_⟩
   rw[f1,e];rfl
  by_cases hz:∀n∈ns,n / b ^ i=0
  ·refine⟨_,rfl,L,ai (ns.map fun n=>n / b ^ i),.int 0,rfl,rfl,.of l1,fun z=>?_,fun mm h1 h2=>?_⟩
   ·exact⟨0,0,rfl,rfl,false,rfl,dR (done hz)⟩
   ·obtain⟨n,hn,rfl⟩:=NM mm h1
    rw[hz n hn]
    exact⟨0,0,rfl,rfl,false,rfl,dR (done hz)⟩
  obtain⟨y,hy,hy0⟩:∃y∈ns,0<y / b ^ i:=Classical.byContradiction fun no=>hz fun n hn=>by
   apply Classical.byContradiction
   intro z
   exact no ⟨n,hn,Nat.pos_of_ne_zero z⟩
  have hlt:i<gf b ns:=Nat.lt_of_lt_of_le ((wL hb2 i y).mpr hy0) (wM hy)
  have ym:((y / b ^ i:Nat):Int)∈ai (ns.map fun n=>n / b ^ i):=List.mem_map.mpr ⟨_,List.mem_map.mpr ⟨y,hy,rfl⟩,rfl⟩
  refine⟨_,rfl,L,ai (ns.map fun n=>n / b ^ i),.int 0,rfl,rfl,.of l1,fun z=>?_,fun mm h1 h2=>?_⟩
  ·rw[z] at ym;cases ym
  have hmm:0<mm:=by
   have:=h2 _ ym
   omega
  refine⟨_,_,rfl,rfl,_,rfl,?_⟩
  rw[show decide (mm>0)=true from decide_eq_true hmm]
  refine mJ ?_
  clear h1 h2 hmm
  have ll:(ns.map fun n=>n / b ^ i).length=ns.length:=List.length_map ..
  refine cw fun Y2 fN=>?_
  dsimp only[qw,tC,aC]
  subst fN
  refine cw fun Y2 fN=>?_
  refine⟨_,rfl,L,rfl,⟨_,.of l1⟩,fw (xs:=(ai (ns.map fun n=>n / b ^ i)).map V.int) (fun j σ H'=>∃v5:Option V,σ=[some (.int (b:Nat)),some (.ref na),some (.ref F),some (.ref L),some (.int (lst b 0 ((ns.map fun n=>n / b ^ i % b).take j):Nat)),v5]∧H'=H1)
   ⟨v5,rfl,rfl⟩ (fun j σ H' _ ⟨_,_,e⟩=>by rw[e];exact .of l1) ?_ ?_⟩
  ·rintro j x σ H' hx ⟨v5,rfl,rfl⟩
   obtain⟨c,rfl,ec⟩:=cV hx
   rw[List.getElem?_map] at ec
   cases hn:ns[j]? with
   | none=>rw[hn] at ec;cases ec
   | some n=>
    rw[hn] at ec
    cases ec
    refine⟨_,rfl,_,rfl,_,_,rfl,rfl,.inr ⟨by omega,by omega⟩,_,rfl,_,rfl,_,_,rfl,rfl,cpos (by omega),_,_,rfl,rfl,some (.int ((n / b ^ i:Nat):Int)),?_,rfl⟩
    show[some (V.int b),some (.ref na),some (.ref F),some (.ref L),some (.int (((lst b 0 ((ns.map fun n=>n / b ^ i % b).take j):Nat):Int)*(b:Int)+((n / b ^ i:Nat):Int) % (b:Int))),_]=_
    rw[take_snoc (show(ns.map fun n=>n / b ^ i % b)[j]? =some (n / b ^ i % b) by rw[List.getElem?_map,hn];rfl),lst_snoc,Int.natCast_add,Int.natCast_mul,←Int.natCast_emod]
    try rfl
  rintro σ H' ⟨U3,rfl,rfl⟩
  rw[List.length_map,aw,ll,List.take_of_length_le (by rw[List.length_map];exact Nat.le_refl _)]
  show Y2 _ _
  subst fN
  refine cw fun Y2 fN=>?_
  refine⟨_,rfl,.inl ⟨rfl,_,.of f1⟩,_,rfl,F,_,_,rfl,rfl,f1,by rw[List.length_map,aw,List.length_map,List.length_range];omega,?_⟩
  have s2:Same H (upd H' F (.lst ((ai ((List.range i).map (oP b ns))).map V.int++[.int (lst b 0 (ns.map fun n=>n / b ^ i % b):Nat)]))):=s1.kbn hF KB.write
  have l2:(upd H' F (.lst ((ai ((List.range i).map (oP b ns))).map V.int++[.int (lst b 0 (ns.map fun n=>n / b ^ i % b):Nat)]))) L=some (.lst ((ai (ns.map fun n=>n / b ^ i)).map V.int)):=by rw[aq Sj];exact l1
  have f2:(upd H' F (.lst ((ai ((List.range i).map (oP b ns))).map V.int++[.int (lst b 0 (ns.map fun n=>n / b ^ i % b):Nat)]))) F=some (.lst ((ai ((List.range (i+1)).map (oP b ns))).map V.int)):=by rw[af,List.range_succ,List.map_append,aS,List.map_append];rfl
  generalize upd H' F (.lst ((ai ((List.range i).map (oP b ns))).map V.int++[.int (lst b 0 (ns.map fun n=>n / b ^ i % b):Nat)]))=H2 at s2 l2 f2 ⊢
  subst fN
  refine⟨_,rfl,L,rfl,⟨_,.of l2⟩,fun L2 hL2=>?_⟩
  refine gC (xs:=(ai (ns.map fun n=>n / b ^ i)).map V.int) (fun j σ H'=>∃v:Option V,σ=[v,some (.int (b:Nat))]∧Same H2 H'∧H' L2=some (.lst ((ai ((ns.map fun n=>n / b ^ (i+1)).take j)).map V.int)))
   ⟨none,?sg,Same.new hL2,af⟩ (fun j σ H' _ ⟨_,_,s',_⟩=>.of (s' _ _ l2)) ?_ ?_
  case sg=>rfl
  ·rintro j x σ H3 hx ⟨v,rfl,s3,l3⟩
   obtain⟨c,rfl,ec⟩:=cV hx
   rw[List.getElem?_map] at ec
   cases hn:ns[j]? with
   | none=>rw[hn] at ec;cases ec
   | some n=>
    rw[hn] at ec
    cases ec
    have hj:=(List.getElem?_eq_some_iff.mp hn).1
    refine⟨_,rfl,_,rfl,_,_,rfl,rfl,⟨by omega,lg⟩,_,l3,?_,_,rfl,s3.kbn hL2 KB.write,?_⟩
    ·rw[List.length_map,aw,List.length_take];omega
    ·rw[af,take_snoc (show(ns.map fun n=>n / b ^ (i+1))[j]? =some (n / b ^ (i+1)) by rw[List.getElem?_map,hn];rfl),aS,List.map_append]
     show some (HO.lst (_++[V.int (((n / b ^ i:Nat):Int) / (b:Int))]))=_
     rw[←Int.natCast_ediv,Nat.div_div_eq_div_mul,←Nat.pow_succ];rfl
  rintro σ H3 ⟨v,rfl,s3,l3⟩
  rw[List.length_map,aw,ll,List.take_of_length_le (by rw[List.length_map];exact Nat.le_refl _)] at l3
  exact hN _ _ (gf b ns-(i+1)) (by omega) ⟨i+1,L2,_,_,rfl,by omega,rfl,s2.trans s3,(aj f2 hL2).symm,s3 _ _ f2,l3⟩
section
variable {n B:Nat} {kd:Nat→Nat→Nat} {nx:Nat→Nat→Nat} {A:Nat→List Nat}
structure Split (n B:Nat) (kd:Nat→Nat→Nat) (nx:Nat→Nat→Nat) (A:Nat→List Nat):Prop where
 step:∀t r s,r<n→s<n→(kd (t+1) r=kd (t+1) s↔kd t r=kd t s∧∀c,c<B→kd t (nx r c)=kd t (nx s c))
 stay:∀r c,r<n→c<B→nx r c<n
 part:∀r s,r<n→s<n→(∀t,kd t r=kd t s)→r=s
 once:∀t,(A t).Nodup
 all:∀t v,v∈A t↔∃r,r<n∧kd t r=v
theorem Split.still (S:Split n B kd nx A) {t:Nat} (h:∀r s,r<n→s<n→kd t r=kd t s→kd (t+1) r=kd (t+1) s):∀k r s,r<n→s<n→kd t r=kd t s→kd (t+k) r=kd (t+k) s
 | 0,_,_,_,_,e=>e
 | k+1,r,s,hr,hs,e=>by
  have e1:=(S.step t r s hr hs).mp (h r s hr hs e)
  exact(S.step (t+k) r s hr hs).mpr ⟨S.still h k r s hr hs e,fun c hc=>S.still h k _ _ (S.stay r c hr hc) (S.stay s c hs hc) (e1.2 c hc)⟩
theorem Split.down (S:Split n B kd nx A) {r s:Nat} (hr:r<n) (hs:s<n):∀{t u:Nat},u≤t→kd t r=kd t s→kd u r=kd u s
 | 0,u,h,e=>by rw[Nat.le_zero.mp h];exact e
 | t+1,u,h,e=>by
  by_cases z:u=t+1
  ·rw[z];exact e
  ·exact S.down hr hs (show u≤t by omega) ((S.step t r s hr hs).mp e).1
theorem Split.parted (S:Split n B kd nx A) {t:Nat} (h:∀r s,r<n→s<n→kd t r=kd t s→kd (t+1) r=kd (t+1) s) {r s:Nat} (hr:r<n) (hs:s<n) (e:kd t r=kd t s):r=s:=
 S.part r s hr hs fun u=>by
  by_cases z:u≤t
  ·exact S.down hr hs z e
  ·have:=S.still h (u-t) r s hr hs e
   rwa [show t+(u-t)=u by omega] at this
theorem j6 {α β:Type} {f:α→β}:∀{l:List α},l.Nodup→(∀x∈l,∀y∈l,f x=f y→x=y)→(l.map f).Nodup
 | [],_,_=>by simp
 | a::l,nd,h=>by
  rw[List.map_cons,List.nodup_cons]
  rw[List.nodup_cons] at nd
  refine⟨fun z=>?_,j6 nd.2 fun x hx y hy=>h x (List.mem_cons_of_mem _ hx) y (List.mem_cons_of_mem _ hy)⟩
  obtain⟨b,hb,e⟩:=List.mem_map.mp z
  have:=h b (List.mem_cons_of_mem _ hb) a List.mem_cons_self e
  rw[this] at hb
  exact nd.1 hb
theorem Split.many (S:Split n B kd nx A) (hn:0<n):∀t,min n (t+1)≤(A t).length
 | 0=>by
  have:kd 0 0∈A 0:=(S.all 0 _).mpr ⟨0,hn,rfl⟩
  have:=List.length_pos_of_mem this
  omega
 | t+1=>by
  have ih:=S.many hn t
  classical
  let h:Nat→Nat:=fun v=>if z:∃r,r<n∧kd (t+1) r=v then kd t z.choose else 0
  have hk:∀r,r<n→h (kd (t+1) r)=kd t r:=fun r hr=>by
   have z:∃r',r'<n∧kd (t+1) r'=kd (t+1) r:=⟨r,hr,rfl⟩
   show(if z:∃r',r'<n∧kd (t+1) r'=kd (t+1) r then kd t z.choose else 0)=_
   rw[dif_pos z]
   exact((S.step t _ _ z.choose_spec.1 hr).mp z.choose_spec.2).1
  by_cases st:∀r s,r<n→s<n→kd t r=kd t s→kd (t+1) r=kd (t+1) s
  ·
   have le:((List.range n).map (kd (t+1))).length≤(A (t+1)).length:=List.Nodup.length_le_of_subset (j6 List.nodup_range fun x hx y hy e=>S.parted st (List.mem_range.mp hx) (List.mem_range.mp hy) (S.down (List.mem_range.mp hx) (List.mem_range.mp hy) (Nat.le_succ t) e)) fun v hv=>by
    obtain⟨r,hr,e⟩:=List.mem_map.mp hv
    exact(S.all _ _).mpr ⟨r,List.mem_range.mp hr,e⟩
   rw[List.length_map,List.length_range] at le
   omega
  ·
   obtain⟨r,s,hr,hs,e,ne⟩:∃r s,r<n∧s<n∧kd t r=kd t s∧kd (t+1) r≠kd (t+1) s:=Classical.byContradiction fun no=>st fun r s hr hs e=>Classical.byContradiction fun ne=>no ⟨r,s,hr,hs,e,ne⟩
   have mr:kd (t+1) r∈A (t+1):=(S.all _ _).mpr ⟨r,hr,rfl⟩
   have ms:kd (t+1) s∈A (t+1):=(S.all _ _).mpr ⟨s,hs,rfl⟩
   have le:(A t).length≤(((A (t+1)).erase (kd (t+1) r)).map h).length:=List.Nodup.length_le_of_subset (S.once t) fun v hv=>by
    obtain⟨x,hx,rfl⟩:=(S.all _ _).mp hv
    by_cases z:kd (t+1) x=kd (t+1) r
    ·refine List.mem_map.mpr ⟨kd (t+1) s,(List.mem_erase_of_ne (Ne.symm ne)).mpr ms,?_⟩
     rw[hk s hs,←e]
     exact(S.down hx hr (Nat.le_succ t) z).symm
    ·exact List.mem_map.mpr ⟨kd (t+1) x,(List.mem_erase_of_ne z).mpr ((S.all _ _).mpr ⟨x,hx,rfl⟩),hk x hx⟩
   rw[List.length_map,List.length_erase_of_mem mr] at le
   have:=List.length_pos_of_mem mr
   omega
end
theorem B' {B:Nat} {bs:List Bool} {mv:List (List Nat)} (c:Can B bs mv) {kd:Nat→Nat→Nat} {A:Nat→List Nat} (h0:∀r s,r<bs.length→s<bs.length→kd 0 r=kd 0 s→bs.getD r false=bs.getD s false)
  (step:∀t r s,r<bs.length→s<bs.length→(kd (t+1) r=kd (t+1) s↔kd t r=kd t s∧∀a,a<B→kd t (stp mv r a)=kd t (stp mv s a))) (once:∀t,(A t).Nodup) (all:∀t v,v∈A t↔∃r,r<bs.length∧kd t r=v):Split bs.length B kd (stp mv) A:=by
 refine⟨step,fun r a hr ha=>c.bf.stp hr ha,fun r s hr hs e=>c.inj r s hr hs ?_,once,all⟩
 have key:∀(w:List Nat) (r s:Nat),r<bs.length→s<bs.length→(∀t,kd t r=kd t s)→bU B w→lang bs mv r w=lang bs mv s w:=by
  intro w
  induction w with
  | nil=>intro r s hr hs e _;exact h0 r s hr hs (e 0)
  | cons a w ih=>
   intro r s hr hs e hw
   have ha:=hw a List.mem_cons_self
   exact ih _ _ (c.bf.stp hr ha) (c.bf.stp hs ha) (fun t=>((step t r s hr hs).mp (e (t+1))).2 a ha) fun x hx=>hw x (List.mem_cons_of_mem _ hx)
 exact fun w hw=>key w r s hr hs e hw
def Jz:Sp:=fun vs H Q _=>∃(b:Nat) (ma na nm:Addr) (bs:List Bool) (mv:List (List Nat)) (ns:List Nat),vs=[.int b,.ref ma,.ref na]∧2≤b∧b≤4∧cJ H ma nm bs mv∧Moves bs.length (b ^ ns.length) mv∧0<bs.length∧H na=some (.tup ((ai ns).map V.int))∧ns.length≤3∧(∀n∈ns,n<2 ^ 600)∧
 ∀H',Same H H'→Q (.bl (lang bs mv 0 (cj b ns).reverse)) H'
theorem tG {b:Nat} (hb:0<b) (ns:List Nat):bU (b ^ ns.length) (cj b ns):=fun f hf=>by
 obtain⟨p,_,rfl⟩:=List.mem_map.mp hf
 exact Jw hb ns p
theorem wU (w:List Nat):((ai w).map V.int).reverse=(ai w.reverse).map V.int:=by simp[ai,List.map_reverse]
theorem ny:aW ["base","machine","numbers","letters"] ["base","machine","numbers"] (ak fq):=⟨rfl,rfl,rfl,by decide+kernel,rfl,by decide+kernel,by decide+kernel⟩
theorem wV {a:eY} (T:Txt K mg a):bD P w K mg base cE 3 a.iy a.ju ["base","machine","numbers"] Jz:=by
 have wW:=ua (P:=P) (w:=w) (base:=base) T
 have wX:=uc (P:=P) (w:=w) (base:=base) T
 refine T.xD.ok ny (fun vs H Q E h=>?_) (fun cdv A outer s H vs Q E hr h=>?_)
 ·obtain⟨b,ma,na,nm,bs,mv,ns,rfl,_⟩:=h
  rfl
 ·obtain⟨b,ma,na,nm,bs,mv,ns,rfl,hb2,hb4,hma,bf,h0,Jy,ln,hns,k⟩:=h
  have ud:aU 2 _:=hr
  have uf:aU 1 _:=hr.mono (by decide)
  refine⟨_,(ah (av (i:=3) ny.nd rfl (Or.inl rfl) (zE K rfl rfl T.vV rfl T.Ae (ae (aE wW ud rfl T.vE T.vF T.vG .nil aR (ae (pv 0) (ae (pv 2) ag))) ag)))
  (au (aY (aH (aM K) (aH (aM K) (pv 1) ao (fun _ _=>rfl)) (aE wX uf rfl T.vI T.vJ T.vK .nil aR (ae (aH (aM K) (pv 1) ao (fun _ _=>rfl)) (ae ao (ae (pv 3) ag)))) (fun _ _=>rfl))))),?_⟩
  obtain⟨ya,va,ps,e1,e2,e3,tp⟩:=hma
  refine⟨_,rfl,_,rfl,b,na,ns,rfl,hb2,by omega,.of Jy,by omega,hns,fun D H1 hD s1 d1=>?_⟩
  refine⟨D,_,rfl,.of d1,fun l hl=>?_⟩
  have s2:=Same.new (o:=.lst ((ai (cj b ns)).map V.int).reverse) hl
  have s:=s1.trans s2
  have el:(upd H1 l (.lst ((ai (cj b ns)).map V.int).reverse)) l=some (.lst ((ai (cj b ns).reverse).map V.int)):=by rw[af,wU]
  generalize upd H1 l (.lst ((ai (cj b ns)).map V.int).reverse)=H2 at s el ⊢
  dsimp only[aC]
  have hw:=(tG (show 0<b by omega) ns).rev
  have hr2:=bf.run h0 hw
  refine⟨_,rfl,ma,_,_,.ref ya,rfl,rfl,.of (s _ _ e1),aA (j:=1) rfl,_,rfl,ma,_,_,.ref va,rfl,rfl,.of (s _ _ e1),aA (j:=2) rfl,_,rfl,va,l,ps,mv,bs.length,_,_,rfl,s _ _ e3,tp.keep s.kt,bf,h0,el,hw,?_⟩
  exact⟨ya,_,_,_,rfl,rfl,.of (s _ _ e2),aA (by rw[List.getElem?_map,item_at false hr2];rfl),k _ s⟩
def Ed (B:Nat) (bs:List Bool) (mv:List (List Nat)) (t r s:Nat):Prop:=∀w,bU B w→w.length≤t→lang bs mv r w=lang bs mv s w
theorem yZ {B:Nat} {bs:List Bool} {mv:List (List Nat)} {t r s:Nat}:Ed B bs mv (t+1) r s↔Ed B bs mv t r s∧∀a,a<B→Ed B bs mv t (stp mv r a) (stp mv s a):=by
 constructor
 ·intro h
  exact⟨fun w hw hl=>h w hw (by omega),fun a ha w hw hl=>h (a::w) (.cons ha hw) (by rw[List.length_cons];omega)⟩
 ·rintro⟨h1,h2⟩ w hw hl
  cases w with
  | nil=>exact h1 [] hw (Nat.zero_le _)
  | cons a w=>exact h2 a (hw a List.mem_cons_self) w (fun x hx=>hw x (List.mem_cons_of_mem _ hx)) (by rw[List.length_cons] at hl;omega)
theorem y_ {B:Nat} {bs:List Bool} {mv:List (List Nat)} {r s:Nat}:Ed B bs mv 0 r s↔bs.getD r false=bs.getD s false:=by
 constructor
 ·intro h;exact h [] (.nil B) (Nat.le_refl _)
 ·intro h w hw hl
  have:w=[]:=List.length_eq_zero_iff.mp (by omega)
  subst this;exact h
theorem Al {B:Nat} {bs:List Bool} {mv:List (List Nat)} (c:Can B bs mv) (t:Nat) {α:Type} {ms:List α} (mk:Nat→α) (hm:∀r,r<bs.length→mk r∈ms) (he:∀r s,r<bs.length→s<bs.length→mk r=mk s→Ed B bs mv t r s):min bs.length (t+1)≤ms.length:=by
 classical
 let kd:Nat→Nat→Nat:=fun t r=>((List.range bs.length).find? fun s=>decide (Ed B bs mv t r s)).getD 0
 have self:∀t r,Ed B bs mv t r r:=fun t r w _ _=>rfl
 have rep:∀t r,r<bs.length→kd t r<bs.length∧Ed B bs mv t r (kd t r):=fun t r hr=>by
  have:∃s,(List.range bs.length).find? (fun s=>decide (Ed B bs mv t r s))=some s:=by
   have:((List.range bs.length).find? fun s=>decide (Ed B bs mv t r s)).isSome:=List.find?_isSome.mpr ⟨r,List.mem_range.mpr hr,decide_eq_true (self t r)⟩
   exact Option.isSome_iff_exists.mp this
  obtain⟨s,hs⟩:=this
  have e:kd t r=s:=by show(Option.getD _ 0)=s;rw[hs];rfl
  rw[e]
  have h:=List.find?_some hs
  exact⟨List.mem_range.mp (List.mem_of_find?_eq_some hs),of_decide_eq_true h⟩
 have iff:∀t r s,r<bs.length→s<bs.length→(kd t r=kd t s↔Ed B bs mv t r s):=fun t r s hr hs=>by
  constructor
  ·intro e w hw hl
   have h1:=(rep t r hr).2 w hw hl
   have h2:=(rep t s hs).2 w hw hl
   rw[e] at h1
   rw[h1,h2]
  ·intro e
   show Option.getD _ 0=Option.getD _ 0
   congr 2
   funext x
   rw[decide_eq_decide]
   exact⟨fun h w hw hl=>(e w hw hl).symm.trans (h w hw hl),fun h w hw hl=>(e w hw hl).trans (h w hw hl)⟩
 let A:Nat→List Nat:=fun t=>(List.range bs.length).filter fun v=>decide (kd t v=v)
 have L9:∀t,(A t).Nodup:=fun t=>List.nodup_range.filter _
 have Am:∀t v,v∈A t↔∃r,r<bs.length∧kd t r=v:=fun t v=>by
  show v∈List.filter _ _↔_
  rw[List.mem_filter,List.mem_range,decide_eq_true_iff]
  constructor
  ·rintro⟨h,e⟩;exact⟨v,h,e⟩
  ·rintro⟨r,hr,rfl⟩
   exact⟨(rep t r hr).1,((iff t _ _ hr (rep t r hr).1).mpr (rep t r hr).2).symm⟩
 have S:Split bs.length B kd (stp mv) A:=B' c (fun r s hr hs e=>y_.mp ((iff 0 r s hr hs).mp e)) (fun t r s hr hs=>by
  rw[iff (t+1) r s hr hs,iff t r s hr hs,yZ]
  refine and_congr Iff.rfl ⟨fun h a ha=>(iff t _ _ (c.bf.stp hr ha) (c.bf.stp hs ha)).mpr (h a ha),fun h a ha=>(iff t _ _ (c.bf.stp hr ha) (c.bf.stp hs ha)).mp (h a ha)⟩) L9 Am
 refine Nat.le_trans (S.many c.pos t) ?_
 have nd:((A t).map mk).Nodup:=j6 (L9 t) fun x hx y hy e=>by
  obtain⟨r,hr,rfl⟩:=(Am t x).mp hx
  obtain⟨s,hs,rfl⟩:=(Am t y).mp hy
  have h1:=he _ _ (rep t r hr).1 (rep t s hs).1 e
  have h2:=(iff t _ _ hr (rep t r hr).1).mpr (rep t r hr).2
  have h3:=(iff t _ _ hs (rep t s hs).1).mpr (rep t s hs).2
  rw[h2,h3]
  exact(iff t _ _ (rep t r hr).1 (rep t s hs).1).mpr h1
 have:=List.Nodup.length_le_of_subset nd (l₂:=ms) fun v hv=>by
  obtain⟨x,hx,rfl⟩:=List.mem_map.mp hv
  obtain⟨r,hr,rfl⟩:=(Am t x).mp hx
  exact hm _ (rep t r hr).1
 rwa [List.length_map] at this
theorem lX {S:Nat}:∀{l:List Nat} {s:Nat} (k:Nat),bH l s=some S→∃s',bH (l.take k) s=some s'∧s'≤S
 | [],s,k,h=>⟨S,by rw[List.take_nil];exact h,Nat.le_refl _⟩
 | x::l,s,0,h=>⟨s,rfl,lO h⟩
 | x::l,s,k+1,h=>by
  rw[List.take_succ_cons]
  simp only[bH] at h ⊢
  split at h
  ·rename_i c;rw[if_pos c];exact lX k h
  ·rename_i c
   rw[if_neg c]
   split at h
   ·rename_i c2;rw[if_pos c2];exact lX k h
   ·cases h
theorem oQ {S:Nat}:∀{rs:List (List Nat)} {i s:Nat} (k:Nat),cQ rs i s=some S→∃s',cQ (rs.take k) i s=some s'∧s'≤S
 | [],i,s,k,h=>⟨S,by rw[List.take_nil];exact h,Nat.le_refl _⟩
 | r::rs,i,s,0,h=>⟨s,rfl,tj h⟩
 | r::rs,i,s,k+1,h=>by
  simp only[cQ] at h
  rw[List.take_succ_cons]
  simp only[cQ]
  split at h
  ·rename_i c
   rw[if_pos c]
   cases e:bH r s with
   | none=>rw[e] at h;cases h
   | some q=>
    rw[e] at h
    exact oQ k h
  ·cases h
theorem DB (t s:Nat):inV (.int (t:Nat)) ((ai (List.range s)).map V.int)=decide (t<s):=by
 rw[Bool.eq_iff_iff,decide_eq_true_iff]
 unfold inV
 rw[List.any_eq_true]
 constructor
 ·rintro⟨x,hx,e⟩
  obtain⟨y,hy,rfl⟩:=List.mem_map.mp hx
  obtain⟨z,hz,rfl⟩:=List.mem_map.mp hy
  have:decide ((z:Int)=(t:Int))=true:=e
  have:=of_decide_eq_true this
  have:=List.mem_range.mp hz
  omega
 ·intro h
  exact⟨.int (t:Nat),List.mem_map.mpr ⟨_,List.mem_map.mpr ⟨t,List.mem_range.mpr h,rfl⟩,rfl⟩,decide_eq_true rfl⟩
theorem Ca (l:List Nat):((ai l).map V.int).all gi=true:=by
 rw[List.all_eq_true]
 intro x hx
 obtain⟨y,_,rfl⟩:=List.mem_map.mp hx
 rfl
def mkOf (ks:List Nat) (mv:List (List Nat)) (r:Nat):Mark:=(((ks.getD r 0:Nat):Int),ai ((mv.getD r []).map fun g=>ks.getD g 0))
theorem mk_iff {n B:Nat} {mv:List (List Nat)} (m:Moves n B mv) {ks:List Nat} {r s:Nat} (hr:r<n) (hs:s<n):mkOf ks mv r=mkOf ks mv s↔ks.getD r 0=ks.getD s 0∧∀a,a<B→ks.getD (stp mv r a) 0=ks.getD (stp mv s a) 0:=by
 have row:∀{r:Nat},r<n→∀a,((mv.getD r []).map fun g=>ks.getD g 0)[a]? =if a<B then some (ks.getD (stp mv r a) 0) else none:=fun {r} hr a=>by
  have lb:=(m.lead _ (List.mem_of_getElem? (item_at [] (show r<mv.length by rw[m.len];exact hr)))).1
  rw[List.getElem?_map]
  by_cases ha:a<B
  ·rw[if_pos ha,item_at 0 (show a<(mv.getD r []).length by rw[lb];exact ha)];rfl
  ·rw[if_neg ha,List.getElem?_eq_none (by omega)];rfl
 unfold mkOf
 rw[Prod.mk.injEq]
 refine and_congr Int.natCast_inj ⟨fun h a ha=>?_,fun h=>?_⟩
 ·have e:((mv.getD r []).map fun g=>ks.getD g 0)[a]? =((mv.getD s []).map fun g=>ks.getD g 0)[a]? :=by rw[B7 h]
  rw[row hr,row hs,if_pos ha,if_pos ha] at e
  exact Option.some.inj e
 ·congr 1
  refine List.ext_getElem? fun a=>?_
  rw[row hr,row hs]
  by_cases ha:a<B
  ·rw[if_pos ha,if_pos ha,h a ha]
  ·rw[if_neg ha,if_neg ha]
theorem jE {H H':Hp} {v:V} {m:Mark} (k:cm H H') (x:fH H v m):fH H' v m:=by
 obtain⟨p,q,rfl,h1,h2⟩:=x
 exact⟨p,q,rfl,k _ _ h1,k _ _ h2⟩
theorem Gb {H:Hp} {M:Addr} {zs ys:List V} (h:H M=some (.lst zs)):cm H (upd H M (.lst ys)):=fun b xs e=>by
 by_cases z:b=M
 ·subst z;rw[h] at e;cases e
 ·rw[aq z];exact e
theorem nz {α β γ:Type} {R:γ→β→Prop} {f:α→γ}:∀{l:List α} {m:List β},Paired (fun a b=>R (f a) b) l m→Paired R (l.map f) m
 | _,_,.nil=>.nil
 | _,_,.cons h t=>.cons h (nz t)
def Gd:Sp:=fun vs H Q _=>∃(ma nm:Addr) (bs:List Bool) (mv:List (List Nat)) (B:Nat),vs=[.ref ma]∧cJ H ma nm bs mv∧Can B bs mv∧bs.length≤64∧B≤64∧∀H',Same H H'→Q (.bl true) H'
theorem u16 {n c:Nat} (h:n+64<c):n+16<c:=by omega
theorem u8 {n c:Nat} (h:n+64<c):n+8<c:=by omega
theorem cy:aW ["_law_found","_law_names","_law_yes","_law_moves","_law_seen","_law_room","_law_goal","_law_kinds","_law_turn","_law_marks","_law_order"] ["_law_found"] (ak dN):=⟨rfl,rfl,rfl,by decide+kernel,rfl,by decide+kernel,by decide+kernel⟩
set_option maxHeartbeats 16000000 in
theorem An {a:eY} (T:Txt K mg a):bD P w K mg base cE 1 a.jQ a.lJ ["_law_found"] Gd:=by
 refine T.Bv.ok cy (fun vs H Q E h=>?_) (fun cdv A outer s H vs Q E hr h=>?_)
 ·obtain⟨ma,nm,bs,mv,B,rfl,_⟩:=h
  rfl
 ·obtain⟨ma,nm,bs,mv,B,rfl,hma,cn,hn,hB,q⟩:=h
  refine⟨_,(ah (j8 (pv 0) (my rfl (bu (ax (i:=1) cy.nd rfl (Or.inl rfl)) (bu (ax (i:=2) cy.nd rfl (Or.inl rfl)) (bu (ax (i:=3) cy.nd rfl (Or.inl rfl)) fO)))))
  (ah (av (i:=4) cy.nd rfl (Or.inl rfl) (cq (ae ao ag)))
  (ah (bF PassesOwn.never rfl (bE rfl T.bW (ae (aF (aK K) (by rfl) T.bM bo (ae (pv 3) ag)) ag)) (ax (i:=5) cy.nd rfl (Or.inl rfl))
   (ah (dy (br Ki (pv 5) (aF (aK K) (by rfl) T.bM bo (ae (pv 4) ag)) (bQ _))
    (au (aY jH))
    cz)
   (au (bF PassesOwn.never rfl (fZ (aH (aM K) (pv 3) (pv 5) (fun _ _=>rfl))) (ax (i:=6) cy.nd rfl (Or.inl rfl))
    (au (dy (br (A2 K) (pv 6) (pv 4) (by with_unfolding_all rfl))
     (ah (dy (br nK (pv 6) (aF (aK K) (by rfl) T.bM bo (ae (pv 4) ag)) (bQ _))
      (au (aY jH))
      cz)
     (au (bR (cL PySem.F.plainAttrs_list PySem.F.slot_list_append PySem.F.type_list_append bS (pv 4) (ae (pv 6) ag)))))
     cz))))))
  (ah (av (i:=7) cy.nd rfl (Or.inr rfl) (cA (aD.mk' (esc:=ak dN) (N:=["_law_found","_law_names","_law_yes","_law_moves","_law_seen","_law_room","_law_goal","_law_kinds","_law_turn","_law_marks","_law_order"]) (own:=["_law_good"]) (aJ:=[]) (bx:=[]) rfl rfl (by decide+kernel)) rfl (fZ (pv 2)) (fun _ _ _ _=>(ax (i:=0) (show List.Nodup (["_law_good"]:List Str) by decide+kernel) rfl (Or.inl rfl))) (fun _ _ _ _=>bG) (fun _ _ _ _=>(bt rE (by rfl) T.Ec A0 (ae (pv 0) ag)))))
  (ah (bF PassesOwn.never rfl (bE rfl T.bW (ae (aF (aK K) (by rfl) T.bM bo (ae (pv 3) ag)) ag)) (ax (i:=8) cy.nd rfl (Or.inl rfl))
   (ah (eZ (i:=9) (aD.mk' (esc:=ak dN) (N:=["_law_found","_law_names","_law_yes","_law_moves","_law_seen","_law_room","_law_goal","_law_kinds","_law_turn","_law_marks","_law_order"]) (own:=["_law_room","_law_goes"]) (aJ:=["_law_kinds"]) (bx:=[7]) rfl rfl (by decide+kernel)) rfl (jo rfl T.d_ (ae (pv 3) ag)) (fun _ _ _ _=>(ko K (n:=2) rfl (bu (ax (i:=0) (show List.Nodup (["_law_room","_law_goes","_law_kinds"]:List Str) by decide+kernel) rfl (Or.inl rfl)) (bu (ax (i:=1) (show List.Nodup (["_law_room","_law_goes","_law_kinds"]:List Str) by decide+kernel) rfl (Or.inl rfl)) fO)))) (fun _ _ _ _=>bG) (fun _ _ _ _=>(iD (ae (aH (bq K) (pv 2) (pv 0) (fun _ _=>rfl)) (ae (bt (cv K) (by rfl) T.dD cX (ae (cA (aD.mk' (esc:=_) (N:=["_law_room","_law_goes","_law_kinds"]) (own:=["_law_goal"]) (aJ:=["_law_kinds"]) (bx:=[2]) rfl rfl (by rfl)) rfl (FG K (pv 1)) (fun _ _ _ _=>(ax (i:=0) (show List.Nodup (["_law_goal","_law_kinds"]:List Str) by decide+kernel) rfl (Or.inl rfl))) (fun _ _ _ _=>bG) (fun _ _ _ _=>(aH (bq K) (pv 1) (pv 0) (fun _ _=>rfl)))) ag)) ag)))) cy.nd rfl rfl)
   (ah (av (i:=10) cy.nd rfl (Or.inr rfl) (aF (zU rfl (u16 hr.units)) (by rfl) T.pq mM (ae (bt (Br rfl (u16 hr.units)) (by rfl) T.KG G7 (ae (pv 9) ag)) ag)))
   (ah (av (i:=7) cy.nd rfl (Or.inr rfl) (cA (aD.mk' (esc:=ak dN) (N:=["_law_found","_law_names","_law_yes","_law_moves","_law_seen","_law_room","_law_goal","_law_kinds","_law_turn","_law_marks","_law_order"]) (own:=["_law_mark"]) (aJ:=["_law_order"]) (bx:=[10]) rfl rfl (by decide+kernel)) rfl (cR (pv 9)) (fun _ _ _ _=>(ax (i:=0) (show List.Nodup (["_law_mark","_law_order"]:List Str) by decide+kernel) rfl (Or.inl rfl))) (fun _ _ _ _=>bG) (fun _ _ _ _=>(HI K PySem.F.plainAttrs_list PySem.F.slot_list_index PySem.F.type_list_index (zV K (u8 hr.units)) (pv 1) (ae (pv 0) ag)))))
   (au (dy (br nJ (aF (aK K) (by rfl) T.bM bo (ae (pv 10) ag)) (aF (aK K) (by rfl) T.bM bo (ae (pv 3) ag)) (bQ _))
    (au (aY jH))
    cz))))))
  (au (aY jH))))))),?_⟩
  have big:(100000:Nat)≤sizeLine:=by decide
  obtain⟨ya,va,ps,e1,e2,e3,tp⟩:=hma
  have lps:ps.length=bs.length:=by rw[Paired.length tp,List.length_map,cn.bf.len]
  refine⟨_,rfl,ma,_,rfl,.of e1,rfl,_,_,rfl,_,_,rfl,_,_,rfl,rfl,?_⟩
  dsimp only[aC]
  refine cw fun Y hY=>?_
  refine⟨by decide,fun S hS=>?_⟩
  have sS:=Same.new (o:=.lst [.int 0]) hS
  have eS:(upd H S (.lst [.int 0])) S=some (.lst ((ai (List.range 1)).map V.int)):=af
  generalize upd H S (.lst [.int 0])=H1 at sS eS ⊢
  subst hY
  dsimp only[aC]
  refine cw fun Y hY=>?_
  refine⟨_,rfl,.ref va,bs.length,rfl,.inr ⟨_,.of (sS _ _ e3),by rw[List.length_map];exact lps.symm⟩,_,rfl,by omega,by omega,lu (n:=((bs.length:Nat):Int).toNat) (fun i σ H'=>∃(v5 v6:Option V) (s:Nat),σ=[some (.ref ma),some (.ref nm),some (.ref ya),some (.ref va),some (.ref S),v5,v6,none,none,none,none]∧Same H H'∧H' S=some (.lst ((ai (List.range s)).map V.int))∧cQ (mv.take i) 0 1=some s)
   ⟨none,none,1,rfl,sS,eS,rfl⟩ ?_ ?_⟩
  ·rintro i σ H2 N hN hi ⟨v5,v6,s,rfl,s2,l2,g2⟩
   have hi':i<bs.length:=by omega
   rw[show(0:Int)+(i:Int)=((i:Nat):Int) by omega]
   have NP:mv[i]? =some (mv.getD i []):=item_at [] (by rw[cn.bf.len];exact hi')
   obtain⟨s',g3,U4⟩:=oQ (i+1) cn.go
   have L':=g3
   rw[take_snoc NP,lN,g2] at L'
   have g4:(if 0+(mv.take i).length<s then bH (mv.getD i []) s else none)=some s':=L'
   rw[List.length_take,Nat.min_eq_left (by rw[cn.bf.len];omega),Nat.zero_add] at g4
   have his:i<s:=by
    apply Classical.byContradiction
    intro z
    rw[if_neg z] at g4
    cases g4
   rw[if_pos his] at g4
   dsimp only[aC]
   refine cw fun Y2 fN=>?_
   refine⟨_,rfl,_,rfl,.ref S,s,rfl,.inl ⟨_,.of l2,by simp[ai]⟩,_,_,rfl,rfl,_,rfl,?_⟩
   rw[show decide (((s:Nat):Int)≤((i:Nat):Int))=false from decide_eq_false (by omega)]
   refine dR ?_
   show Y2 _ _
   subst fN
   obtain⟨r1,r2,r3⟩:=cn.bf.row (tp.keep s2.kt) hi'
   refine⟨_,rfl,_,rfl,va,_,_,.ref (ps.getD i 0),rfl,rfl,.of (s2 _ _ e3),aA (by rw[List.getElem?_map,r1];rfl),_,rfl,⟨_,.of r2⟩,u9 (xs:=(ai (mv.getD i [])).map V.int) (fun j σ H'=>∃(v6:Option V) (u:Nat),σ=[some (.ref ma),some (.ref nm),some (.ref ya),some (.ref va),some (.ref S),some (.int (i:Nat)),v6,none,none,none,none]∧Same H H'∧H' S=some (.lst ((ai (List.range u)).map V.int))∧bH ((mv.getD i []).take j) s=some u)
    ⟨v6,s,rfl,s2,l2,rfl⟩ (fun j σ H' _ ⟨_,_,_,s',_⟩=>.of (cn.bf.row (tp.keep s'.kt) hi').2.1) ?_ ?_⟩
   ·rintro j x σ H3 N2 Mc hx ⟨v6,u,rfl,s3,l3,g5⟩
    obtain⟨c,rfl,ec⟩:=cV hx
    obtain⟨u',g6,U5⟩:=lX (j+1) g4
    have g7:=g6
    rw[take_snoc ec,iH,g5] at g7
    have g8:(if c<u then some u else if c=u then some (u+1) else none)=some u':=g7
    dsimp only[aC]
    refine⟨_,rfl,_,rfl,S,_,rfl,.inl (.of l3),rfl,Ca _,_,rfl,?_⟩
    rw[if_pos rfl,DB]
    by_cases hc:c<u
    ·rw[if_pos hc] at g8
     cases g8
     rw[decide_eq_true hc]
     refine dR ?_
     exact Mc _ _ ⟨_,u,rfl,s3,l3,g6⟩
    ·rw[if_neg hc] at g8
     have hcu:c=u:=by
      apply Classical.byContradiction
      intro z
      rw[if_neg z] at g8
      cases g8
     rw[if_pos hcu] at g8
     cases g8
     rw[decide_eq_false hc]
     refine mJ ?_
     subst hcu
     refine⟨_,rfl,_,rfl,.ref S,c,rfl,.inl ⟨_,.of l3,by simp[ai]⟩,rfl,_,rfl,?_⟩
     rw[show(!decide (V.int ((c:Nat):Int)=V.int ((c:Nat):Int)))=false by simp]
     refine dR ?_
     refine⟨_,rfl,.inl ⟨rfl,_,.of l3⟩,_,rfl,S,_,_,rfl,rfl,l3,by rw[List.length_map,aw,List.length_range];omega,?_⟩
     refine Mc _ _ ⟨_,c+1,rfl,s3.kbn hS KB.write,?_,g6⟩
     rw[af,List.range_succ,aS,List.map_append];rfl
   ·rintro σ H3 ⟨v6,u,rfl,s3,l3,g5⟩
    rw[List.length_map,aw,List.take_length,g4] at g5
    cases g5
    exact hN _ _ ⟨_,v6,s',rfl,s3,l3,g3⟩
  ·rintro σ H2 ⟨v5,v6,s,rfl,s2,l2,g2⟩
   clear l2 g2 eS sS
   show Y _ _
   subst hY
   refine cw fun Y hY=>?_
   refine⟨_,rfl,ya,rfl,⟨_,.of (s2 _ _ e2)⟩,fun D hD=>?_⟩
   refine g_ (xs:=bs.map V.bl) (fun j σ H'=>∃(v:Option V),σ=[v]∧Same H2 H'∧H' D=some (.lst ((ai ((bs.take j).map fun b=>if b=true then 1 else 0)).map V.int)))
    ⟨none,?sg,Same.new hD,af⟩ (fun j σ H' _ ⟨_,_,s',_⟩=>.of (s' _ _ (s2 _ _ e2))) ?_ ?_
   case sg=>rfl
   ·rintro j y σ H3 hy ⟨v,rfl,s3,l3⟩
    obtain⟨c,rfl,ec⟩:=lL hy
    refine⟨_,rfl,.inr ⟨c,rfl,_,l3,by rw[List.length_map,aw,List.length_map,List.length_take];omega,_,rfl,s3.kbn hD KB.write,?_⟩⟩
    rw[af,take_snoc ec,List.map_append,aS,List.map_append]
    cases c<;>rfl
   rintro σ H3 ⟨v,rfl,s3,l3⟩
   rw[List.length_map,List.take_length] at l3
   have Md:=s2.trans s3
   clear s2 s3 hD
   subst hY
   dsimp only[aC]
   refine cw fun Y hY=>?_
   refine⟨_,rfl,.ref va,bs.length,rfl,.inr ⟨_,.of (Md _ _ e3),by rw[List.length_map];exact lps.symm⟩,_,rfl,by omega,by omega,lu (n:=((bs.length:Nat):Int).toNat) (fun t σ H'=>∃(v8 v9 v10:Option V) (D:Addr) (ks:List Nat),σ=[some (.ref ma),some (.ref nm),some (.ref ya),some (.ref va),some (.ref S),v5,v6,some (.ref D),v8,v9,v10]∧Same H H'∧H' D=some (.lst ((ai ks).map V.int))∧ks.length=bs.length∧(∀r s,r<bs.length→s<bs.length→(ks.getD r 0=ks.getD s 0↔Ed B bs mv t r s))∧(t=0∨t+1<bs.length))
    ⟨none,none,none,D,_,rfl,Md,l3,by rw[List.length_map],fun r s hr hs=>?base,.inl rfl⟩ ?_ ?_⟩
   case base=>
    rw[y_]
    have at_:∀r,r<bs.length→(bs.map fun b=>if b=true then 1 else 0).getD r 0=if bs.getD r false=true then 1 else 0:=fun r hr=>by
     rw[List.getD_eq_getElem?_getD,List.getElem?_map,item_at false hr];rfl
    rw[at_ r hr,at_ s hs]
    cases bs.getD r false<;>cases bs.getD s false<;>simp
   ·rintro t σ H4 N hN ht ⟨v8,v9,v10,D,ks,rfl,s4,l4,lk,ek,_⟩
    dsimp only[aC]
    rw[show(0:Int)+(t:Int)=((t:Nat):Int) by omega]
    refine cw fun Y2 fN=>?_
    refine⟨_,rfl,va,rfl,⟨_,.of (s4 _ _ e3)⟩,fun M hM=>?_⟩
    refine lh (xs:=ps.map V.ref) (fun j σ H'=>∃(v0 v1:Option V) (tH:List Addr),σ=[v0,v1,some (.ref D)]∧Same H4 H'∧H' M=some (.lst (tH.map V.ref))∧Paired (fun a m=>fH H' (.ref a) m) tH ((List.range j).map (mkOf ks mv)))
     ⟨none,none,[],?sg2,Same.new hM,af,.nil⟩ (fun j σ H' _ ⟨_,_,_,_,s',_⟩=>.of (s' _ _ (s4 _ _ e3))) ?_ ?_
    case sg2=>rfl
    ·rintro j y p σ H5 hy ⟨v0,v1,tH,rfl,s5,l5,p5⟩ hp
     obtain⟨pr,rfl,Cb⟩:=ij hy
     have hj:j<bs.length:=by rw[←lps];exact(List.getElem?_eq_some_iff.mp Cb).1
     have sp:=Same.new (o:=.tup [.int (j:Nat),.ref pr]) hp
     have s6:=s5.trans sp
     obtain⟨r1,r2,r3⟩:=cn.bf.row (tp.keep (s4.trans s6).kt) hj
     have DC:ps.getD j 0=pr:=Option.some.inj (r1.symm.trans Cb)
     rw[DC] at r2
     have lm:=dh p5
     rw[List.length_map,List.length_range] at lm
     refine⟨p,_,rfl,.of af,rfl,_,_,rfl,_,_,rfl,rfl,?_⟩
     refine⟨_,rfl,_,rfl,D,_,_,.int (ks.getD j 0:Nat),rfl,rfl,.of (s6 _ _ l4),aA (cN (by omega)),_,rfl,pr,rfl,⟨_,.of r2⟩,fun L hL=>?_⟩
     have l6:=sp _ _ l5
     have k6:cm H5 _:=sp.kt
     generalize upd H5 p (.tup [.int (j:Nat),.ref pr])=H6 at s6 r2 hL l6 k6 ⊢
     refine g_ (xs:=(ai (mv.getD j [])).map V.int) (fun i σ H'=>∃(v:Option V),σ=[v,some (.ref D)]∧Same H6 H'∧H' L=some (.lst ((ai (((mv.getD j []).map fun g=>ks.getD g 0).take i)).map V.int)))
      ⟨none,?BM,Same.new hL,af⟩ (fun i σ H' _ ⟨_,_,s',_⟩=>.of (s' _ _ r2)) ?_ ?_
     case BM=>rfl
     ·rintro i x σ H7 hx ⟨v,rfl,s7,l7⟩
      obtain⟨c,rfl,ec⟩:=cV hx
      have hc:c<bs.length:=(cn.bf.lead _ (List.mem_of_getElem? (item_at [] (show j<mv.length by rw[cn.bf.len];exact hj)))).2 c (List.mem_of_getElem? ec)
      refine⟨_,rfl,_,rfl,D,_,_,.int (ks.getD c 0:Nat),rfl,rfl,.of (s7 _ _ (s6 _ _ l4)),aA (cN (by omega)),_,l7,?_,_,rfl,s7.kbn hL KB.write,?_⟩
      ·rw[List.length_map,aw,List.length_take,List.length_map,r3];omega
      ·rw[af,take_snoc (show((mv.getD j []).map fun g=>ks.getD g 0)[i]? =some (ks.getD c 0) by rw[List.getElem?_map,ec];rfl),aS,List.map_append];rfl
     rintro σ H7 ⟨v,rfl,s7,l7⟩
     rw[List.length_map,aw,List.take_of_length_le (by rw[List.length_map];exact Nat.le_refl _)] at l7
     refine⟨L,_,rfl,.inl ⟨.of l7,fun l hl=>⟨by show 2≤sizeLine;omega,fun m hm=>?_⟩⟩⟩
     have s8:=Same.new (o:=.tup ((ai ((mv.getD j []).map fun g=>ks.getD g 0)).map V.int)) hl
     have s9:=Same.new (o:=.tup [.int (ks.getD j 0:Nat),.ref l]) hm
     have x9:fH (upd (upd H7 l (.tup ((ai ((mv.getD j []).map fun g=>ks.getD g 0)).map V.int))) m (.tup [.int (ks.getD j 0:Nat),.ref l])) (.ref m) (mkOf ks mv j):=⟨m,l,rfl,af,s9 _ _ af⟩
     have EK:=(s7.trans s8).trans s9
     generalize upd (upd H7 l (.tup ((ai ((mv.getD j []).map fun g=>ks.getD g 0)).map V.int))) m (.tup [.int (ks.getD j 0:Nat),.ref l])=H9 at x9 EK ⊢
     have l9:=EK _ _ l6
     have kw:cm H9 (upd H9 M (.lst (tH.map V.ref++[.ref m]))):=Gb l9
     refine⟨_,l9,by rw[List.length_map];omega,_,_,tH++[m],rfl,(s6.trans EK).kbn hM KB.write,by rw[af,List.map_append];rfl,?_⟩
     rw[List.range_succ,List.map_append]
     exact(eX (fun a m x=>jE (fun b xs z=>kw b xs (EK.kt b xs (k6 b xs z))) x) p5).snoc (jE kw x9)
    rintro σ H5 ⟨v0,v1,tH,rfl,s5,l5,p5⟩
    rw[List.length_map,lps] at p5
    show Y2 _ _
    subst fN
    refine cw fun Y2 fN=>?_
    refine⟨_,rfl,M,tH.map V.ref,(List.range bs.length).map (mkOf ks mv),rfl,.of l5,nz p5,by rw[List.length_map,List.length_range];exact hn,fun p as c_ hp pa nd mem=>?_⟩
    have sp:=fun o=>Same.new (H:=H5) (p:=p) (o:=o) hp
    refine⟨p,as,c_,rfl,af,eX (fun a m x=>jE (sp _).kt x) pa,fun o as' ho po=>?_⟩
    refine(fun(K7:∀H7,Same H5 H7→H7 o=some (.lst (as'.map V.ref))→Y2 [some (.ref ma),some (.ref nm),some (.ref ya),some (.ref va),some (.ref S),v5,v6,some (.ref D),some (.int (t:Nat)),some (.ref M),some (.ref o)] H7)=>K7 _ ((sp _).trans (Same.new ho)) af) fun H7 s7 l7=>?_
    obtain⟨ms2,p2,sy⟩:=jN po pa
    have pX:ms2.Nodup:=sy.nodup_iff.mpr nd
    have DD:∀m,m∈ms2↔∃r,r<bs.length∧mkOf ks mv r=m:=fun m=>by
     rw[sy.mem_iff,mem,List.mem_map]
     exact⟨fun⟨r,hr,e⟩=>⟨r,List.mem_range.mp hr,e⟩,fun⟨r,hr,e⟩=>⟨r,List.mem_range.mpr hr,e⟩⟩
    have l2:=dh p2
    obtain⟨f,hf⟩:∃f:Nat→Nat,∀r,r<bs.length→ms2[f r]? =some (mkOf ks mv r):=by
     have:∀r,∃j,r<bs.length→ms2[j]? =some (mkOf ks mv r):=fun r=>by
      by_cases hr:r<bs.length
      ·obtain⟨j,hj⟩:=List.getElem?_of_mem ((DD _).mpr ⟨r,hr,rfl⟩)
       exact⟨j,fun _=>hj⟩
      ·exact⟨0,fun z=>absurd z hr⟩
     exact Classical.axiomOfChoice this
    have one:∀{i j:Nat} {m:Mark},ms2[i]? =some m→ms2[j]? =some m→i=j:=fun h1 h2=>(List.getElem?_inj (List.getElem?_eq_some_iff.mp h1).1 pX).mp (h1.trans h2.symm)
    have Ux:ms2.length≤bs.length:=by
     have:=List.Nodup.length_le_of_subset pX (l₂:=(List.range bs.length).map (mkOf ks mv)) fun m hm=>by
      obtain⟨r,hr,e⟩:=(DD m).mp hm
      exact List.mem_map.mpr ⟨r,List.mem_range.mpr hr,e⟩
     rwa [List.length_map,List.length_range] at this
    have JA:=dh p5
    rw[List.length_map,List.length_range] at JA
    subst fN
    refine cw fun Y2 fN=>?_
    refine⟨_,rfl,M,rfl,⟨_,.of (s7 _ _ l5)⟩,fun D2 hD2=>?_⟩
    refine gC (xs:=tH.map V.ref) (fun j σ H'=>∃v:Option V,σ=[v,some (.ref o)]∧Same H7 H'∧H' D2=some (.lst ((ai (((List.range bs.length).map f).take j)).map V.int)))
     ⟨none,?Sk,Same.new hD2,af⟩ (fun j σ H' _ ⟨_,_,s',_⟩=>.of (s' _ _ (s7 _ _ l5))) ?_ ?_
    case Sk=>rfl
    ·rintro j y σ H8 hy ⟨v,rfl,s8,l8⟩
     obtain⟨b,rfl,eb⟩:=ij hy
     obtain⟨m,em,xm⟩:=fk p5 eb
     have hj:j<bs.length:=by rw[←JA];exact(List.getElem?_eq_some_iff.mp eb).1
     rw[List.getElem?_map,List.getElem?_range hj] at em
     cases em
     have k8:=(s7.trans s8).kt
     refine⟨_,rfl,.inl ⟨rfl,_,.of (s8 _ _ l7)⟩,_,rfl,o,as'.map V.ref,ms2,mkOf ks mv j,.ref b,f j,rfl,rfl,.of (s8 _ _ l7),nz (eX (fun a m x=>jE k8 x) p2),jE k8 xm,hf j hj,fun i hi z=>?_,_,l8,?_,_,rfl,s8.kbn hD2 KB.write,?_⟩
     ·have:=one z (hf j hj);omega
     ·rw[List.length_map,aw,List.length_take];omega
     ·rw[af,take_snoc (show((List.range bs.length).map f)[j]? =some (f j) by rw[List.getElem?_map,List.getElem?_range hj];rfl),aS,List.map_append];rfl
    rintro σ H8 ⟨v,rfl,s8,l8⟩
    rw[List.length_map,JA,List.take_of_length_le (by rw[List.length_map,List.length_range];exact Nat.le_refl _)] at l8
    have JB:=((s4.trans s5).trans s7).trans s8
    subst fN
    dsimp only[aC]
    refine⟨_,rfl,.ref o,as'.length,rfl,.inl ⟨_,.of (s8 _ _ l7),by rw[List.length_map]⟩,_,rfl,.ref va,bs.length,rfl,.inr ⟨_,.of (JB _ _ e3),by rw[List.length_map];exact lps.symm⟩,rfl,_,rfl,?_⟩
    by_cases hl:as'.length=bs.length
    ·rw[show decide (V.int ((as'.length:Nat):Int)=V.int ((bs.length:Nat):Int))=true from decide_eq_true (by rw[hl])]
     refine mJ ?_
     exact q _ JB
    ·rw[show decide (V.int ((as'.length:Nat):Int)=V.int ((bs.length:Nat):Int))=false from decide_eq_false (fun z=>hl (by injection z with z;omega))]
     refine dR ?_
     have ed:∀r s,r<bs.length→s<bs.length→(mkOf ks mv r=mkOf ks mv s↔Ed B bs mv (t+1) r s):=fun r s hr hs=>by
      rw[mk_iff cn.bf hr hs,yZ,ek r s hr hs]
      exact and_congr Iff.rfl ⟨fun h a ha=>(ek _ _ (cn.bf.stp hr ha) (cn.bf.stp hs ha)).mp (h a ha),fun h a ha=>(ek _ _ (cn.bf.stp hr ha) (cn.bf.stp hs ha)).mpr (h a ha)⟩
     have many:=Al cn (t+1) (ms:=ms2) (mkOf ks mv) (fun r hr=>(DD _).mpr ⟨r,hr,rfl⟩) fun r s hr hs e=>(ed r s hr hs).mp e
     have at_:∀r,r<bs.length→((List.range bs.length).map f).getD r 0=f r:=fun r hr=>by rw[List.getD_eq_getElem?_getD,List.getElem?_map,List.getElem?_range hr];rfl
     refine hN _ _ ⟨_,_,_,D2,(List.range bs.length).map f,rfl,JB,l8,by rw[List.length_map,List.length_range],fun r s hr hs=>?_,.inr (by omega)⟩
     rw[at_ r hr,at_ s hs,←ed r s hr hs]
     constructor
     ·intro e
      have h1:=hf r hr
      rw[e,hf s hs] at h1
      exact(Option.some.inj h1).symm
     ·intro e
      exact one (hf r hr) (e▸hf s hs)
   ·rintro σ H4 ⟨v8,v9,v10,D,ks,rfl,s4,l4,lk,ek,z⟩
    have:=cn.pos
    omega
theorem gG {K:PySem.W.Frag} {H:Hp}:∀ss:List Str,aP K H (ss.map V.str) (ss.map Dt.str)
 | []=>k_
 | s::ss=>gD Fq (gG ss)
theorem wY {K:PySem.W.Frag} {H:Hp}:∀ss:List Bool,aP K H (ss.map V.bl) (ss.map Dt.bl)
 | []=>k_
 | s::ss=>gD (by rw[az]) (wY ss)
def qq (l:List Nat):Dt:=.tup ((ai l).map Dt.int)
theorem tI {K:PySem.W.Frag} {H:Hp}:∀{ps:List Addr} {mv:List (List Nat)},fB H ps (mv.map ai)→aP K H (ps.map V.ref) (mv.map qq)
 | [],[],_=>k_
 | _::_,[],h=>nomatch h
 | [],_::_,h=>nomatch h
 | p::ps,l::mv,.cons h t=>gD (fP (.of h) (rV _)) (tI t)
def nF (ss:List Str) (bs:List Bool) (mv:List (List Nat)):Dt:=.tup [.tup (ss.map Dt.str),.tup (bs.map Dt.bl),.tup (mv.map qq)]
theorem jW {α:Type} (f:α→Dt) (h:∀x,(f x).dep=0):∀l:List α,Dt.deps (l.map f)=0
 | []=>by simp[Dt.deps]
 | x::l=>by rw[List.map_cons,Dt.deps,jW f h l,h x];rfl
theorem tJ:∀mv:List (List Nat),Dt.deps (mv.map qq)≤1
 | []=>by simp[Dt.deps]
 | l::mv=>by
  rw[List.map_cons,Dt.deps]
  have:=tJ mv
  have e:(qq l).dep=1:=by rw[qq,Dt.dep,rW]
  omega
theorem DE (ss:List Str) (bs:List Bool) (mv:List (List Nat)):(nF ss bs mv).dep≤40:=by
 have h1:=jW Dt.str (fun _=>by simp[Dt.dep]) ss
 have h2:=jW Dt.bl (fun _=>by simp[Dt.dep]) bs
 have h3:=tJ mv
 simp only[nF,Dt.dep,Dt.deps,h1,h2]
 omega
theorem cJ.dat {K:PySem.W.Frag} {H:Hp} {ma nm:Addr} {ss:List Str} {bs:List Bool} {mv:List (List Nat)} (h:cJ H ma nm bs mv) (e:H nm=some (.tup (ss.map V.str))):az K H (.ref ma) (nF ss bs mv):=by
 obtain⟨ya,va,ps,e1,e2,e3,tp⟩:=h
 exact fP (.of e1) (gD (fP (.of e) (gG ss)) (gD (fP (.of e2) (wY bs)) (gD (fP (.of e3) (tI tp)) k_)))
theorem Ge {H H':Hp} {d e:Addr} (k:mO d e H H') (hd:∃ps,H d=some (.cD ps)) (he:∃ps,H e=some (.cD ps)):cm H H':=fun b xs z=>k _ _ z (fun y=>by
 obtain⟨qs,q⟩:=hd
 rw[y,q] at z;cases z) fun y=>by
 obtain⟨qs,q⟩:=he
 rw[y,q] at z;cases z
theorem il {H H':Hp} {T d:Addr} {L:List (Pos×Str)} (x:Tab H T L) (k:KB d H H') (hd:bT H d):Tab H' T L:=by
 obtain⟨ms,e,_⟩:=hd
 exact x.kb k (fun ps z=>by rw[e] at z;cases z) fun φ z=>by rw[e] at z;cases z
theorem oh {H:Hp} {T:Addr} {L:List (Pos×Str)} (x:Tab H T L):∃ps,H T=some (.cD ps):=let ⟨qs,z,_⟩:=x;⟨qs,z⟩
def uk (K:PySem.W.Frag) (ts:List Addr):Sp:=fun vs H Q _=>∃(a:Addr) (ns:List Int),vs=[.ref a]∧bJ K H a (ns.map V.int)∧ns.length≤63∧nR ts H∧∀H',Q (.bl true) H'
theorem JC {K:PySem.W.Frag}:PySem.W.kitOne K (.type "bool") (.type "bool")=some true:=by rfl
theorem NQ {K:PySem.W.Frag}:PySem.W.kitOne K (.type "tuple") (.type "tuple")=some true:=by rfl
theorem nH {H H':Hp} {d:Addr} (k:KB d H H') (hd:bT H d):cm H H':=fun b xs z=>k _ _ z fun y=>by
 obtain⟨ms,e,_⟩:=hd
 rw[y,e] at z;cases z
theorem Cc (ss:List Str):(Dt.tup (ss.map Dt.str)).dep≤40:=by
 have h1:=jW Dt.str (fun _=>by simp[Dt.dep]) ss
 simp only[Dt.dep,h1]
 omega
theorem tK {n B:Nat} {bs:List Bool} {mv:List (List Nat)} (m:Moves n B mv) (hB:0<B) (hno:∀r,r<n→bs.getD ((mv.getD r []).getD 0 0) false=bs.getD r false):∀(k r:Nat),r<n→lang bs mv r (List.replicate k 0)=bs.getD r false
 | 0,r,_=>rfl
 | k+1,r,hr=>by
  show lang bs mv (stp mv r 0) (List.replicate k 0)=_
  rw[tK m hB hno k _ (m.stp hr hB)]
  exact hno r hr
theorem EL (k:Nat):(List.replicate k ([.int 0]:List V)).flatten=(ai (List.replicate k 0)).map V.int:=by
 induction k with
 | zero=>rfl
 | succ k ih=>rw[List.replicate_succ,List.flatten_cons,ih,List.replicate_succ];rfl
theorem dw:aW ["_law_script","_law_deck_here","_law_base_here","_law_machine_here","_law_names","_law_yes","_law_moves","_law_found","_law_goes","_law_turn","_law_numbers","_law_some","_law_due","_law_told","_law_down"] ["_law_script"] (ak iu):=⟨rfl,rfl,rfl,by decide+kernel,rfl,by decide+kernel,by decide+kernel⟩
set_option maxHeartbeats 32000000 in
theorem JD {a:eY} (T:Txt K mg a) (hB:gI mg base):bD P w K mg base cE 6 a.zW a.Bs ["_law_script"] (uk K [a.bO,a.aZ]):=by
 have DF:=BA (P:=P) (w:=w) (base:=base) T
 have bB:=iG (P:=P) (w:=w) (base:=base) T
 have DG:=BH (P:=P) (w:=w) (base:=base) T
 have Ao:=xQ (P:=P) (w:=w) (base:=base) T
 have xY:=wK (P:=P) (w:=w) (base:=base) T
 have xZ:=wR (P:=P) (w:=w) (base:=base) T
 have y4:=DA (P:=P) (w:=w) (base:=base) T
 have Cd:=An (P:=P) (w:=w) (base:=base) T
 have x4:=wV (P:=P) (w:=w) (base:=base) T
 have rg:=qo (P:=P) (w:=w) (base:=base) T hB
 refine T.KC.ok dw (fun vs H Q E h=>?_) (fun cdv A outer s H vs Q E hr h=>?_)
 ·obtain⟨sa,ns,rfl,_⟩:=h
  rfl
 ·obtain⟨sa,ns,rfl,hS,hns,hO,k⟩:=h
  have Ce:aU 2 _:=hr.mono (by decide)
  have a_:aU 2 _:=hr.mono (by decide)
  have Cf:aU 3 _:=hr.mono (by decide)
  have x5:aU 3 _:=hr.mono (by decide)
  have wZ:aU 4 _:=hr.mono (by decide)
  have w_:aU 1 _:=hr.mono (by decide)
  have w4:aU 1 _:=hr.mono (by decide)
  have Ap:aU 1 _:=hr.mono (by decide)
  have xa:aU 3 _:=hr.mono (by decide)
  have qr:aU 5 _:=hr
  refine⟨_,(ah (av (i:=1) dw.nd rfl (Or.inr rfl) (aE DF Ce rfl T.C9 T.C' T.Dc .nil aR (ae (pv 0) ag)))
  (ah (av (i:=2) dw.nd rfl (Or.inr rfl) (aE DG Cf rfl T.Dg T.Dh T.Dj .nil aR (ae (pv 1) ag)))
  (ah (av (i:=3) dw.nd rfl (Or.inl rfl) (aE xY wZ rfl T.xI T.xJ T.xK .nil aR (ae (pv 1) (ae (pv 2) (ae ao (ae (aE bB a_ rfl T.b_ T.cb T.cf .nil aR (ae (pv 1) (ae ao ag))) ag))))))
  (ah (j8 (pv 3) (my rfl (bu (ax (i:=4) dw.nd rfl (Or.inl rfl)) (bu (ax (i:=5) dw.nd rfl (Or.inl rfl)) (bu (ax (i:=6) dw.nd rfl (Or.inl rfl)) fO)))))
  (ah (av (i:=7) dw.nd rfl (Or.inl rfl) (aE rg qr rfl T.qT T.qU T.qV .nil aR (ae (pv 3) ag)))
  (ah (dy (PW.pt (kO (mq (gZ (aF (mN K) (by rfl) T.jx iJ (ae (pv 7) (ae (qv (v:=.ty "tuple") rfl T.dD cX rfl) ag))) (fun _=>rfl))) (kO (br nK (aF (aK K) (by rfl) T.bM bo (ae (pv 7) ag)) ao (bQ _)) (kO (br (Hk K hr.units) (aH (aM K) (pv 7) ao (fun _ _=>rfl)) (pv 4) (bQ _)) (ux (mq (gZ (aE Cd Ap rfl T.Bw T.Bx T.By .nil aR (ae (pv 7) ag)) (fun _=>rfl))))))))
   (au (aY jH))
   cz)
  (ah (bF PassesOwn.never rfl (fZ (aH (aM K) (pv 7) ao (fun _ _=>rfl))) (ax (i:=8) dw.nd rfl (Or.inl rfl))
   (au (dy (br nK (aF (aK K) (by rfl) T.bM bo (ae (pv 8) ag)) (aF (aK K) (by rfl) T.bM bo (ae (aH (aM K) (pv 6) ao (fun _ _=>rfl)) ag)) (bQ _))
    (au (aY jH))
    cz)))
  (ah (bF PassesOwn.never rfl (bE rfl T.bW (ae ao ag)) (ax (i:=9) dw.nd rfl (Or.inl rfl))
   (ah (av (i:=10) dw.nd rfl (Or.inl rfl) (bt (cv K) (by rfl) T.dD cX (ae (cA (aD.mk' (esc:=ak iu) (N:=["_law_script","_law_deck_here","_law_base_here","_law_machine_here","_law_names","_law_yes","_law_moves","_law_found","_law_goes","_law_turn","_law_numbers","_law_some","_law_due","_law_told","_law_down"]) (own:=["_law_name"]) (aJ:=["_law_deck_here","_law_base_here"]) (bx:=[1,2]) rfl rfl (by decide+kernel)) rfl (fZ (pv 4)) (fun _ _ _ _=>(ax (i:=0) (show List.Nodup (["_law_name","_law_deck_here","_law_base_here"]:List Str) by decide+kernel) rfl (Or.inl rfl))) (fun _ _ _ _=>bG) (fun _ _ _ _=>(aE Ao x5 rfl T.Ab T.Ac T.Ad .nil aR (ae (pv 1) (ae (pv 2) ag))))) ag)))
   (ah (av (i:=11) dw.nd rfl (Or.inl rfl) (aE xZ w_ rfl T.xN T.xO T.xP .nil aR (ae (pv 2) (ae (pv 10) ag))))
   (ah (av (i:=12) dw.nd rfl (Or.inl rfl) (aH (aM K) (pv 5) (aE y4 w4 rfl T.yM T.yN T.yO .nil aR (ae (pv 6) (ae ao (ae (pv 11) ag)))) (fun _ _=>rfl)))
   (ah (av (i:=13) dw.nd rfl (Or.inl rfl) (aE x4 xa rfl T.xE T.xF T.xG .nil aR (ae (pv 2) (ae (pv 7) (ae (pv 10) ag)))))
   (ah (av (i:=14) dw.nd rfl (Or.inl rfl) (aH (aM K) (aH (aM K) (pv 7) ao (fun _ _=>rfl)) (aE y4 w4 rfl T.yM T.yN T.yO .nil aR (ae (aH (aM K) (pv 7) ao (fun _ _=>rfl)) (ae ao (ae (aO GU (aO GV (cq (ae ao ag)) (aE bB a_ rfl T.b_ T.cb T.cf .nil aR (ae (pv 1) (ae ao ag)))) (Fy K (pv 11) i3 i3 (ke (Kh Gz ao)))) ag)))) (fun _ _=>rfl)))
   (au (dy (PW.pt (kO (mq (gZ (aF (mN K) (by rfl) T.jx iJ (ae (pv 13) (ae (qv (v:=.ty "bool") rfl T.vW qF rfl) ag))) (fun _=>rfl))) (kO (br nK (pv 13) (pv 12) (bQ _)) (kO (mq (gZ (aF (mN K) (by rfl) T.jx iJ (ae (pv 14) (ae (qv (v:=.ty "bool") rfl T.vW qF rfl) ag))) (fun _=>rfl))) (ux (br nK (pv 14) (pv 12) (bQ _)))))))
    (au (aY jH))
    cz))))))))
  (au (aY (nO (Hh K hr.units) (pv 3) (iD (ae (pv 4) (ae (pv 5) (ae (pv 6) ag)))) (bQ _)))))))))))),?_⟩
  have big:(100000:Nat)≤sizeLine:=by decide
  have Me:Tab H a.bO lU:=hO.tab (by simp)
  have Mf:Tab H a.aZ qm:=hO.tab (by simp)
  refine cw fun Y hY=>?_
  refine⟨_,rfl,sa,ns,rfl,hS,hns,fun d H1 hd s1 d1=>?_⟩
  have Mg:=Me.same s1
  have EB:=Mf.same s1
  dsimp only[aC]
  subst hY
  refine cw fun Y hY=>?_
  refine⟨_,rfl,d,rfl,d1,fun b H2 hb2 hb4 k2 d2=>?_⟩
  have Mh:=il Mg k2 d1
  have tb2:=il EB k2 d1
  dsimp only[aC]
  subst hY
  refine cw fun Y hY=>?_
  refine⟨_,rfl,_,rfl,_,rfl,d,3,rfl,d2,by decide,fun t H3 t0 t1 k3 d3=>?_⟩
  have Mi:=il Mh k3 d2
  have Mj:=il tb2 k3 d2
  obtain⟨m,rfl⟩:=toN t0
  refine⟨d,b,6,m,rfl,d3,hb2,hb4,by decide,by decide,by omega,fun ma nm ss bs mv H5 hma k5 d5 Ml EE B0 bf h0 h6 hno=>?_⟩
  have EM:=il Mi k5 d3
  have EN:=il Mj k5 d3
  clear Me Mg Mh Mi Mf EB tb2 Mj k2 k3 k5 d1 d2 d3 s1
  have hm2:m≤2:=by omega
  have hB2:b ^ m≤64:=Nat.le_trans (Nat.pow_le_pow_left hb4 _) (Nat.le_trans (Nat.pow_le_pow_right (show 0<4 by decide) (show m≤3 by omega)) (by decide))
  have Mm:0<b ^ m:=Nat.pow_pos (by omega)
  have n1:bs.length≤1000:=by omega
  have tA:=KO bf h0 h6
  obtain⟨ya,va,ps,e1,e2,e3,tp⟩:=id B0
  dsimp only[aC]
  subst hY
  refine cw fun Y hY=>?_
  refine⟨_,rfl,ma,_,rfl,.of e1,rfl,_,_,rfl,_,_,rfl,_,_,rfl,rfl,?_⟩
  dsimp only[aC]
  subst hY
  refine cw fun Y hY=>?_
  refine⟨_,rfl,ma,nm,bs,mv,b ^ m,64,rfl,B0,bf,h0,n1,by omega,EM,EN,tA,by decide,fun p1 dB dQ H7 qi Sl Sn yY qt le1 oM=>?_⟩
  have m6:=Ge qi (oh EM) (oh EN)
  have d7:bT H7 d:=by
   obtain⟨ms,z,z2⟩:=d5
   refine⟨ms,qi _ _ z (fun y=>?_) (fun y=>?_),z2⟩
   ·obtain⟨qs,y2⟩:=oh EM
    rw[←y,z] at y2;cases y2
   ·obtain⟨qs,y2⟩:=oh EN
    rw[←y,z] at y2;cases y2
  have rh:=m6 _ _ Ml
  have yX:=m6 _ _ e1
  have JE:=m6 _ _ e2
  have EO:=m6 _ _ e3
  have oK:=tp.keep m6
  obtain⟨Mn,ER,ps1,f1,f2,f3,ES⟩:=id yY
  clear EM EN Sl Sn qi m6 d5 B0 e1 e2 e3 tp Ml tA
  dsimp only[aC]
  subst hY
  refine cw fun Y hY=>?_
  refine⟨_,rfl,V.ref p1,_,"tuple",true,rfl,fz.tup f1,NQ,true,rfl,dR ?_⟩
  refine⟨_,rfl,.ref p1,3,rfl,.inr ⟨_,.of f1,rfl⟩,rfl,_,rfl,?_⟩
  rw[show(!decide (V.int ((3:Nat):Int)=V.int 3))=false from rfl]
  refine dR ?_
  refine⟨_,rfl,p1,_,_,.ref nm,rfl,rfl,.of f1,aA (j:=0) rfl,_,rfl,?_⟩
  refine⟨?_,.tup (ss.map Dt.str),.tup (ss.map Dt.str),fP (.of rh) (gG ss),fP (.of rh) (gG ss),.inl ⟨_,_,rfl,rfl⟩⟩
  refine⟨.tup (ss.map Dt.str),.tup (ss.map Dt.str),fP (.of rh) (gG ss),fP (.of rh) (gG ss),rfl,rfl,Cc ss,_,rfl,?_⟩
  rw[if_pos rfl,Dt.beq_refl]
  refine dR ?_
  refine⟨_,rfl,p1,nm,dB,dQ,b ^ m,rfl,yY,qt,oM,hB2,fun H8 s8=>⟨true,rfl,dR ?_⟩⟩
  show Y _ _
  subst hY
  refine cw fun Y hY=>?_
  obtain⟨w1,w2,w3⟩:=bf.row oK h0
  refine⟨_,rfl,p1,_,_,.ref ER,rfl,rfl,.of (s8 _ _ f1),aA (j:=2) rfl,ER,rfl,⟨_,.of (s8 _ _ f3)⟩,u9 (xs:=ps1.map V.ref) (fun i σ H'=>∃v8:Option V,σ=[some (.ref sa),some (.ref d),some (.int (b:Nat)),some (.ref ma),some (.ref nm),some (.ref ya),some (.ref va),some (.ref p1),v8,none,none,none,none,none,none]∧H'=H8)
   ⟨none,rfl,rfl⟩ (fun i σ H' _ ⟨_,_,e⟩=>by rw[e];exact .of (s8 _ _ f3)) ?_ ?_⟩
  ·rintro i x σ H9 N hN hx ⟨v8,rfl,rfl⟩
   obtain⟨pr,rfl,Cb⟩:=ij hx
   have hi:i<dB.length:=by
    have:=(List.getElem?_eq_some_iff.mp Cb).1
    rw[Paired.length ES,List.length_map,qt.bf.len] at this
    exact this
   obtain⟨r1,r2,r3⟩:=qt.bf.row (ES.keep s8.kt) hi
   have DC:ps1.getD i 0=pr:=Option.some.inj (r1.symm.trans Cb)
   rw[DC] at r2
   dsimp only[aC]
   refine⟨_,rfl,.ref pr,b ^ m,rfl,.inr ⟨_,.of r2,by rw[List.length_map,aw];exact r3.symm⟩,_,rfl,va,_,_,.ref (ps.getD 0 0),rfl,rfl,.of (s8 _ _ EO),aA (j:=0) (by rw[List.getElem?_map,w1];rfl),.ref (ps.getD 0 0),b ^ m,rfl,.inr ⟨_,.of (s8 _ _ w2),by rw[List.length_map,aw];exact w3.symm⟩,rfl,_,rfl,?_⟩
   rw[show(!decide (V.int ((b ^ m:Nat):Int)=V.int ((b ^ m:Nat):Int)))=false by simp]
   exact dR (hN _ _ ⟨_,rfl,rfl⟩)
  rintro σ H9 ⟨v8,rfl,rfl⟩
  show Y _ _
  subst hY
  refine cw fun Y hY=>?_
  have fin:∀(H':Hp) (v9 v10 v11 oN oO jD:Option V),cm H9 H'→Y [some (.ref sa),some (.ref d),some (.int (b:Nat)),some (.ref ma),some (.ref nm),some (.ref ya),some (.ref va),some (.ref p1),v8,v9,v10,v11,oN,oO,jD] H':=by
   intro H' v9 v10 v11 oN oO jD kt
   subst hY
   refine⟨_,rfl,_,rfl,_,rfl,_,rfl,by show 3≤sizeLine;omega,fun Z hZ=>?_⟩
   have sZ:=Same.new (o:=.tup [.ref nm,.ref ya,.ref va]) hZ
   have kk:=kt.trans sZ.kt
   have g1:cJ (upd H' Z (.tup [.ref nm,.ref ya,.ref va])) ma nm bs mv:=⟨ya,va,ps,kk _ _ (s8 _ _ yX),kk _ _ (s8 _ _ JE),kk _ _ (s8 _ _ EO),(oK.keep s8.kt).keep kk⟩
   have g2:cJ (upd H' Z (.tup [.ref nm,.ref ya,.ref va])) Z nm bs mv:=⟨ya,va,ps,af,kk _ _ (s8 _ _ JE),kk _ _ (s8 _ _ EO),(oK.keep s8.kt).keep kk⟩
   have g3:=kk _ _ (s8 _ _ rh)
   refine⟨nF ss bs mv,nF ss bs mv,g1.dat g3,g2.dat g3,rfl,rfl,DE ss bs mv,?_⟩
   rw[if_neg (by decide),Dt.beq_refl]
   exact k _
  have d9:=d7.same s8
  refine⟨_,rfl,by decide,by decide,lu (n:=(5:Int).toNat) (fun i σ H'=>∃v9 v10 v11 oN oO jD:Option V,σ=[some (.ref sa),some (.ref d),some (.int (b:Nat)),some (.ref ma),some (.ref nm),some (.ref ya),some (.ref va),some (.ref p1),v8,v9,v10,v11,oN,oO,jD]∧bT H' d∧cm H9 H')
   ⟨none,none,none,none,none,none,rfl,d9,fun b xs z=>z⟩ ?_ (fun σ H' ⟨v9,v10,v11,oN,oO,jD,e,_,kt⟩=>by rw[e];exact fin H' _ _ _ _ _ _ kt)⟩
  rintro i σ Ha N hN hi ⟨v9,v10,v11,oN,oO,jD,rfl,da,kta⟩
  dsimp only[aC]
  have DH:=kta _ _ (s8 _ _ rh)
  refine cw fun Y2 fN=>?_
  refine⟨_,rfl,nm,rfl,⟨_,.of DH⟩,fun L hL=>?_⟩
  have nL:=da.ne hL
  have KP:∀n,n<4 ^ 140→n<2 ^ 600:=fun n h=>Nat.lt_of_lt_of_le h (by
   rw[show(4:Nat)=2 ^ 2 from rfl,←Nat.pow_mul]
   exact Nat.pow_le_pow_right (by decide) (by decide))
  refine g_ (xs:=ss.map V.str) (fun j σ H'=>∃(rs:List Nat) (v:Option V),σ=[v,some (.ref d),some (.int (b:Nat))]∧KB d Ha H'∧bT H' d∧H' L=some (.lst ((ai rs).map V.int))∧rs.length=j∧∀n∈rs,n<2 ^ 600)
   ⟨[],none,?sg,fun b o e _=>Same.new hL b o e,da.same (Same.new hL),af,rfl,fun n hn=>(by cases hn)⟩ (fun j σ H' _ ⟨_,_,_,k',_⟩=>.of (nH k' da _ _ DH)) ?_ ?_
  case sg=>rfl
  ·rintro j x σ Hb hx ⟨rs,v,rfl,kb,db,c9,lr,hrs⟩
   have hj:j<ss.length:=by have:=(List.getElem?_eq_some_iff.mp hx).1;rwa [List.length_map] at this
   refine⟨_,rfl,_,rfl,d,b,rfl,db,hb2,hb4,fun q Hx q1 kx dx=>?_⟩
   refine⟨_,kx _ _ c9 nL,?_,rs++[q],_,rfl,fun b o e n=>?_,?_,?_,by rw[List.length_append,lr];rfl,fun n hn=>?_⟩
   ·rw[List.length_map,aw];omega
   ·rw[aq (aj e hL)];exact kx _ _ (kb _ _ e n) n
   ·obtain⟨ms,z,z2⟩:=dx
    exact⟨ms,by rw[aq nL.symm];exact z,z2⟩
   ·rw[af,aS,List.map_append];rfl
   ·rcases List.mem_append.mp hn with z | z
    ·exact hrs n z
    ·rw[List.mem_singleton.mp z];exact KP q q1
  rintro σ Hb ⟨rs,v,rfl,kb,db,c9,lr,hrs⟩
  rw[List.length_map,EE] at lr
  subst lr
  refine⟨L,_,rfl,.inl ⟨.of c9,fun nu hnu=>?_⟩⟩
  have sn:=Same.new (o:=.tup ((ai rs).map V.int)) hnu
  have ktb:=(kta.trans (nH kb da)).trans sn.kt
  have dc:=db.same sn
  have ET:(upd Hb nu (.tup ((ai rs).map V.int))) nu=some (.tup ((ai rs).map V.int)):=af
  generalize upd Hb nu (.tup ((ai rs).map V.int))=Hc at ktb dc ET ⊢
  clear kta da kb db c9 hL nL DH hnu sn
  dsimp only[aC]
  subst fN
  refine cw fun Y2 fN=>?_
  refine⟨_,rfl,_,rfl,b,nu,rs,rfl,hb2,hb4,ET,by omega,hrs,fun so Hd hso sd JF=>?_⟩
  have So:=dc.ne hso
  have y6:=ktb.trans sd.kt
  have dd:=dc.same sd
  have JG:=sd _ _ ET
  have hw:=tG (show 0<b by omega) rs
  have hrun:=bf.run h0 hw
  dsimp only[aC]
  subst fN
  refine cw fun Y2 fN=>?_
  refine⟨_,rfl,_,rfl,_,rfl,va,so,ps,mv,bs.length,b ^ rs.length,cj b rs,rfl,y6 _ _ (s8 _ _ EO),(oK.keep s8.kt).keep y6,bf,h0,JF,hw,ya,_,_,.bl (lang bs mv 0 (cj b rs)),rfl,rfl,.of (y6 _ _ (s8 _ _ JE)),aA (by rw[List.getElem?_map,item_at false hrun];rfl),?_⟩
  dsimp only[aC]
  subst fN
  refine cw fun Y2 fN=>?_
  have JH:cJ Hd p1 nm dB dQ:=(yY.keep s8.kt).keep y6
  refine⟨_,rfl,_,rfl,_,rfl,b,p1,nu,nm,dB,dQ,rs,rfl,hb2,hb4,JH,qt.bf,qt.pos,JG,by omega,hrs,fun He se=>?_⟩
  have Cg:=y6.trans se.kt
  have de:=dd.same se
  have Sq:=se _ _ JF
  have told:lang dB dQ 0 (cj b rs).reverse=lang bs mv 0 (cj b rs):=by
   have:lang dB dQ 0 (cj b rs).reverse=lang bs mv 0 (cj b rs).reverse.reverse:=le1 _ hw.rev
   rw[List.reverse_reverse] at this
   exact this
  rw[told]
  clear y6 dd JG JH JF sd ktb dc ET
  dsimp only[aC]
  subst fN
  refine cw fun Y2 fN=>?_
  have Mp:=Cg _ _ (s8 _ _ f1)
  have U6:=Cg _ _ (s8 _ _ f2)
  have U7:=Cg _ _ (s8 _ _ f3)
  have UD:=(ES.keep s8.kt).keep Cg
  refine⟨_,rfl,p1,_,_,.ref Mn,rfl,rfl,.of Mp,aA (j:=1) rfl,_,rfl,p1,_,_,.ref ER,rfl,rfl,.of Mp,aA (j:=2) rfl,by show 1≤sizeLine;omega,fun Z hZ=>?_⟩
  have sZ:=Same.new (o:=.lst [.int 0]) hZ
  have nZ:=de.ne hZ
  refine⟨_,rfl,d,4,rfl,de.same sZ,by decide,fun r Hf r0 r1 kf df=>?_⟩
  obtain⟨kz,rfl⟩:=toN r0
  have zf:=kf _ _ (show(upd He Z (.lst [.int 0])) Z=_ from af) nZ
  have Sr:=kf _ _ (sZ _ _ Sq) So
  have ktf:=(Cg.trans sZ.kt).trans (nH kf (de.same sZ))
  have ll:(cj b rs).length≤600:=by unfold cj;rw[List.length_map,List.length_range];exact jV hb2 hrs
  refine⟨Z,_,_,rfl,rfl,zf,by omega,by omega,by show 1*_≤_;rw[Int.toNat_natCast];omega,fun Z2 EI=>?_⟩
  have B2:=Same.new (o:=.lst (List.replicate (kz:Int).toNat ([.int 0]:List V)).flatten) EI
  refine⟨_,rfl,_,rfl,_,rfl,so,_,rfl,rfl,rfl,rfl,.of (B2 _ _ Sr),fun Z3 Ss=>?_⟩
  have Mq:=Same.new (o:=.lst ((ai (cj b rs)).map V.int).reverse) Ss
  refine⟨Z2,Z3,_,_,rfl,rfl,Mq _ _ af,af,?ln,fun Z4 Sv=>?_⟩
  case ln=>
   rw[Int.toNat_natCast,EL,List.length_map,aw,List.length_replicate,List.length_reverse,List.length_map,aw]
   omega
  have Sw:=Same.new (o:=.lst ((List.replicate (kz:Int).toNat ([.int 0]:List V)).flatten++((ai (cj b rs)).map V.int).reverse)) Sv
  have sg:=(B2.trans Mq).trans Sw
  have Ci:=ktf.trans sg.kt
  have dg:=df.same sg
  have z4:(upd (upd (upd Hf Z2 (.lst (List.replicate (kz:Int).toNat ([.int 0]:List V)).flatten)) Z3 (.lst ((ai (cj b rs)).map V.int).reverse)) Z4 (.lst ((List.replicate (kz:Int).toNat ([.int 0]:List V)).flatten++((ai (cj b rs)).map V.int).reverse))) Z4=some (.lst ((ai (List.replicate kz 0++(cj b rs).reverse)).map V.int)):=by
   rw[af,Int.toNat_natCast,EL,wU,aS,List.map_append]
  generalize upd (upd (upd Hf Z2 (.lst (List.replicate (kz:Int).toNat ([.int 0]:List V)).flatten)) Z3 (.lst ((ai (cj b rs)).map V.int).reverse)) Z4 (.lst ((List.replicate (kz:Int).toNat ([.int 0]:List V)).flatten++((ai (cj b rs)).map V.int).reverse))=Hg at Ci dg z4 ⊢
  have hw0:bU (b ^ rs.length) (List.replicate kz 0):=fun x hx=>by rw[(List.mem_replicate.mp hx).2];exact Mm
  have hw2:=hw0.app hw.rev
  have down:lang dB dQ 0 (List.replicate kz 0++(cj b rs).reverse)=lang bs mv 0 (cj b rs):=by
   have e:lang dB dQ 0 (List.replicate kz 0++(cj b rs).reverse)=lang bs mv 0 (List.replicate kz 0++(cj b rs).reverse).reverse:=le1 _ hw2
   rw[e,List.reverse_append,List.reverse_reverse,List.reverse_replicate]
   have e2:lang bs mv 0 (cj b rs++List.replicate kz 0)=lang bs mv (run mv 0 (cj b rs)) (List.replicate kz 0):=by unfold lang;rw[kI]
   rw[e2,tK bf Mm hno kz _ hrun];rfl
  have KQ:=qt.bf.run qt.pos hw2
  refine⟨ER,Z4,ps1,dQ,dB.length,b ^ rs.length,_,rfl,Ci _ _ (s8 _ _ f3),(ES.keep s8.kt).keep Ci,qt.bf,qt.pos,z4,hw2,Mn,_,_,.bl (lang dB dQ 0 (List.replicate kz 0++(cj b rs).reverse)),rfl,rfl,.of (Ci _ _ (s8 _ _ f2)),aA (by rw[List.getElem?_map,item_at false KQ];rfl),?_⟩
  rw[down]
  dsimp only[aC]
  subst fN
  have bb:(!decide (V.bl (lang bs mv 0 (cj b rs))=V.bl (lang bs mv 0 (cj b rs))))=false:=by simp
  refine⟨_,rfl,V.bl _,_,"bool",true,rfl,fz.bl _,JC,true,rfl,dR ?_⟩
  refine⟨_,rfl,_,rfl,rfl,_,rfl,?_⟩
  rw[bb]
  refine dR ?_
  refine⟨_,rfl,V.bl _,_,"bool",true,rfl,fz.bl _,JC,true,rfl,dR ?_⟩
  refine⟨_,rfl,_,rfl,rfl,_,rfl,?_⟩
  rw[bb]
  exact dR (hN _ _ ⟨_,_,_,_,_,_,rfl,dg,Ci⟩)
@[elab_as_elim] theorem oM {P:List Value→Prop} (us:List Value) (e:us.length=1) (h:∀a,P [a]):P us:=by
 cases us with
 | nil=>cases e
 | cons a us=>cases us with
  | nil=>exact h a
  | cons _ _=>cases e
@[elab_as_elim] theorem ln2 {P:List Value→Prop} (us:List Value) (e:us.length=2) (h:∀a0 a1,P [a0,a1]):P us:=by
 cases us with
 | nil=>cases e
 | cons a us=>exact oM (P:=fun z=>P (a::z)) us (Nat.succ.inj e) (h a)
@[elab_as_elim] theorem y9 {P:List Value→Prop} (us:List Value) (e:us.length=3) (h:∀a0 a1 a2,P [a0,a1,a2]):P us:=by
 cases us with
 | nil=>cases e
 | cons a us=>exact ln2 (P:=fun z=>P (a::z)) us (Nat.succ.inj e) (h a)
@[elab_as_elim] theorem EU {P:List Value→Prop} (us:List Value) (e:us.length=4) (h:∀a0 a1 a2 a3,P [a0,a1,a2,a3]):P us:=by
 cases us with
 | nil=>cases e
 | cons a us=>exact y9 (P:=fun z=>P (a::z)) us (Nat.succ.inj e) (h a)
@[elab_as_elim] theorem Mr {P:List Value→Prop} (us:List Value) (e:us.length=5) (h:∀a0 a1 a2 a3 a4,P [a0,a1,a2,a3,a4]):P us:=by
 cases us with
 | nil=>cases e
 | cons a us=>exact EU (P:=fun z=>P (a::z)) us (Nat.succ.inj e) (h a)
@[elab_as_elim] theorem U8 {P:List Value→Prop} (us:List Value) (e:us.length=6) (h:∀a0 a1 a2 a3 a4 a5,P [a0,a1,a2,a3,a4,a5]):P us:=by
 cases us with
 | nil=>cases e
 | cons a us=>exact Mr (P:=fun z=>P (a::z)) us (Nat.succ.inj e) (h a)
theorem all_mk {l:PySem.W.OpenLaw} {w:World} {K:PySem.W.Frag} {h:Heap} {mg:Str→Option Value} {fa:Addr} (X:K.In h) (G:h.Ns mainGlobals mg) (hfa:mg "law"=some (.ref fa))
  {f0:Addr} {Sx Sy:Option Addr} {Sz:Array (Option Value)} {SA SD SE SF SG:Value} {Ms:Value}
  {f1:Addr} {SH SJ:Option Addr} {SK:Array (Option Value)} {SM SN SO SQ SS:Value} {Mt:Value}
  {f2:Addr} {SU SV:Option Addr} {sl2:Array (Option Value)} {SW SX SY sy S_:Value} {Mu:Value}
  {f3:Addr} {S0 S4:Option Addr} {S6:Array (Option Value)} {S7 S8 S9 Ta Td:Value} {Mv:Value}
  {f4:Addr} {Te JI:Option Addr} {Tg:Array (Option Value)} {Ti JJ JK JL JM:Value} {Cj:Addr}
  {za Tj:Nat} {NR:Value} {NS:Option Addr} {JN:Tok} {NT:Array (Option Value)}
  {f5:Addr} {Tn To:Option Addr} {Tp:Array (Option Value)} {Tq Tr Ts Tt Tv:Value} {Mw:Value}
  {f6:Addr} {Tw Tx:Option Addr} {Tz:Array (Option Value)} {TB TC TF TH TJ:Value} {Mx:Value}
  {f7:Addr} {TK TL:Option Addr} {TN:Array (Option Value)} {TQ TR TU TV TX:Value} {Mz:Value}
  {f8:Addr} {TY T_:Option Addr} {T5:Array (Option Value)} {T6 T7 T8 T9 Ua:Value} {MA:Value}
  {f9:Addr} {Ub MB:Option Addr} {Uc:Array (Option Value)} {Ud MC ME MF MG:Value} {zb:Addr}
  {tL:Addr} {NU:Option Addr} {pH:Array Value} {NV:Array (Option Value)}
  {EV:Addr} {NW NX:Option Addr} {NY:Array (Option Value)} {NZ N_ N0 N1 N3:Value} {JO:Value}
  {f11:Addr} {N4 N5:Option Addr} {N6:Array (Option Value)} {N7 N8 N9 Oa Ob:Value} {JP:Value}
  {EW:Addr} {Oc JQ:Option Addr} {Od:Array (Option Value)} {Oe JR JS JT JU:Value} {rj:Addr}
  {nI:Addr} {KR:Option Addr} {lY:Array Value} {KU:Array (Option Value)}
  {EX:Addr} {Og Oh:Option Addr} {Oi:Array (Option Value)} {Oj Ol Om Oo Oq:Value} {JV:Value}
  {EY:Addr} {Ot Ou:Option Addr} {Ov:Array (Option Value)} {Ow Ox Oy Oz OA:Value} {JW:Value}
  {EZ:Addr} {OB OC:Option Addr} {OD:Array (Option Value)} {OE OG OH OJ OL:Value} {JX:Value}
  {E_:Addr} {OM OO:Option Addr} {OP:Array (Option Value)} {OQ OS OT OU OV:Value} {JY:Value}
  {E1:Addr} {OW OX:Option Addr} {OY:Array (Option Value)} {OZ O_ O0 O1 O2:Value} {JZ:Value}
  {E3:Addr} {O3 O4:Option Addr} {O5:Array (Option Value)} {O6 O7 O8 O9 O':Value} {J_:Value}
  {E4:Addr} {Pa Pb:Option Addr} {Pc:Array (Option Value)} {Pd Pe Pf Pg Ph:Value} {J0:Value}
  {E5:Addr} {Pj Pk:Option Addr} {Pl:Array (Option Value)} {Pm Pn Po Pp Pq:Value} {J4:Value}
  {E6:Addr} {Pt Pu:Option Addr} {Pw:Array (Option Value)} {Px Py Pz PB PD:Value} {J5:Value}
  {E7:Addr} {PF PH:Option Addr} {PJ:Array (Option Value)} {PL PN PQ PR PU:Value} {J6:Value}
  {E8:Addr} {PV PX:Option Addr} {PY:Array (Option Value)} {PZ P_ P0 P1 P2:Value} {J7:Value}
  {J8:Addr} {P4 J9:Option Addr} {P5:Array (Option Value)} {P6 J' Ka Kb Kc:Value} {DI:Value}
  {gt0:Tok}
  (a0:PySem.W.nsIn K mainGlobals "figures_of"=some (some (.ref f0))) (l0:K.lookup f0=some ⟨SA,Sx,.func (PySem.W.fnOf "figures_of" "figures_of" (aL eK) (aI eK) (ak eK) .none SD SE SF Sy Ms SG),Sz⟩) (c0:PySem.W.codeIn K Ms "figures_of"=true) (k0:PySem.W.keepIn K (.ref f0)=true)
  (a1:PySem.W.nsIn K mainGlobals "letter_at"=some (some (.ref f1))) (l1:K.lookup f1=some ⟨SM,SH,.func (PySem.W.fnOf "letter_at" "letter_at" (aL fm) (aI fm) (ak fm) .none SN SO SQ SJ Mt SS),SK⟩) (c1:PySem.W.codeIn K Mt "letter_at"=true) (k1:PySem.W.keepIn K (.ref f1)=true)
  (a2:PySem.W.nsIn K mainGlobals "letters_of"=some (some (.ref f2))) (l2:K.lookup f2=some ⟨SW,SU,.func (PySem.W.fnOf "letters_of" "letters_of" (aL cF) (aI cF) (ak cF) .none SX SY sy SV Mu S_),sl2⟩) (c2:PySem.W.codeIn K Mu "letters_of"=true) (k2:PySem.W.keepIn K (.ref f2)=true)
  (a3:PySem.W.nsIn K mainGlobals "room_after"=some (some (.ref f3))) (l3:K.lookup f3=some ⟨S7,S0,.func (PySem.W.fnOf "room_after" "room_after" (aL eL) (aI eL) (ak eL) .none S8 S9 Ta S4 Mv Td),S6⟩) (c3:PySem.W.codeIn K Mv "room_after"=true) (k3:PySem.W.keepIn K (.ref f3)=true)
  (a4:PySem.W.nsIn K mainGlobals "grown_from"=some (some (.ref f4))) (l4:K.lookup f4=some ⟨Ti,Te,.func (PySem.W.fnOf "grown_from" "grown_from" (aL bA) (aI bA) (ak bA) (.ref za) JJ JK JL JI (.ref Cj) JM),Tg⟩) (c4:PySem.W.codeIn K (.ref Cj) "grown_from"=true) (k4:PySem.W.keepIn K (.ref f4)=true)
  (ld4:K.lookup za=some ⟨NR,NS,.seq #[(.int 2000 JN)] Tj,NT⟩)
  (a5:PySem.W.nsIn K mainGlobals "rooms_into"=some (some (.ref f5))) (l5:K.lookup f5=some ⟨Tq,Tn,.func (PySem.W.fnOf "rooms_into" "rooms_into" (aL dr) (aI dr) (ak dr) .none Tr Ts Tt To Mw Tv),Tp⟩) (c5:PySem.W.codeIn K Mw "rooms_into"=true) (k5:PySem.W.keepIn K (.ref f5)=true)
  (a6:PySem.W.nsIn K mainGlobals "split_kind"=some (some (.ref f6))) (l6:K.lookup f6=some ⟨TB,Tw,.func (PySem.W.fnOf "split_kind" "split_kind" (aL cO) (aI cO) (ak cO) .none TC TF TH Tx Mx TJ),Tz⟩) (c6:PySem.W.codeIn K Mx "split_kind"=true) (k6:PySem.W.keepIn K (.ref f6)=true)
  (a7:PySem.W.nsIn K mainGlobals "split_kinds"=some (some (.ref f7))) (l7:K.lookup f7=some ⟨TQ,TK,.func (PySem.W.fnOf "split_kinds" "split_kinds" (aL dC) (aI dC) (ak dC) .none TR TU TV TL Mz TX),TN⟩) (c7:PySem.W.codeIn K Mz "split_kinds"=true) (k7:PySem.W.keepIn K (.ref f7)=true)
  (a8:PySem.W.nsIn K mainGlobals "kinds_of"=some (some (.ref f8))) (l8:K.lookup f8=some ⟨T6,TY,.func (PySem.W.fnOf "kinds_of" "kinds_of" (aL cM) (aI cM) (ak cM) .none T7 T8 T9 T_ MA Ua),T5⟩) (c8:PySem.W.codeIn K MA "kinds_of"=true) (k8:PySem.W.keepIn K (.ref f8)=true)
  (a9:PySem.W.nsIn K mainGlobals "thinned"=some (some (.ref f9))) (l9:K.lookup f9=some ⟨Ud,Ub,.func (PySem.W.fnOf "thinned" "thinned" (aL di) (aI di) (ak di) .none MC ME MF MB (.ref zb) MG),Uc⟩) (c9:PySem.W.codeIn K (.ref zb) "thinned"=true) (k9:PySem.W.keepIn K (.ref f9)=true)
  (lc9:K.lookup zb=some ⟨.type "code",NU,.fields pH,NV⟩) (lv9:pH[11]? =some (.ref tL))
  (le9:((match (pH[11]? :Option Value) with | some (.ref P')=>P' == tL | _=>false)&&(match pH.getD 18 .none with | .str _ _=>true | _=>false)&&(match pH.getD 7 .none with | .int _ _=>true | _=>false)&&(match pH.getD 9 .none with | .bool _=>true | _=>false)&&(match pH.getD 10 .none with | .int _ _=>true | _=>false)&&zb != tL)=true)
  (lz9:K.lookup tL=none) (lt9:h.get? tL=some (PySem.W.tabObj #[]))
  (a10:PySem.W.nsIn K mainGlobals "yes_rooms"=some (some (.ref EV))) (l10:K.lookup EV=some ⟨NZ,NW,.func (PySem.W.fnOf "yes_rooms" "yes_rooms" (aL dY) (aI dY) (ak dY) .none N_ N0 N1 NX JO N3),NY⟩) (c10:PySem.W.codeIn K JO "yes_rooms"=true) (k10:PySem.W.keepIn K (.ref EV)=true)
  (a11:PySem.W.nsIn K mainGlobals "all_before"=some (some (.ref f11))) (l11:K.lookup f11=some ⟨N7,N4,.func (PySem.W.fnOf "all_before" "all_before" (aL eO) (aI eO) (ak eO) .none N8 N9 Oa N5 JP Ob),N6⟩) (c11:PySem.W.codeIn K JP "all_before"=true) (k11:PySem.W.keepIn K (.ref f11)=true)
  (a12:PySem.W.nsIn K mainGlobals "turned_about"=some (some (.ref EW))) (l12:K.lookup EW=some ⟨Oe,Oc,.func (PySem.W.fnOf "turned_about" "turned_about" (aL bN) (aI bN) (ak bN) .none JR JS JT JQ (.ref rj) JU),Od⟩) (c12:PySem.W.codeIn K (.ref rj) "turned_about"=true) (k12:PySem.W.keepIn K (.ref EW)=true)
  (lc12:K.lookup rj=some ⟨.type "code",KR,.fields lY,KU⟩) (lv12:lY[11]? =some (.ref nI))
  (le12:((match (lY[11]? :Option Value) with | some (.ref P')=>P' == nI | _=>false)&&(match lY.getD 18 .none with | .str _ _=>true | _=>false)&&(match lY.getD 7 .none with | .int _ _=>true | _=>false)&&(match lY.getD 9 .none with | .bool _=>true | _=>false)&&(match lY.getD 10 .none with | .int _ _=>true | _=>false)&&rj != nI)=true)
  (lz12:K.lookup nI=none) (lt12:h.get? nI=some (PySem.W.tabObj #[]))
  (a13:PySem.W.nsIn K mainGlobals "says_down"=some (some (.ref EX))) (l13:K.lookup EX=some ⟨Oj,Og,.func (PySem.W.fnOf "says_down" "says_down" (aL fq) (aI fq) (ak fq) .none Ol Om Oo Oh JV Oq),Oi⟩) (c13:PySem.W.codeIn K JV "says_down"=true) (k13:PySem.W.keepIn K (.ref EX)=true)
  (a14:PySem.W.nsIn K mainGlobals "_law_mixed"=some (some (.ref EY))) (l14:K.lookup EY=some ⟨Ow,Ot,.func (PySem.W.fnOf "_law_mixed" "_law_mixed" (aL gF) (aI gF) (ak gF) .none Ox Oy Oz Ou JW OA),Ov⟩) (c14:PySem.W.codeIn K JW "_law_mixed"=true) (k14:PySem.W.keepIn K (.ref EY)=true)
  (a15:PySem.W.nsIn K mainGlobals "_law_deck"=some (some (.ref EZ))) (l15:K.lookup EZ=some ⟨OE,OB,.func (PySem.W.fnOf "_law_deck" "_law_deck" (aL gy) (aI gy) (ak gy) .none OG OH OJ OC JX OL),OD⟩) (c15:PySem.W.codeIn K JX "_law_deck"=true) (k15:PySem.W.keepIn K (.ref EZ)=true)
  (a16:PySem.W.nsIn K mainGlobals "_law_next"=some (some (.ref E_))) (l16:K.lookup E_=some ⟨OQ,OM,.func (PySem.W.fnOf "_law_next" "_law_next" (aL ic) (aI ic) (ak ic) .none OS OT OU OO JY OV),OP⟩) (c16:PySem.W.codeIn K JY "_law_next"=true) (k16:PySem.W.keepIn K (.ref E_)=true)
  (a17:PySem.W.nsIn K mainGlobals "_law_base"=some (some (.ref E1))) (l17:K.lookup E1=some ⟨OZ,OW,.func (PySem.W.fnOf "_law_base" "_law_base" (aL ie) (aI ie) (ak ie) .none O_ O0 O1 OX JZ O2),OY⟩) (c17:PySem.W.codeIn K JZ "_law_base"=true) (k17:PySem.W.keepIn K (.ref E1)=true)
  (a18:PySem.W.nsIn K mainGlobals "_law_number"=some (some (.ref E3))) (l18:K.lookup E3=some ⟨O6,O3,.func (PySem.W.fnOf "_law_number" "_law_number" (aL fR) (aI fR) (ak fR) .none O7 O8 O9 O4 J_ O'),O5⟩) (c18:PySem.W.codeIn K J_ "_law_number"=true) (k18:PySem.W.keepIn K (.ref E3)=true)
  (a19:PySem.W.nsIn K mainGlobals "_law_machine"=some (some (.ref E4))) (l19:K.lookup E4=some ⟨Pd,Pa,.func (PySem.W.fnOf "_law_machine" "_law_machine" (aL dj) (aI dj) (ak dj) .none Pe Pf Pg Pb J0 Ph),Pc⟩) (c19:PySem.W.codeIn K J0 "_law_machine"=true) (k19:PySem.W.keepIn K (.ref E4)=true)
  (a20:PySem.W.nsIn K mainGlobals "_law_machine_names"=some (some (.ref E5))) (l20:K.lookup E5=some ⟨Pm,Pj,.func (PySem.W.fnOf "_law_machine_names" "_law_machine_names" (aL bZ) (aI bZ) (ak bZ) .none Pn Po Pp Pk J4 Pq),Pl⟩) (c20:PySem.W.codeIn K J4 "_law_machine_names"=true) (k20:PySem.W.keepIn K (.ref E5)=true)
  (a21:PySem.W.nsIn K mainGlobals "_law_letters"=some (some (.ref E6))) (l21:K.lookup E6=some ⟨Px,Pt,.func (PySem.W.fnOf "_law_letters" "_law_letters" (aL dZ) (aI dZ) (ak dZ) .none Py Pz PB Pu J5 PD),Pw⟩) (c21:PySem.W.codeIn K J5 "_law_letters"=true) (k21:PySem.W.keepIn K (.ref E6)=true)
  (a22:PySem.W.nsIn K mainGlobals "_law_run"=some (some (.ref E7))) (l22:K.lookup E7=some ⟨PL,PF,.func (PySem.W.fnOf "_law_run" "_law_run" (aL i8) (aI i8) (ak i8) .none PN PQ PR PH J6 PU),PJ⟩) (c22:PySem.W.codeIn K J6 "_law_run"=true) (k22:PySem.W.keepIn K (.ref E7)=true)
  (a23:PySem.W.nsIn K mainGlobals "_law_least"=some (some (.ref E8))) (l23:K.lookup E8=some ⟨PZ,PV,.func (PySem.W.fnOf "_law_least" "_law_least" (aL dN) (aI dN) (ak dN) .none P_ P0 P1 PX J7 P2),PY⟩) (c23:PySem.W.codeIn K J7 "_law_least"=true) (k23:PySem.W.keepIn K (.ref E8)=true)
  (a24:PySem.W.nsIn K mainGlobals "law"=some (some (.ref J8))) (l24:K.lookup J8=some ⟨P6,P4,.func (PySem.W.fnOf "law" "law" (aL iu) (aI iu) (ak iu) .none J' Ka Kb J9 DI Kc),P5⟩) (c24:PySem.W.codeIn K DI "law"=true) (k24:PySem.W.keepIn K (.ref J8)=true)
  (z0:PySem.W.nsIn K mainGlobals "max"=some none)
  (z1:PySem.W.nsIn K mainGlobals "tuple"=some none)
  (z2:PySem.W.nsIn K mainGlobals "enumerate"=some none)
  (z3:PySem.W.nsIn K mainGlobals "dict"=some none)
  (z4:PySem.W.nsIn K mainGlobals "len"=some none)
  (z5:PySem.W.nsIn K mainGlobals "list"=some none)
  (z6:PySem.W.nsIn K mainGlobals "range"=some none)
  (z7:PySem.W.nsIn K mainGlobals "int"=some none)
  (z8:PySem.W.nsIn K mainGlobals "sorted"=some none)
  (z9:PySem.W.nsIn K mainGlobals "reversed"=some none)
  (z10:PySem.W.nsIn K mainGlobals "bool"=some none)
  (z11:PySem.W.nsIn K mainGlobals "abs"=some none)
  (z12:PySem.W.nsIn K mainGlobals "set"=some none)
  (z13:PySem.W.nsIn K mainGlobals "isinstance"=some none)
  (z14:PySem.W.nsIn K mainGlobals "sum"=some none)
  (gg0:PySem.W.nsIn K mainGlobals "FAR_BEYOND"=some (some (.int 1000000 gt0)))
  (tne:tL≠nI)
  :∃(fd:FuncData) (ts:List Addr),(∀T∈ts,(∃c,PySem.W.CodeHd h c T)∧h.get? T=some (PySem.W.tabObj #[])∧K.lookup T=none)∧(∀(s:Shared) (v:Value),BindsTo s fd ⟨[v],[]⟩ [("_law_script",v)])∧∀base:Heap,K.In base→base.Ns mainGlobals mg→gI mg base→bD l.prog w K mg base cE 6 fa fd ["_law_script"] (uk K ts):=by
 have e:=hfa.symm.trans (PySem.W.mg_of X G a24)
 cases e
 have F0:=bX (st:=eK) l0 c0 k0
 have b0:=F0.binds (ps:=["base","number"]) fun _ _ _ _ _ _ us hl=>ln2 us hl fun _ _=>rfl
 have F1:=bX (st:=fm) l1 c1 k1
 have b1:=F1.binds (ps:=["base","rows","place"]) fun _ _ _ _ _ _ us hl=>y9 us hl fun _ _ _=>rfl
 have F2:=bX (st:=cF) l2 c2 k2
 have b2:=F2.binds (ps:=["base","numbers"]) fun _ _ _ _ _ _ us hl=>ln2 us hl fun _ _=>rfl
 have F3:=bX (st:=eL) l3 c3 k3
 have b3:=F3.binds (ps:=["moves","room","figures"]) fun _ _ _ _ _ _ us hl=>y9 us hl fun _ _ _=>rfl
 have F4:=qM (st:=bA) l4 c4 k4
 have b4:Binds K (PySem.W.fnOf "grown_from" "grown_from" (aL bA) (aI bA) (ak bA) (.ref za) JJ JK JL JI (.ref Cj) JM) ["first","many","onward","is_yes","most"] []:=fun s us hK hl=>Mr us (by rw[List.append_nil] at hl;exact hl) fun _ _ _ _ _=>BindsTo.of_defaults (T:=za) rfl (hK _ _ ld4) rfl rfl rfl
 have d4:∃t,Binds K (PySem.W.fnOf "grown_from" "grown_from" (aL bA) (aI bA) (ak bA) (.ref za) JJ JK JL JI (.ref Cj) JM) ["first","many","onward","is_yes","most"] [.int 2000 t]:=⟨JN,fun s us hK hl=>have h3:us.length=4:=(by simpa using hl);EU us h3 fun _ _ _ _=>BindsTo.of_defaults (T:=za) rfl (hK _ _ ld4) rfl rfl rfl⟩
 have F5:=bX (st:=dr) l5 c5 k5
 have b5:=F5.binds (ps:=["moves","letter"]) fun _ _ _ _ _ _ us hl=>ln2 us hl fun _ _=>rfl
 have F6:=bX (st:=cO) l6 c6 k6
 have b6:=F6.binds (ps:=["kind","some","kinds","members"]) fun _ _ _ _ _ _ us hl=>EU us hl fun _ _ _ _=>rfl
 have F7:=bX (st:=dC) l7 c7 k7
 have b7:=F7.binds (ps:=["some","kinds","members"]) fun _ _ _ _ _ _ us hl=>y9 us hl fun _ _ _=>rfl
 have F8:=bX (st:=cM) l8 c8 k8
 have b8:=F8.binds (ps:=["yes","moves"]) fun _ _ _ _ _ _ us hl=>ln2 us hl fun _ _=>rfl
 have F9:=qM (st:=di) l9 c9 k9
 have H9:=r6 lc9 le9
 have b9:Binds K (PySem.W.fnOf "thinned" "thinned" (aL di) (aI di) (ak di) .none MC ME MF MB (.ref zb) MG) ["machine"] []:=.all fun us hl=>oM us hl fun _=>rfl
 have F10:=bX (st:=dY) l10 c10 k10
 have b10:=F10.binds (ps:=["machine"]) fun _ _ _ _ _ _ us hl=>oM us hl fun _=>rfl
 have F11:=bX (st:=eO) l11 c11 k11
 have Ue:=F11.binds (ps:=["before","rooms"]) fun _ _ _ _ _ _ us hl=>ln2 us hl fun _ _=>rfl
 have F12:=qM (st:=bN) l12 c12 k12
 have MH:=r6 lc12 le12
 have Ug:Binds K (PySem.W.fnOf "turned_about" "turned_about" (aL bN) (aI bN) (ak bN) .none JR JS JT JQ (.ref rj) JU) ["machine"] []:=.all fun us hl=>oM us hl fun _=>rfl
 have F13:=bX (st:=fq) l13 c13 k13
 have Uh:=F13.binds (ps:=["base","machine","numbers"]) fun _ _ _ _ _ _ us hl=>y9 us hl fun _ _ _=>rfl
 have F14:=bX (st:=gF) l14 c14 k14
 have Ui:=F14.binds (ps:=["_law_cell","_law_k"]) fun _ _ _ _ _ _ us hl=>ln2 us hl fun _ _=>rfl
 have F15:=bX (st:=gy) l15 c15 k15
 have Uj:=F15.binds (ps:=["_law_script"]) fun _ _ _ _ _ _ us hl=>oM us hl fun _=>rfl
 have F16:=bX (st:=ic) l16 c16 k16
 have Uk:=F16.binds (ps:=["_law_deck_here","_law_many"]) fun _ _ _ _ _ _ us hl=>ln2 us hl fun _ _=>rfl
 have F17:=bX (st:=ie) l17 c17 k17
 have Ul:=F17.binds (ps:=["_law_deck_here"]) fun _ _ _ _ _ _ us hl=>oM us hl fun _=>rfl
 have F18:=bX (st:=fR) l18 c18 k18
 have Um:=F18.binds (ps:=["_law_deck_here","_law_base_here"]) fun _ _ _ _ _ _ us hl=>ln2 us hl fun _ _=>rfl
 have F19:=bX (st:=dj) l19 c19 k19
 have Uo:=F19.binds (ps:=["_law_deck_here","_law_base_here","_law_most","_law_many"]) fun _ _ _ _ _ _ us hl=>EU us hl fun _ _ _ _=>rfl
 have F20:=bX (st:=bZ) l20 c20 k20
 have Up:=F20.binds (ps:=["_law_deck_here","_law_many"]) fun _ _ _ _ _ _ us hl=>ln2 us hl fun _ _=>rfl
 have F21:=bX (st:=dZ) l21 c21 k21
 have Uq:=F21.binds (ps:=["_law_base_here","_law_numbers"]) fun _ _ _ _ _ _ us hl=>ln2 us hl fun _ _=>rfl
 have F22:=bX (st:=i8) l22 c22 k22
 have Ur:=F22.binds (ps:=["_law_moves","_law_room","_law_some"]) fun _ _ _ _ _ _ us hl=>y9 us hl fun _ _ _=>rfl
 have F23:=bX (st:=dN) l23 c23 k23
 have Us:=F23.binds (ps:=["_law_found"]) fun _ _ _ _ _ _ us hl=>oM us hl fun _=>rfl
 have F24:=bX (st:=iu) l24 c24 k24
 have T:Txt K mg ⟨f0,_,f1,_,f2,_,f3,_,f4,_,Cj,f5,_,f6,_,f7,_,f8,_,f9,_,zb,tL,EV,_,f11,_,EW,_,rj,nI,EX,_,EY,_,EZ,_,E_,_,E1,_,E3,_,E4,_,E5,_,E6,_,E7,_,E8,_,fa,_⟩:=⟨F0,PySem.W.mg_of X G a0,k0,b0,F1,PySem.W.mg_of X G a1,k1,b1,F2,PySem.W.mg_of X G a2,k2,b2,F3,PySem.W.mg_of X G a3,k3,b3,F4,PySem.W.mg_of X G a4,k4,b4,d4,F5,PySem.W.mg_of X G a5,k5,b5,F6,PySem.W.mg_of X G a6,k6,b6,F7,PySem.W.mg_of X G a7,k7,b7,F8,PySem.W.mg_of X G a8,k8,b8,F9,H9,PySem.W.mg_of X G a9,k9,b9,F10,PySem.W.mg_of X G a10,k10,b10,F11,PySem.W.mg_of X G a11,k11,Ue,F12,MH,PySem.W.mg_of X G a12,k12,Ug,F13,PySem.W.mg_of X G a13,k13,Uh,F14,PySem.W.mg_of X G a14,k14,Ui,F15,PySem.W.mg_of X G a15,k15,Uj,F16,PySem.W.mg_of X G a16,k16,Uk,F17,PySem.W.mg_of X G a17,k17,Ul,F18,PySem.W.mg_of X G a18,k18,Um,F19,PySem.W.mg_of X G a19,k19,Uo,F20,PySem.W.mg_of X G a20,k20,Up,F21,PySem.W.mg_of X G a21,k21,Uq,F22,PySem.W.mg_of X G a22,k22,Ur,F23,PySem.W.mg_of X G a23,k23,Us,F24,PySem.W.mg_of X G a24,PySem.W.mg_none_of X G z0,PySem.W.mg_none_of X G z1,PySem.W.mg_none_of X G z2,PySem.W.mg_none_of X G z3,PySem.W.mg_none_of X G z4,PySem.W.mg_none_of X G z5,PySem.W.mg_none_of X G z6,PySem.W.mg_none_of X G z7,PySem.W.mg_none_of X G z8,PySem.W.mg_none_of X G z9,PySem.W.mg_none_of X G z10,PySem.W.mg_none_of X G z11,PySem.W.mg_none_of X G z12,PySem.W.mg_none_of X G z13,PySem.W.mg_none_of X G z14,tne,⟨_,PySem.W.mg_of X G gg0⟩⟩
 exact⟨PySem.W.fnOf "law" "law" (aL iu) (aI iu) (ak iu) .none J' Ka Kb J9 DI Kc,[tL,nI],(List.forall_mem_cons.mpr ⟨⟨⟨_,PySem.W.codeHd_of_K X H9⟩,lt9,lz9⟩,(List.forall_mem_cons.mpr ⟨⟨⟨_,PySem.W.codeHd_of_K X MH⟩,lt12,lz12⟩,(fun _ h=>nomatch h)⟩)⟩),fun s v=>.of_eq rfl,fun base _ _ hB=>JD T hB⟩
theorem walk {l:PySem.W.OpenLaw} {q:Program} {loose:List Str} {XP:(Str→Option Value)→Heap→Prop} {YP:World→Heap→Prop} {d:DefRec} {K:Params→PySem.W.Frag} (hn:l.most=some 63) (hdf:d.params.defaults=[])
  (hY:∀(w:World) (h:Heap),YP w h→(K w.params).In h)
  (F:∀(w:World) (mg:Str→Option Value) (fa:Addr) (h:Heap),(K w.params).In h→h.Ns mainGlobals mg→mg d.name=some (.ref fa)→YP w h→
   ∃(fd:FuncData) (ts:List Addr),(∀T∈ts,(∃c,PySem.W.CodeHd h c T)∧h.get? T=some (PySem.W.tabObj #[])∧(K w.params).lookup T=none)∧(∀(s:Shared) (u:Value),BindsTo s fd ⟨[u],[]⟩ [("_law_script",u)])∧
    ∀base:Heap,(K w.params).In base→base.Ns mainGlobals mg→gI mg base→bD l.prog w (K w.params) mg base cE 6 fa fd ["_law_script"] (uk (K w.params) ts)):
  PySem.W.WalkO q loose XP YP l.row.toRowW d [] (fun f vs=>PySem.call f vs):=
 L2.CN (n:=63) (k:=6) (x:="_law_script") (sp:=fun w ts=>uk (K w.params) ts) hn (by decide) hdf ⟨rfl,by decide,by decide,rfl⟩ hY F (fun _ _ a ns _ hl hO hS=>⟨a,ns,rfl,hS,hl,hO,fun _=>rfl⟩)
end
end My
namespace PySem.W.Fast
theorem tw11688224781736244175 : True := trivial
theorem tw12876098530401317105 : True := trivial
theorem tw14945165598542539335 : True := trivial
theorem tw1748734394010850525 : True := trivial
theorem tw1620601731154538510 : True := trivial
theorem tw1945338682985485931 : True := trivial
theorem tw14987869058809661580 : True := trivial
theorem tw4076614016414973244 : True := trivial
theorem tw14477953627926705290 : True := trivial
theorem tw1250681075029850824 : True := trivial
theorem tw8223846792440344292 : True := trivial
theorem tw15714482460632205954 : True := trivial
theorem tw14217308752120686074 : True := trivial
theorem tw4461677052939388065 : True := trivial
theorem tw10768938642025670052 : True := trivial
theorem tw8188159529192069033 : True := trivial
theorem tw18134805652624284473 : True := trivial
theorem tw15433065960739362796 : True := trivial
theorem tw9194205724569537160 : True := trivial
theorem tw9894618356121522363 : True := trivial
theorem tw4955366067455349387 : True := trivial
theorem tw536411920173164703 : True := trivial
theorem tw3039883591927960712 : True := trivial
theorem tw10655491900415127521 : True := trivial
theorem tw4147249316126840675 : True := trivial
theorem tw13255617521221706401 : True := trivial
theorem tw5655407093833128837 : True := trivial
theorem tw4437830043832925343 : True := trivial
theorem tw959611364244410591 : True := trivial
theorem tw11283147785756444586 : True := trivial
theorem tw10017426875670627606 : True := trivial
theorem tw8722065275837614389 : True := trivial
theorem tw7753560990529517469 : True := trivial
theorem tw4864041440420588336 : True := trivial
theorem tw1876500849164481941 : True := trivial
theorem tw4707704757644305071 : True := trivial
theorem tw2797207627930709355 : True := trivial
theorem tw16336061293910333003 : True := trivial
theorem tw2547134137693714830 : True := trivial
theorem tw2280357925474852750 : True := trivial
theorem tw5041524585301360206 : True := trivial
theorem tw3816086262584207800 : True := trivial
theorem tw17413127230127917310 : True := trivial
theorem tw16223367269981372023 : True := trivial
theorem tw11081697153210858321 : True := trivial
theorem tw7688464772946566261 : True := trivial
theorem tw653140005140455066 : True := trivial
theorem tw14087688076247525099 : True := trivial
theorem tw4018645504435701216 : True := trivial
theorem tw2130885722698481408 : True := trivial
theorem tw13443862850665984571 : True := trivial
theorem tw14098402142644611457 : True := trivial
theorem tw2634295954046573584 : True := trivial
theorem tw9041979902604344879 : True := trivial
theorem tw11250142861488634579 : True := trivial
theorem tw3179054515707908772 : True := trivial
theorem tw17374231058704799669 : True := trivial
theorem tw15063375954274650120 : True := trivial
theorem tw7385289853321568789 : True := trivial
theorem tw2492829449210139856 : True := trivial
theorem tw14582655720707314692 : True := trivial
theorem tw8780957030939211612 : True := trivial
theorem tw12509132388566510835 : True := trivial
theorem tw9705379427268394394 : True := trivial
theorem tw2042066924606669960 : True := trivial
theorem tw9927153099860139172 : True := trivial
theorem tw14235329355455650944 : True := trivial
theorem tw5633318154900302724 : True := trivial
theorem tw9360024626311053893 : True := trivial
theorem tw14893453125933321268 : True := trivial
theorem tw3465048943066155903 : True := trivial
theorem tw4497904516460515555 : True := trivial
theorem tw1450955003875213841 : True := trivial
theorem tw10250693560396923771 : True := trivial
theorem tw6967264811978801698 : True := trivial
theorem tw4403148672547020369 : True := trivial
theorem tw2167850409139043627 : True := trivial
theorem tw10818399253293965278 : True := trivial
theorem tw6537403597393260525 : True := trivial
theorem tw7755110380810977921 : True := trivial
end PySem.W.Fast
open PySem PySem.W PyProof.Rows
set_option maxRecDepth 100000 in
set_option maxHeartbeats 0 in
theorem PySem.Challenge.cw_figurejudge_k77_turned_about_holds : PySem.Challenge.rw_figurejudge_k77_turned_about.Holds := by
 w_on;o_law;k_head;(case hw=>w_witness2)
 k_fill
 refine My.walk (l:=PySem.Challenge.rw_figurejudge_k77_turned_about) rfl rfl (fun w h Y=>PySem.W.km_in_of Y) ?F
 case F=>
  intro w mg fa h KX G hmg Y
  refine' My.all_mk KX G hmg ?a0 ?l0 ?c0 ?k0 ?a1 ?l1 ?c1 ?k1 ?a2 ?l2 ?c2 ?k2 ?a3 ?l3 ?c3 ?k3 ?a4 ?l4 ?c4 ?k4 ?ld4 ?a5 ?l5 ?c5 ?k5 ?a6 ?l6 ?c6 ?k6 ?a7 ?l7 ?c7 ?k7 ?a8 ?l8 ?c8 ?k8 ?a9 ?l9 ?c9 ?k9 ?lc9 ?lv9 ?le9 ?lz9 ?lt9 ?a10 ?l10 ?c10 ?k10 ?a11 ?l11 ?c11 ?k11 ?a12 ?l12 ?c12 ?k12 ?lc12 ?lv12 ?le12 ?lz12 ?lt12 ?a13 ?l13 ?c13 ?k13 ?a14 ?l14 ?c14 ?k14 ?a15 ?l15 ?c15 ?k15 ?a16 ?l16 ?c16 ?k16 ?a17 ?l17 ?c17 ?k17 ?a18 ?l18 ?c18 ?k18 ?a19 ?l19 ?c19 ?k19 ?a20 ?l20 ?c20 ?k20 ?a21 ?l21 ?c21 ?k21 ?a22 ?l22 ?c22 ?k22 ?a23 ?l23 ?c23 ?k23 ?a24 ?l24 ?c24 ?k24 ?z0 ?z1 ?z2 ?z3 ?z4 ?z5 ?z6 ?z7 ?z8 ?z9 ?z10 ?z11 ?z12 ?z13 ?z14 ?gg0 ?tne
  (case a0=>k_is)
  (case l0=>k_is)
  (case c0=>k_is)
  (case k0=>k_is)
  (case a1=>k_is)
  (case l1=>k_is)
  (case c1=>k_is)
  (case k1=>k_is)
  (case a2=>k_is)
  (case l2=>k_is)
  (case c2=>k_is)
  (case k2=>k_is)
  (case a3=>k_is)
  (case l3=>k_is)
  (case c3=>k_is)
  (case k3=>k_is)
  (case a4=>k_is)
  (case l4=>k_is)
  (case c4=>k_is)
  (case k4=>k_is)
  (case ld4=>k_is)
  (case a5=>k_is)
  (case l5=>k_is)
  (case c5=>k_is)
  (case k5=>k_is)
  (case a6=>k_is)
  (case l6=>k_is)
  (case c6=>k_is)
  (case k6=>k_is)
  (case a7=>k_is)
  (case l7=>k_is)
  (case c7=>k_is)
  (case k7=>k_is)
  (case a8=>k_is)
  (case l8=>k_is)
  (case c8=>k_is)
  (case k8=>k_is)
  (case a9=>k_is)
  (case l9=>k_is)
  (case c9=>k_is)
  (case k9=>k_is)
  (case lc9=>k_is)
  (case lv9=>rfl)
  (case le9=>rfl)
  (case lz9=>kernel_rfl)
  (case lt9=>exact PySem.W.km_tabs_of Y _ (by decide))
  (case a10=>k_is)
  (case l10=>k_is)
  (case c10=>k_is)
  (case k10=>k_is)
  (case a11=>k_is)
  (case l11=>k_is)
  (case c11=>k_is)
  (case k11=>k_is)
  (case a12=>k_is)
  (case l12=>k_is)
  (case c12=>k_is)
  (case k12=>k_is)
  (case lc12=>k_is)
  (case lv12=>rfl)
  (case le12=>rfl)
  (case lz12=>kernel_rfl)
  (case lt12=>exact PySem.W.km_tabs_of Y _ (by decide))
  (case a13=>k_is)
  (case l13=>k_is)
  (case c13=>k_is)
  (case k13=>k_is)
  (case a14=>k_is)
  (case l14=>k_is)
  (case c14=>k_is)
  (case k14=>k_is)
  (case a15=>k_is)
  (case l15=>k_is)
  (case c15=>k_is)
  (case k15=>k_is)
  (case a16=>k_is)
  (case l16=>k_is)
  (case c16=>k_is)
  (case k16=>k_is)
  (case a17=>k_is)
  (case l17=>k_is)
  (case c17=>k_is)
  (case k17=>k_is)
  (case a18=>k_is)
  (case l18=>k_is)
  (case c18=>k_is)
  (case k18=>k_is)
  (case a19=>k_is)
  (case l19=>k_is)
  (case c19=>k_is)
  (case k19=>k_is)
  (case a20=>k_is)
  (case l20=>k_is)
  (case c20=>k_is)
  (case k20=>k_is)
  (case a21=>k_is)
  (case l21=>k_is)
  (case c21=>k_is)
  (case k21=>k_is)
  (case a22=>k_is)
  (case l22=>k_is)
  (case c22=>k_is)
  (case k22=>k_is)
  (case a23=>k_is)
  (case l23=>k_is)
  (case c23=>k_is)
  (case k23=>k_is)
  (case a24=>k_is)
  (case l24=>k_is)
  (case c24=>k_is)
  (case k24=>k_is)
  (case z0=>k_is)
  (case z1=>k_is)
  (case z2=>k_is)
  (case z3=>k_is)
  (case z4=>k_is)
  (case z5=>k_is)
  (case z6=>k_is)
  (case z7=>k_is)
  (case z8=>k_is)
  (case z9=>k_is)
  (case z10=>k_is)
  (case z11=>k_is)
  (case z12=>k_is)
  (case z13=>k_is)
  (case z14=>k_is)
  (case gg0=>k_is)
  (case tne=>decide)
#print axioms PySem.Challenge.cw_figurejudge_k77_turned_about_holds
