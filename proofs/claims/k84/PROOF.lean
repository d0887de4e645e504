import PyProof.Rows.All
import Wide.All
import OpenK.AllK
import Wide.FinOn
import Lean
import PyProof.EqAt
import PyProof.EqKinds
import PyProof.TupleCall
import PyProof.NeKinds
import PyProof.ListRange
import PyProof.Draws
import PyProof.Rows.SortStr
import KE.KDictSum
import KE.KEqDict
import KE.KDictOf
import KE.KRevSl
import PyProof.StrWalks
import PyProof.StrBlock2
import PyProof.SetKind
import PyProof.SetRoads
import PyProof.Rows.SetFrom
import PyProof.ReprRoads
import PyProof.ReprLen
import PyProof.NsDelKeeps
import PyProof.ListMulRoad
import PyProof.FactsAll.tuple_2
import KE.KLam
import KE.KNestM
import PyProof.AttrMissHeap
import PyProof.Rows.SortShell
import PySem.Challenge.RW_figurejudge_k84_texts_refused
set_option Elab.async false
set_option linter.all false
set_option maxRecDepth 100000
set_option maxHeartbeats 4000000
namespace L2
open PySem PySem.Spec PyProof.Rows
abbrev Key:=Sum Int Str
def sE:Key→Value→Bool
 | .inl k,v=>Value.isInt k v
 | .inr x,v=>Value.isStrOf x v
def SK (w:World):Key→Int
 | .inl k=>hashInt k
 | .inr x=>hashStr w x
theorem dS:∀{k:Key} {v:Value},sE k v=true→(∃i t,k=Sum.inl i∧v=Value.int i t)∨(∃x t,k=Sum.inr x∧v=Value.str x t)
 | .inl i,v,h=>by
  obtain⟨t,e⟩:=Value.isInt_shape (k:=i) (v:=v) h
  exact .inl ⟨i,t,rfl,e⟩
 | .inr x,v,h=>by
  obtain⟨t,e⟩:=Value.isStrOf_shape (x:=x) (v:=v) h
  exact .inr ⟨x,t,rfl,e⟩
theorem Ea (i:Int) (t:Tok):sE (.inl i) (.int i t)=true:=by simp[sE,Value.isInt]
theorem Eb (x:Str) (t:Tok):sE (.inr x) (.str x t)=true:=by simp[sE,Value.isStrOf]
theorem K9 (a b:Int):decide ((Sum.inl a:Key)=Sum.inl b)=(a == b):=by
 by_cases e:a=b
 ·subst e;simp
 ·have h:¬(Sum.inl a:Key)=Sum.inl b:=fun q=>e (Sum.inl.inj q)
  rw[decide_eq_false h]
  exact(beq_eq_false_iff_ne.mpr e).symm
theorem K' (a b:Str):decide ((Sum.inr a:Key)=Sum.inr b)=decide (a=b):=by
 by_cases e:a=b
 ·subst e;simp
 ·have h:¬(Sum.inr a:Key)=Sum.inr b:=fun q=>e (Sum.inr.inj q)
  rw[decide_eq_false h,decide_eq_false e]
theorem La (a:Int) (b:Str):decide ((Sum.inl a:Key)=Sum.inr b)=false:=decide_eq_false (fun q=>nomatch q)
theorem Lb (a:Str) (b:Int):decide ((Sum.inr a:Key)=Sum.inl b)=false:=decide_eq_false (fun q=>nomatch q)
def dY (prog:Program) (w:World):PySem.KeyKind prog w Key where
 is:=sE
 hash:=SK w
 inj:=fun v a b ha hb=>by
  rcases dS ha with⟨i,t,rfl,rfl⟩ | ⟨x,t,rfl,rfl⟩
  ·rcases dS hb with⟨j,u,rfl,e⟩ | ⟨y,u,rfl,e⟩
   ·injection e with e1 _;rw[e1]
   ·exact nomatch e
  ·rcases dS hb with⟨j,u,rfl,e⟩ | ⟨y,u,rfl,e⟩
   ·exact nomatch e
   ·injection e with e1 _;rw[e1]
 byValue:=fun k v h=>by
  rcases dS h with⟨i,t,rfl,rfl⟩ | ⟨x,t,rfl,rfl⟩<;>rfl
 pyHash:=fun hv h=>by
  rcases dS hv with⟨i,t,rfl,rfl⟩ | ⟨x,t,rfl,rfl⟩
  ·exact wpAny_pyHash_int h
  ·exact wpAny_pyHash_str h
 eqBool:=fun hu hv h=>by
  rcases dS hu with⟨i,t,rfl,rfl⟩ | ⟨x,t,rfl,rfl⟩
  ·rcases dS hv with⟨j,u,rfl,rfl⟩ | ⟨y,u,rfl,rfl⟩
   ·rw[K9] at h;exact wpAny_eqBool_int h
   ·rw[La] at h;exact SeqAt.EqAt.int_str i t y u _ _ _ _ h
  ·rcases dS hv with⟨j,u,rfl,rfl⟩ | ⟨y,u,rfl,rfl⟩
   ·rw[Lb] at h;exact SeqAt.EqAt.str_int x t j u _ _ _ _ h
   ·rw[K'] at h;exact wpAny_eqBool_str h
 «strs» :=fun k x t v h=>by
  rcases dS h with⟨i,u,rfl,e⟩ | ⟨y,u,rfl,e⟩
  ·exact nomatch e
  ·injection e with e1 _
   subst e1
   cases v<;>rfl
theorem Aw (prog:Program) (w:World) (i:Int) (t:Tok):(dY prog w).is (.inl i) (.int i t)=true:=Ea i t
theorem Ax (prog:Program) (w:World) (x:Str) (t:Tok):(dY prog w).is (.inr x) (.str x t)=true:=Eb x t
inductive V where
 | non | bl (b:Bool) | int (i:Int) | str (x:Str) | lA (b:Array UInt8) | flt (b:UInt64) | ref (a:Addr) | ty (n:String)
 deriving DecidableEq
def RelV:V→Value→Prop
 | .non,u=>u=Value.none
 | .bl b,u=>u=Value.bool b
 | .int i,u=>∃t,u=Value.int i t
 | .str x,u=>∃t,u=Value.str x t
 | .lA b,u=>∃t,u=Value.bytes b t
 | .flt b,u=>∃t,u=Value.float b t
 | .ref a,u=>u=Value.ref a
 | .ty n,u=>u=Value.type n
abbrev Vals:List V→List Value→Prop:=Paired RelV
theorem Vals.length {xs:List V} {us:List Value} (r:Vals xs us):xs.length=us.length:=Paired.length r
theorem Vals.get:∀{xs:List V} {us:List Value} {i:Nat} {x:V},Vals xs us→xs[i]? =some x→∃u,us[i]? =some u∧RelV x u
 | _,_,_,_,.nil,e=>by simp at e
 | _,_,0,_,.cons r _,e=>by simp at e;subst e;exact⟨_,rfl,r⟩
 | _,_,i+1,x,.cons _ t,e=>by
  obtain⟨u,h1,h2⟩:=Vals.get (i:=i) (x:=x) t (by simpa using e)
  exact⟨u,by simpa using h1,h2⟩
theorem Vals.set {x:V} {u:Value} (r:RelV x u):∀{xs:List V} {us:List Value} (i:Nat),Vals xs us→Vals (xs.set i x) (us.set i u)
 | _,_,_,.nil=>.nil
 | _,_,0,.cons _ t=>.cons r t
 | _,_,i+1,.cons q t=>.cons q (Vals.set r i t)
theorem Vals.append:∀{xs ys:List V} {us ws:List Value},Vals xs us→Vals ys ws→Vals (xs++ys) (us++ws)
 | _,_,_,_,.nil,s=>s
 | _,_,_,_,.cons r t,s=>.cons r (Vals.append t s)
theorem Vals.take:∀{xs:List V} {us:List Value} (n:Nat),Vals xs us→Vals (xs.take n) (us.take n)
 | _,_,0,_=>.nil
 | _,_,_+1,.nil=>.nil
 | _,_,n+1,.cons r t=>.cons r (Vals.take n t)
theorem Vals.drop:∀{xs:List V} {us:List Value} (n:Nat),Vals xs us→Vals (xs.drop n) (us.drop n)
 | _,_,0,r=>r
 | _,_,_+1,.nil=>.nil
 | _,_,n+1,.cons _ t=>Vals.drop n t
def jD:Option V→Option Value→Prop
 | some v,some u=>RelV v u
 | none,none=>True
 | _,_=>False
def KV {κ:Type}:List (κ×V)→List (κ×Value)→Prop:=Paired fun(p:κ×V) (q:κ×Value)=>p.1=q.1∧RelV p.2 q.2
def kV:Key→V
 | .inl i=>.int i
 | .inr x=>.str x
inductive HO where
 | lst (xs:List V)
 | tup (xs:List V)
 | dK (kvs:List (Key×V)) | dT (kvs:List (List Key×V))
 | set (S:Int→Bool) (n:Nat)
 | ins (C dx:Addr) (fs:List (Str×V))
 | own (x:Addr)
 | xd (fs:List (Str×V))
 | met (f x:Addr)
 | rng (lo hi:Int)
 | tB (o:Obj) (u:HO)
 | ye (ps:Array Value)
 | ext (φ:Heap→Prop)
abbrev Hp:=Addr→Option HO
def upd (H:Hp) (a:Addr) (o:HO):Hp:=fun b=>if b=a then some o else H b
theorem ag {H:Hp} {a:Addr} {o:HO}:upd H a o a=some o:=by unfold upd;rw[if_pos rfl]
theorem bz {H:Hp} {a b:Addr} {o:HO} (h:b≠a):upd H a o b=H b:=by unfold upd;rw[if_neg h]
theorem iM {H:Hp} {a b:Addr} {o u:HO} (h:H a=some o) (h':H b=some u) (d:o≠u):a≠b:=by
 intro e;subst e;rw[h] at h';exact d (Option.some.inj h')
theorem bj {H:Hp} {a b:Addr} {o:HO} (h:H a=some o) (h':H b=none):a≠b:=by
 intro e;subst e;rw[h] at h';cases h'
section
variable (P:Program) (w:World)
def cZ (H:Hp) (h:Heap) (a:Addr):HO→Prop
 | .lst xs=>xs.length≤sizeLine∧∃(its:List Value) (n:Nat),Vals xs its∧h.get? a=some {cls:=.type "list",data:=.seq its.toArray n}
 | .tup xs=>(xs.length≤sizeLine∧∃o,h.get? a=some o∧o.dict=none)∧∃its:List Value,Vals xs its∧IsTup h a its.toArray
 | .dK kvs=>kvs.length≤sizeLine∧(a == sysModules)=false∧∃vs,KV kvs vs∧h.DictOf (dY P w) a vs
 | .dT kvs=>kvs.length≤sizeLine∧(a == sysModules)=false∧∃xs:List (List Key×Addr×Value),
   Paired (fun(p:List Key×V) (q:List Key×Addr×Value)=>p.1=q.1∧H q.2.1=some (.tup (p.1.map kV))∧RelV p.2 q.2.2) kvs xs∧
   ∃o es ep,h.get? a=some o∧o.ExactDict∧o.data=.dict es ep∧es.toList=xs.map (entryOfKey (tupleKind (dY P w)))∧(xs.map (·.1)).Nodup
 | .set S n=>h.SetOf (intKind P w) a S n
 | .ins C dx fs=>H dx=some (.own a)∧fs.length≤1000∧dx≠a∧h.get? a=some (PySem.W.instObj C dx)∧
   ∃mA,h.Ns1 dx mA∧(∀f,jD (fs.lookup f) (mA f))∧PySem.Within mA (fs.map (·.1))
 | .own _=>∃o,h.get? a=some o
 | .xd fs=>∃mA,h.Ns1 a mA∧∀f,jD (fs.lookup f) (mA f)
 | .rng lo hi=>∃t u v,h.get? a=some {cls:=.type "range",data:=.fields #[.int lo t,.int hi u,.int 1 v]}
 | .tB o u=>h.get? a=some o∧cZ H h a u
 | .ye ps=>h.get? a=some {cls:=.none,data:=.fields ps}
 | .met f x=>h.get? a=some (PySem.W.methodObj (.ref f) (.ref x))
 | .ext φ=>φ h∧(∃o,h.get? a=some o)∧∀h1 h2:Heap,φ h1→(∀o,h1.get? a=some o→h2.get? a=some o)→φ h2
def fk (H:Hp) (h:Heap):Prop:=∀a o,H a=some o→cZ P w H h a o
end
section
variable {P:Program} {w:World} {H H':Hp} {h h':Heap} {a:Addr} {o:HO}
theorem cZ.lt (x:cZ P w H h a o):a<h.objs.size:=by
 cases o with
 | lst xs=>obtain⟨_,_,_,_,e⟩:=x;exact Heap.lt_size e
 | tup xs=>obtain⟨_,_,_,p⟩:=x;exact p.lt
 | dK kvs=>obtain⟨_,_,_,_,o,_,_,e,_⟩:=x;exact Heap.lt_size e
 | dT kvs=>obtain⟨_,_,_,_,o,_,_,e,_⟩:=x;exact Heap.lt_size e
 | set S n=>obtain⟨o,_,_,_,e,_⟩:=x;exact Heap.lt_size e
 | ins C dx fs=>obtain⟨_,_,_,e,_⟩:=x;exact Heap.lt_size e
 | own y=>obtain⟨_,e⟩:=x;exact Heap.lt_size e
 | xd fs=>obtain⟨_,⟨_,_,_,e,_⟩,_⟩:=x;exact Heap.lt_size e
 | rng lo hi=>obtain⟨_,_,_,e⟩:=x;exact Heap.lt_size e
 | tB ob u=>obtain⟨e,_⟩:=x;exact Heap.lt_size e
 | ye ps=>exact Heap.lt_size (show h.get? a=some _ from x)
 | met f y=>exact Heap.lt_size (show h.get? a=some _ from x)
 | ext φ=>obtain⟨_,⟨_,e⟩,_⟩:=x;exact Heap.lt_size e
theorem Paired.qO {α β:Type} {F G:α→β→Prop}:∀{l₁:List α} {l₂:List β},Paired F l₁ l₂→(∀a b,F a b→G a b)→Paired G l₁ l₂
 | _,_,.nil,_=>.nil
 | _,_,.cons r t,f=>.cons (f _ _ r) (Paired.qO t f)
theorem cZ.stay (x:cZ P w H h a o) (k:∀b u,(b=a∨H b=some (.own a))→h.get? b=some u→h'.get? b=some u)
  (ho:∀b,H b=some (.own a)→H' b=some (.own a)) (ht:∀b xs,H b=some (.tup xs)→H' b=some (.tup xs)):cZ P w H' h' a o:=by
 induction o with
 | lst xs=>obtain⟨z,its,n,r,e⟩:=x;exact⟨z,its,n,r,k _ _ (.inl rfl) e⟩
 | tup xs=>obtain⟨⟨z,o2,e2,d2⟩,its,r,ob,e,c⟩:=x;exact⟨⟨z,o2,k _ _ (.inl rfl) e2,d2⟩,its,r,ob,k _ _ (.inl rfl) e,c⟩
 | dK kvs=>obtain⟨z,y,vs,r,ob,es,ep,e,c⟩:=x;exact⟨z,y,vs,r,ob,es,ep,k _ _ (.inl rfl) e,c⟩
 | dT kvs=>
  obtain⟨z,y,xs,r,ob,es,ep,e,c⟩:=x
  exact⟨z,y,xs,Paired.qO r fun p q z=>⟨z.1,ht _ _ z.2.1,z.2.2⟩,ob,es,ep,k _ _ (.inl rfl) e,c⟩
 | set S n=>obtain⟨ob,es,ep,t,e,c⟩:=x;exact⟨ob,es,ep,t,k _ _ (.inl rfl) e,c⟩
 | ins C dx fs=>
  obtain⟨d,z,ne,e,mA,⟨od,es,ep,e2,c⟩,r⟩:=x
  exact⟨ho _ d,z,ne,k _ _ (.inl rfl) e,mA,⟨od,es,ep,k _ _ (.inr d) e2,c⟩,r⟩
 | own y=>obtain⟨ob,e⟩:=x;exact⟨ob,k _ _ (.inl rfl) e⟩
 | xd fs=>obtain⟨mA,⟨od,es,ep,e,c⟩,r⟩:=x;exact⟨mA,⟨od,es,ep,k _ _ (.inl rfl) e,c⟩,r⟩
 | rng lo hi=>obtain⟨t,u,v,e⟩:=x;exact⟨t,u,v,k _ _ (.inl rfl) e⟩
 | tB ob u ih=>obtain⟨e,q⟩:=x;exact⟨k _ _ (.inl rfl) e,ih q⟩
 | ye ps=>
  have e:h.get? a=some {cls:=.none,data:=.fields ps}:=x
  show h'.get? a=some {cls:=.none,data:=.fields ps}
  exact k a _ (.inl rfl) e
 | met f y=>
  have e:h.get? a=some (PySem.W.methodObj (.ref f) (.ref y)):=x
  show h'.get? a=some (PySem.W.methodObj (.ref f) (.ref y))
  exact k a _ (.inl rfl) e
 | ext φ=>obtain⟨p,⟨o,e⟩,st⟩:=x;exact⟨st _ _ p fun o q=>k _ _ (.inl rfl) q,⟨o,k _ _ (.inl rfl) e⟩,st⟩
theorem fk.lt (x:fk P w H h) (e:H a=some o):a<h.objs.size:=(x a o e).lt
theorem fk.fresh (x:fk P w H h) (e:h.objs.size≤a):H a=none:=by
 cases q:H a with
 | none=>rfl
 | some u=>exact absurd (Nat.lt_of_lt_of_le (x.lt q) e) (Nat.lt_irrefl _)
theorem fk.kept (x:fk P w H h) (k:∀b u,h.get? b=some u→h'.get? b=some u):fk P w H h':=fun a o e=>
 (x a o e).stay (fun b u _ q=>k b u q) (fun _ q=>q) fun _ _ q=>q
theorem fk.laid (x:fk P w H h) (k:∀b u,h.get? b=some u→h'.get? b=some u) (hp:h.objs.size≤a) (new:cZ P w (upd H a o) h' a o):fk P w (upd H a o) h':=fun b u e=>by
 have hn:=x.fresh hp
 by_cases hb:b=a
 ·subst hb;rw[ag] at e;cases e;exact new
 ·rw[bz hb] at e
  exact(x b u e).stay (fun c v _ q=>k c v q) (fun c q=>by rw[bz (bj q hn)];exact q) fun c xs q=>by rw[bz (bj q hn)];exact q
end
def Rd (H:Hp) (a:Addr) (u:HO):Prop:=H a=some u∨∃o,H a=some (.tB o u)
theorem Rd.ok {P:Program} {w:World} {H:Hp} {h:Heap} {a:Addr} {u:HO} (r:Rd H a u) (x:fk P w H h):cZ P w H h a u:=by
 rcases r with r | ⟨o,r⟩
 ·exact x a u r
 ·obtain⟨_,q⟩:=x a _ r
  exact q
def Ec:Option HO→Prop
 | some (.lst _)=>True
 | some (.dK _)=>True
 | some (.dT _)=>True
 | some (.set _ _)=>True
 | some (.ins _ _ _)=>True
 | some (.ext _)=>True
 | _=>False
section
variable {P:Program} {w:World} {H:Hp} {h h':Heap} {x e:Addr} {o':HO}
theorem fk.write (ok:fk P w H h) (mu:Ec (H x)) (he:e=x∨H e=some (.own x)) (k:∀b u,b≠e→h.get? b=some u→h'.get? b=some u) (heo:∃u,h'.get? e=some u)
  (new:cZ P w (upd H x o') h' x o'):fk P w (upd H x o') h':=fun b u q=>by
 have Lc:∀c y,H c=some (.own y)→c≠x:=fun c y r z=>by subst z;rw[r] at mu;exact mu
 have SM:∀c xs,H c=some (.tup xs)→c≠x:=fun c xs r z=>by subst z;rw[r] at mu;exact mu
 by_cases hb:b=x
 ·subst hb;rw[ag] at q;cases q;exact new
 ·rw[bz hb] at q
  by_cases hbe:b=e
  ·have q':H b=some (.own x):=by
    rcases he with z | z
    ·exact absurd (hbe.trans z) hb
    ·rw[hbe];exact z
   rw[q] at q';cases q'
   obtain⟨v,hv⟩:=heo
   exact⟨v,by rw[hbe];exact hv⟩
  ·refine(ok b u q).stay (fun c v hc r=>k c v ?_ r) (fun c r=>by rw[bz (Lc c b r)];exact r) fun c xs r=>by rw[bz (SM c xs r)];exact r
   rcases hc with rfl | hc
   ·exact hbe
   ·rintro rfl
    rcases he with z | z
    ·exact Lc c b hc z
    ·rw[hc] at z;cases z;exact hb rfl
end
structure Un (fs ex:List Addr) (H H':Hp) (h h':Heap):Prop where
 keep:∀b o,h.get? b=some o→H b=none→b ∉ fs→b ∉ ex→h'.get? b=some o
 slot:∀b o,h.get? b=some o→H b=none→b∈fs→b ∉ ex→∃sl,h'.get? b=some {o with slots:=sl}
 free:∀b o,h.get? b=some o→H b=none→b ∉ ex→H' b=none
 there:∀b o,h.get? b=some o→b ∉ ex→∃o',h'.get? b=some o'
 tups:∀b xs,H b=some (.tup xs)→H' b=some (.tup xs)
 oQ:∀b o u,H b=some (.tB o u)→H' b=some (.tB o u)
 pP:∀b ps,H b=some (.ye ps)→∃more,H' b=some (.ye (ps++more))
section
variable {fs fs' ex ex':List Addr} {H H1 H2:Hp} {h h1 h2 h':Heap} {a x e:Addr} {o:HO}
theorem Un.any (u:Un fs ex H H1 h h1) {b:Addr} {ob:Obj} (q:h.get? b=some ob) (n:H b=none) (hx:b ∉ ex):∃sl,h1.get? b=some {ob with slots:=sl}:=by
 by_cases hb:b∈fs
 ·exact u.slot b ob q n hb hx
 ·exact⟨ob.slots,u.keep b ob q n hb hx⟩
theorem Un.kept (k:∀b u,h.get? b=some u→h'.get? b=some u):Un fs ex H H h h':=
 ⟨fun b ob q _ _ _=>k b ob q,fun b ob q _ _ _=>⟨ob.slots,k b ob q⟩,fun _ _ _ n _=>n,fun b ob q _=>⟨ob,k b ob q⟩,fun _ _ q=>q,fun _ _ _ q=>q,fun _ ps q=>⟨#[],by rw[q];simp⟩⟩
theorem Un.refl:Un fs ex H H h h:=Un.kept fun _ _ q=>q
theorem Un.laid (k:∀b u,h.get? b=some u→h'.get? b=some u) (hp:h.objs.size≤a) (hn:H a=none):Un fs ex H (upd H a o) h h' where
 keep:=fun b u q _ _ _=>k b u q
 slot:=fun b u q _ _ _=>⟨u.slots,k b u q⟩
 free:=fun b u q n _=>by rw[bz (Nat.ne_of_lt (Nat.lt_of_lt_of_le (Heap.lt_size q) hp))];exact n
 there:=fun b u q _=>⟨u,k b u q⟩
 tups:=fun b xs q=>by rw[bz (bj q hn)];exact q
 oQ:=fun b u xs q=>by rw[bz (bj q hn)];exact q
 pP:=fun b ps q=>⟨#[],by rw[bz (bj q hn),q];simp⟩
theorem Un.write (mu:Ec (H x)) (he:e=x∨H e=some (.own x)) (k:∀b u,b≠e→h.get? b=some u→h'.get? b=some u) (heo:∃u,h'.get? e=some u):Un fs ex H (upd H x o) h h':=by
 have hx:∀b,H b=none→b≠x:=fun b n z=>by subst z;rw[n] at mu;exact mu
 have hb:∀b,H b=none→b≠e:=fun b n z=>by
  subst z
  rcases he with r | r
  ·exact hx b n r
  ·rw[n] at r;cases r
 have hm:∀b u,H b=some u→¬Ec (some u)→b≠x:=fun b u q nm z=>by subst z;rw[q] at mu;exact nm mu
 refine⟨fun b u q n _ _=>k b u (hb b n) q,fun b u q n _ _=>⟨u.slots,k b u (hb b n) q⟩,fun b u q n _=>by rw[bz (hx b n)];exact n,fun b u q _=>?_,
  fun b xs q=>by rw[bz (hm b _ q fun z=>z)];exact q,fun b u xs q=>by rw[bz (hm b _ q fun z=>z)];exact q,fun b ps q=>⟨#[],by rw[bz (hm b _ q fun z=>z),q];simp⟩⟩
 by_cases hbe:b=e
 ·subst hbe;exact heo
 ·exact⟨u,k b u hbe q⟩
end
def IQ (h:Heap) (H:Hp):List Addr:=(List.range h.objs.size).filter fun a=>(H a).isSome
def pQ (h:Heap) (H:Hp):Heap:=PySem.W.hideAll h (IQ h H)
theorem Ed (h:Heap) (H:Hp):(pQ h H).objs.size=h.objs.size:=PySem.W.hideAll_size _ _
theorem Gy {h:Heap} {H:Hp} {b:Addr} {o:Obj} (e:h.get? b=some o) (n:H b=none):(pQ h H).get? b=some o:=
 PySem.W.hideAll_get _ e fun hm=>by
  have q:(H b).isSome=true:=(List.mem_filter.mp hm).2
  rw[n] at q;simp at q
theorem Km {h:Heap} {H:Hp} {b:Addr} {o:Obj} (e:(pQ h H).get? b=some o):h.get? b=some o∧H b=none:=by
 have e':h.get? b=some o:=PySem.W.of_hideAll (IQ h H) e
 refine⟨e',?_⟩
 cases q:H b with
 | none=>rfl
 | some x=>
  have hm:b∈IQ h H:=List.mem_filter.mpr ⟨List.mem_range.mpr (Heap.lt_size e'),by simp[q]⟩
  have z:(pQ h H).get? b=none:=PySem.W.hideAll_none (IQ h H) hm
  rw[z] at e;cases e
structure Mod (K:PySem.W.Frag) (mg:Str→Option Value) (base:Heap):Prop where
 vW:K.In base
 glob:base.Ns mainGlobals mg
 blt:∃mb,base.Ns builtinsNs mb∧∀x:Str,x≠"__name__"→mb x=bootBuiltins x
 nolimit:base.NoLimit
structure Cx where
 prog:Program
 w:World
 K:PySem.W.Frag
 mg:Str→Option Value
 base:Heap
 A:Around
 N:List Str
 s₀:Shared
 H₀:Hp
 env:Env
 outer:List Env
 stack:List Env
 ex:List Addr
 fn:Str→Bool
 calm:Bool
 pn:List (Addr×Obj)
 xe:Value→Shared→Prop
def frs (l:List Env):List Addr:=l.filterMap (·.frame)
abbrev Cx.fs (X:Cx):List Addr:=frs X.outer
def Bz (sc:Scope) (x:Str):Prop:=sc.names.lookup x=some .local∨sc.names.lookup x=some .cell∨sc.names.lookup x=some .free
def Loc (sc:Scope) (x:Str):Prop:=sc.names.lookup x=some .local∨sc.names.lookup x=some .cell
def Look (env:Env) (h:Heap) (m:Str→Option Value) (x:Str) (u:Value):Prop:=
 (env.kindOf x=some .local∧m x=some u)∨((env.kindOf x=some .cell∨env.kindOf x=some .free)∧∃c,env.cells.lookup x=some c∧h.IsCell c (some u))
structure Cx.Ok (X:Cx):Prop where
 mod:Mod X.K X.mg X.base
 kind:X.env.scope.kind=.function
 glob:X.env.globals=mainGlobals
 blt:X.env.builtins=builtinsNs
 above:X.s₀.heap.objs.size≤X.env.locals
 inj:∀x y c,X.env.cells.lookup x=some c→X.env.cells.lookup y=some c→x=y
 has:∀x,(X.env.kindOf x=some .cell∨X.env.kindOf x=some .free)→∃c,X.env.cells.lookup x=some c
 cab:∀x c,X.fn x=true→X.env.cells.lookup x=some c→X.s₀.heap.objs.size≤c
 hd:X.calm=true→X.A.handled=none
 frames:X.A.frames=some X.stack
 stk:X.stack=X.outer∨(X.stack=X.env::X.outer∧X.env.frame=some X.env.locals)
 Ee:∀b∈X.ex,b≠X.env.locals∧∀x c,X.env.cells.lookup x=some c→c≠b
 bs:∀b o,X.base.get? b=some o→X.s₀.heap.get? b=some o∧X.H₀ b=none
 tD:X.base.objs.size≤X.s₀.heap.objs.size
 vm:∀b o,X.base.get? b=some o→b ∉ X.ex
 tS:∀b∈X.ex,b ∉ X.fs
 jE:X.s₀.heap.FunFrames X.base X.outer
 vX:∀b∈X.fs,X.H₀ b=none
structure Inv (X:Cx) (pins:List (Addr×Obj)) (σ:List (Option V)) (H:Hp) (s:Shared):Prop where
 ok:X.Ok
 os:s.os=X.s₀.os
 bare:AllBare s.gens
 base:Un X.fs X.ex X.H₀ H X.s₀.heap s.heap
 loc:∃m,s.heap.Ns X.env.locals m∧∀(i:Nat) (x:Str) (v:V),X.N[i]? =some x→σ[i]? =some (some v)→Bz X.env.scope x→∃u,RelV v u∧Look X.env s.heap m x u
 cell:∀x c,X.env.cells.lookup x=some c→∃v,s.heap.IsCell c v
 free:H X.env.locals=none
 hV:∀x c,X.env.cells.lookup x=some c→H c=none
 pin:∀p∈X.pn++pins,s.heap.get? p.1=some p.2∧H p.1=none∧p.1≠X.env.locals∧p.1 ∉ X.fs∧∀v,p.2.data≠.cell v
 hok:fk X.prog X.w H s.heap
 len:σ.length=X.N.length
section
variable {X:Cx} {pins:List (Addr×Obj)} {σ:List (Option V)} {H H':Hp} {s:Shared} {h':Heap}
theorem Cx.Ok.SN (ok:X.Ok) {b:Addr} {o:Obj} (e:X.base.get? b=some o):b ∉ X.fs:=fun hb=>by
 have:=(ok.jE.mem hb).1
 rw[e] at this;cases this
theorem Inv.bs (I:Inv X pins σ H s):∀b o,X.base.get? b=some o→s.heap.get? b=some o∧H b=none:=fun b o e=>
 ⟨I.base.keep b o (I.ok.bs b o e).1 (I.ok.bs b o e).2 (I.ok.SN e) (I.ok.vm b o e),I.base.free b o (I.ok.bs b o e).1 (I.ok.bs b o e).2 (I.ok.vm b o e)⟩
theorem Inv.bk (I:Inv X pins σ H s):∀b o,X.base.get? b=some o→s.heap.get? b=some o:=fun b o e=>(I.bs b o e).1
theorem Inv.mod (I:Inv X pins σ H s):Mod X.K X.mg X.base:=I.ok.mod
theorem Inv.ja (I:Inv X pins σ H s):X.K.In s.heap:=I.ok.mod.vW.keeps I.bk
theorem Inv.lt (I:Inv X pins σ H s):X.env.locals<s.heap.objs.size:=let ⟨_,hn,_⟩:=I.loc;hn.lt
theorem Inv.sz (I:Inv X pins σ H s):X.s₀.heap.objs.size≤s.heap.objs.size:=Nat.le_trans I.ok.above (Nat.le_of_lt I.lt)
theorem Inv.SO (I:Inv X pins σ H s) {a:Addr} (h:s.heap.objs.size≤a):a ∉ X.fs:=fun hb=>by
 obtain⟨_,o,ho,_⟩:=I.ok.jE.mem hb
 exact absurd (Nat.lt_of_lt_of_le (Heap.lt_size ho) (Nat.le_trans I.sz h)) (Nat.lt_irrefl _)
theorem Inv.ux (I:Inv X pins σ H s):∀x c,X.env.cells.lookup x=some c→c≠X.env.locals:=fun x c e z=>by
 obtain⟨v,o,ho,hd⟩:=I.cell x c e
 obtain⟨m,⟨o',es,ep,ho',hd',_⟩,_⟩:=I.loc
 rw[z,ho'] at ho;cases ho;rw[hd'] at hd;cases hd
theorem Inv.jE (I:Inv X pins σ H s):s.heap.FunFrames X.base X.outer:=by
 have all:∀(l:List Env),(∀b∈frs l,b∈X.fs)→X.s₀.heap.FunFrames X.base l→s.heap.FunFrames X.base l:=by
  intro l
  induction l with
  | nil=>intro _ _;trivial
  | cons env r ih=>
   intro hs hl
   obtain⟨hk,⟨L,o,hf,hn,ho,hd⟩,hr⟩:=hl
   have hL:L∈X.fs:=hs L (by unfold frs;rw[List.filterMap_cons,hf];exact List.mem_cons_self)
   obtain⟨sl,e⟩:=I.base.slot L o ho (I.ok.vX L hL) hL fun z=>I.ok.tS L z hL
   exact⟨hk,⟨L,_,hf,hn,e,hd⟩,ih (fun b hb=>hs b (by unfold frs;rw[List.filterMap_cons,hf];exact List.mem_cons_of_mem _ hb)) hr⟩
 exact all X.outer (fun _ hb=>hb) I.ok.jE
theorem Inv.stack (I:Inv X pins σ H s):s.heap.FunFrames X.base X.stack:=by
 rcases I.ok.stk with e | ⟨e,hf⟩
 ·rw[e];exact I.jE
 ·rw[e]
  obtain⟨m,hn,_⟩:=I.loc
  refine .cons (by rw[I.ok.kind];decide) hf hn ?_ I.jE
  exact Heap.get?_none_of_le (Nat.le_trans I.ok.tD I.ok.above)
theorem Inv.oZ (I:Inv X pins σ H s):∀b∈frs X.stack,b∈X.env.locals::X.fs:=fun b hb=>by
 rcases I.ok.stk with e | ⟨e,hf⟩
 ·rw[e] at hb;exact List.mem_cons_of_mem _ hb
 ·rw[e] at hb
  unfold frs at hb
  rw[List.filterMap_cons,hf] at hb
  exact hb
theorem Inv.sF (I:Inv X pins σ H s):∀b∈frs X.stack,H b=none:=fun b hb=>by
 rcases List.mem_cons.mp (I.oZ b hb) with e | hb
 ·rw[e];exact I.free
 ·obtain⟨_,o,ho,_⟩:=I.ok.jE.mem hb
  exact I.base.free b o ho (I.ok.vX b hb) fun z=>I.ok.tS b z hb
theorem Inv.step {g':Array GenState} {t':Nat} {d':Drawn} {ch:List Addr} (I:Inv X pins σ H s)
  (hch:∀b∈ch,(b∈X.ex∨X.s₀.heap.objs.size≤b)∧b≠X.env.locals∧(∀x c,X.env.cells.lookup x=some c→c≠b)∧∀p∈X.pn++pins,p.1≠b)
  (keep:∀b o,b≠X.env.locals→b ∉ X.fs→b ∉ ch→s.heap.get? b=some o→H b=none→h'.get? b=some o)
  (slot:∀b o,b≠X.env.locals→b∈X.fs→b ∉ ch→s.heap.get? b=some o→H b=none→∃sl,h'.get? b=some {o with slots:=sl}) (free:∀b o,b ∉ ch→s.heap.get? b=some o→H b=none→H' b=none)
  (there:∀b o,b ∉ ch→s.heap.get? b=some o→∃o',h'.get? b=some o')
  (tups:∀b xs,H b=some (.tup xs)→H' b=some (.tup xs)) (oQ:∀b o u,H b=some (.tB o u)→H' b=some (.tB o u)) (pP:∀b ps,H b=some (.ye ps)→∃more,H' b=some (.ye (ps++more)))
  (ns:∀m,s.heap.Ns X.env.locals m→h'.Ns X.env.locals m) (hok:fk X.prog X.w H' h') (hg:AllBare g'):
  Inv X pins σ H' {s with heap:=h',gens:=g',drawn:=d',toks:=t'}:=by
 have BA:∀b o,X.s₀.heap.get? b=some o→b≠X.env.locals:=fun b o e=>Nat.ne_of_lt (Nat.lt_of_lt_of_le (Heap.lt_size e) I.ok.above)
 have IT:∀b o,X.s₀.heap.get? b=some o→b ∉ X.ex→b ∉ ch:=fun b o e hx hb=>by
  rcases(hch b hb).1 with z | z
  ·exact hx z
  ·exact absurd (Nat.lt_of_lt_of_le (Heap.lt_size e) z) (Nat.lt_irrefl _)
 have cellK:∀x c,X.env.cells.lookup x=some c→∀v,s.heap.IsCell c v→h'.IsCell c v:=fun x c e v ⟨o,ho,hd⟩=>by
  have vY:c ∉ ch:=fun z=>(hch c z).2.2.1 x c e rfl
  by_cases hc:c∈X.fs
  ·obtain⟨sl,q⟩:=slot c o (I.ux x c e) hc vY ho (I.hV x c e)
   exact⟨_,q,hd⟩
  ·exact⟨o,keep c o (I.ux x c e) hc vY ho (I.hV x c e),hd⟩
 refine⟨I.ok,I.os,hg,⟨fun b o e n hb hx=>?_,fun b o e n hb hx=>?_,fun b o e n hx=>?_,fun b o e hx=>?_,fun b xs e=>tups b xs (I.base.tups b xs e),fun b o xs e=>oQ b o xs (I.base.oQ b o xs e),fun b ps e=>?_⟩,?_,fun x c e=>?_,?_,fun x c e=>?_,fun p hp=>?_,hok,I.len⟩
 ·exact keep b o (BA b o e) hb (IT b o e hx) (I.base.keep b o e n hb hx) (I.base.free b o e n hx)
 ·obtain⟨sl,e1⟩:=I.base.slot b o e n hb hx
  obtain⟨sl',e2⟩:=slot b _ (BA b o e) hb (IT b o e hx) e1 (I.base.free b o e n hx)
  exact⟨sl',e2⟩
 ·obtain⟨o',e1⟩:=I.base.there b o e hx
  exact free b o' (IT b o e hx) e1 (I.base.free b o e n hx)
 ·obtain⟨o',e1⟩:=I.base.there b o e hx
  exact there b o' (IT b o e hx) e1
 ·obtain⟨m1,e1⟩:=I.base.pP b ps e
  obtain⟨m2,e2⟩:=pP b _ e1
  exact⟨m1++m2,by rw[e2,Array.append_assoc]⟩
 ·obtain⟨m,hn,hl⟩:=I.loc
  refine⟨m,ns m hn,fun i x v e1 e2 e3=>?_⟩
  obtain⟨u,r,l⟩:=hl i x v e1 e2 e3
  refine⟨u,r,?_⟩
  rcases l with l | ⟨k,c,e,z⟩
  ·exact .inl l
  ·exact .inr ⟨k,c,e,cellK x c e _ z⟩
 ·obtain⟨v,z⟩:=I.cell x c e
  exact⟨v,cellK x c e v z⟩
 ·obtain⟨m,⟨o,_,_,ho,_⟩,_⟩:=I.loc
  exact free _ o (fun z=>(hch _ z).2.1 rfl) ho I.free
 ·obtain⟨v,o,ho,hd⟩:=I.cell x c e
  exact free c o (fun z=>(hch c z).2.2.1 x c e rfl) ho (I.hV x c e)
 ·obtain⟨e,n,ne,nf,d⟩:=I.pin p hp
  have vY:p.1 ∉ ch:=fun z=>(hch p.1 z).2.2.2 p hp rfl
  exact⟨keep p.1 p.2 ne nf vY e n,free p.1 p.2 vY e n,ne,nf,d⟩
theorem Inv.un {t':Nat} (I:Inv X pins σ H s) (u:Un X.fs [] H H' s.heap h') (hok:fk X.prog X.w H' h'):Inv X pins σ H' {s with heap:=h',toks:=t'}:=by
 obtain⟨m,⟨o,es,ep,ho,r⟩,_⟩:=id I.loc
 obtain⟨sl,hL⟩:=u.any ho I.free (by simp)
 exact I.step (g':=s.gens) (d':=s.drawn) (ch:=[]) (fun _ z=>nomatch z) (fun b o _ hb _ e n=>u.keep b o e n hb (by simp)) (fun b o _ hb _ e n=>u.slot b o e n hb (by simp)) (fun b o _ e n=>u.free b o e n (by simp)) (fun b o _ e=>u.there b o e (by simp)) u.tups u.oQ u.pP (fun m' hm=>by
  obtain⟨o',es',ep',ho',r'⟩:=hm
  rw[ho] at ho';cases ho'
  exact⟨_,es',ep',hL,r'⟩) hok I.bare
theorem Inv.call {g':Array GenState} {t':Nat} {d':Drawn} {ch:List Addr} (I:Inv X pins σ H s) (u:Un (frs X.stack) ch H H' s.heap h') (hok:fk X.prog X.w H' h') (hg:AllBare g')
  (hch:∀b∈ch,(b∈X.ex∨X.s₀.heap.objs.size≤b)∧b≠X.env.locals∧(∀x c,X.env.cells.lookup x=some c→c≠b)∧∀p∈X.pn++pins,p.1≠b):
  Inv X pins σ H' {s with heap:=h',gens:=g',drawn:=d',toks:=t'}:=by
 obtain⟨m,⟨o,es,ep,ho,r⟩,_⟩:=id I.loc
 obtain⟨sl,hL⟩:=u.any ho I.free fun z=>(hch _ z).2.1 rfl
 exact I.step (ch:=ch) hch (fun b o hL hb hc e n=>u.keep b o e n (fun z=>(List.mem_cons.mp (I.oZ b z)).elim hL hb) hc) (fun b o _ _ hc e n=>u.any e n hc) (fun b o hc e n=>u.free b o e n hc) (fun b o hc e=>u.there b o e hc) u.tups u.oQ u.pP (fun m' hm=>by
  obtain⟨o',es',ep',ho',r'⟩:=hm
  rw[ho] at ho';cases ho'
  exact⟨_,es',ep',hL,r'⟩) hok hg
theorem Inv.turned {t':Nat} {it:Addr} (I:Inv X pins σ H s) (k:∀b o,b≠it→s.heap.get? b=some o→h'.get? b=some o) (hn:H it=none) (hL:it≠X.env.locals)
  (h1:it∈X.ex∨X.s₀.heap.objs.size≤it) (h2:∀x c,X.env.cells.lookup x=some c→c≠it) (h3:∀p∈X.pn++pins,p.1≠it):Inv X pins σ H {s with heap:=h',toks:=t'}:=by
 have QT:∀b u,H b=some u→b≠it:=fun b u e z=>by rw[z,hn] at e;cases e
 refine I.step (g':=s.gens) (d':=s.drawn) (ch:=[it]) (fun b hb=>?_) (fun b o _ _ hc e _=>k b o (fun z=>hc (by simp[z])) e) (fun b o _ _ hc e _=>⟨o.slots,k b o (fun z=>hc (by simp[z])) e⟩) (fun _ _ _ _ n=>n)
  (fun b o hc e=>⟨o,k b o (fun z=>hc (by simp[z])) e⟩) (fun _ _ e=>e) (fun _ _ _ e=>e) (fun b ps e=>⟨#[],by rw[e];simp⟩) (fun m hm=>?_) (fun b u e=>?_) I.bare
 ·have e:b=it:=by simpa using hb
  subst e
  exact⟨h1,hL,h2,h3⟩
 ·obtain⟨o,es,ep,ho,r⟩:=hm
  exact⟨o,es,ep,k _ o (Ne.symm hL) ho,r⟩
 ·refine(I.hok b u e).stay (fun c v hc q=>k c v ?_ q) (fun _ q=>q) fun _ _ q=>q
  rcases hc with z | z
  ·rw[z];exact QT b u e
  ·exact QT c _ z
theorem Inv.tok (I:Inv X pins σ H s) (t:Nat):Inv X pins σ H {s with toks:=t}:=I.un (h':=s.heap) (t':=t) Un.refl I.hok
theorem Inv.kept {t':Nat} (I:Inv X pins σ H s) (k:∀b u,s.heap.get? b=some u→h'.get? b=some u):Inv X pins σ H {s with heap:=h',toks:=t'}:=I.un (Un.kept k) (I.hok.kept k)
theorem Inv.laid {a:Addr} {o:HO} {t':Nat} (I:Inv X pins σ H s) (k:∀b u,s.heap.get? b=some u→h'.get? b=some u) (hp:s.heap.objs.size≤a) (new:cZ X.prog X.w (upd H a o) h' a o):
  Inv X pins σ (upd H a o) {s with heap:=h',toks:=t'}:=I.un (Un.laid k hp (I.hok.fresh hp)) (I.hok.laid k hp new)
theorem Inv.write {x e:Addr} {o:HO} {t':Nat} (I:Inv X pins σ H s) (mu:Ec (H x)) (he:e=x∨H e=some (.own x)) (k:∀b u,b≠e→s.heap.get? b=some u→h'.get? b=some u) (heo:∃u,h'.get? e=some u)
  (new:cZ X.prog X.w (upd H x o) h' x o):Inv X pins σ (upd H x o) {s with heap:=h',toks:=t'}:=I.un (Un.write mu he k heo) (I.hok.write mu he k heo new)
theorem Inv.BB {CG:List (Addr×Obj)} (I:Inv X pins σ H s) (h:∀p∈CG,s.heap.get? p.1=some p.2∧H p.1=none∧p.1≠X.env.locals∧p.1 ∉ X.fs∧∀v,p.2.data≠.cell v):Inv X CG σ H s:=
 ⟨I.ok,I.os,I.bare,I.base,I.loc,I.cell,I.free,I.hV,fun p hp=>(List.mem_append.mp hp).elim (fun z=>I.pin p (List.mem_append_left _ z)) (h p),I.hok,I.len⟩
theorem tT {N:List Str} (hN:N.Nodup) {i j:Nat} {x:Str} (a:N[i]? =some x) (b:N[j]? =some x):i=j:=by
 obtain⟨h1,e1⟩:=List.getElem?_eq_some_iff.mp a
 obtain⟨h2,e2⟩:=List.getElem?_eq_some_iff.mp b
 exact(List.getElem_inj hN).mp (e1.trans e2.symm)
theorem qP {M:Model} {A:Around} {E:Value→Shared→Prop} {i:Nat} {x:Str} {v:V} {u:Value} {Q:Unit→Shared→Prop} (I:Inv X pins σ H s) (hN:X.N.Nodup) (hi:X.N[i]? =some x) (hx:Loc X.env.scope x) (r:RelV v u)
  (h:∀s',Inv X pins (σ.set i (some v)) H s'→(∃a,Heap.SameBut a s.heap s'.heap∧(a=X.env.locals∨X.env.cells.lookup x=some a))→Q () s') (hf:X.fn x=true∨X.env.scope.names.lookup x=some .local:=by first | exact .inl rfl | exact .inr rfl | assumption):wpAny M A (storeName X.env x u) Q E s:=by
 obtain⟨m,hn,hl⟩:=id I.loc
 have hcls:(X.env.scope.kind == .class||(X.env.scope.kind == .module&&X.env.locals != X.env.globals))=false:=by rw[I.ok.kind];rfl
 have QU:i<σ.length:=by rw[I.len];exact(List.getElem?_eq_some_iff.mp hi).1
 have ux:=I.ux
 have tracked:∀{a:Addr} {h':Heap},(∃o,s.heap.get? a=some o∧H a=none)→Heap.SameBut a s.heap h'→fk X.prog X.w H h':=fun {a h'} ha hs b ob e=>by
  obtain⟨_,_,hfree⟩:=ha
  refine(I.hok b ob e).stay (fun c w' hc q=>(hs.2 c ?_).trans q) (fun _ q=>q) fun _ _ q=>q
  rintro rfl
  rcases hc with rfl | hc
  ·rw[hfree] at e;cases e
  ·rw[hfree] at hc;cases hc
 rcases hx with hk | hk
 ·refine wpAny_storeName_local hk hn (fun h' hn' hs=>?_) hcls
  obtain⟨oL,_,_,hoL,_⟩:=id hn
  refine h _ ⟨I.ok,I.os,I.bare,⟨fun b o e n hb hx=>?_,fun b o e n hb hx=>?_,I.base.free,fun b o e hx=>?_,I.base.tups,I.base.oQ,I.base.pP⟩,⟨_,hn',fun j y v' e1 e2 e3=>?_⟩,fun y c e=>?_,I.free,I.hV,fun p hp=>?_,tracked ⟨oL,hoL,I.free⟩ hs,by simpa using I.len⟩ ⟨_,hs,.inl rfl⟩
  ·exact(hs.2 b (Nat.ne_of_lt (Nat.lt_of_lt_of_le (Heap.lt_size e) I.ok.above))).trans (I.base.keep b o e n hb hx)
  ·obtain⟨sl,e1⟩:=I.base.slot b o e n hb hx
   exact⟨sl,(hs.2 b (Nat.ne_of_lt (Nat.lt_of_lt_of_le (Heap.lt_size e) I.ok.above))).trans e1⟩
  ·obtain⟨o',e1⟩:=I.base.there b o e hx
   exact⟨o',(hs.2 b (Nat.ne_of_lt (Nat.lt_of_lt_of_le (Heap.lt_size e) I.ok.above))).trans e1⟩
  ·by_cases hj:j=i
   ·subst hj
    rw[hi] at e1;cases e1
    rw[List.getElem?_set_self QU] at e2
    cases e2
    exact⟨u,r,.inl ⟨hk,by simp⟩⟩
   ·rw[List.getElem?_set_ne (Ne.symm hj)] at e2
    obtain⟨u',r',q⟩:=hl j y v' e1 e2 e3
    refine⟨u',r',?_⟩
    rcases q with⟨k,e⟩ | ⟨k,c,e,z⟩
    ·refine .inl ⟨k,?_⟩
     have:y≠x:=fun e=>hj (tT hN e1 (e▸hi))
     simp[this,e]
    ·exact .inr ⟨k,c,e,z.sameBut hs (ux y c e)⟩
  ·obtain⟨w',z⟩:=I.cell y c e
   exact⟨w',z.sameBut hs (ux y c e)⟩
  ·obtain⟨e,n,ne,nf,d⟩:=I.pin p hp
   exact⟨(hs.2 p.1 ne).trans e,n,ne,nf,d⟩
 ·have hfn:X.fn x=true:=by
   rcases hf with z | z
   ·exact z
   ·rw[z] at hk;cases hk
  obtain⟨c,hc⟩:=I.ok.has x (.inl hk)
  obtain⟨w',z⟩:=I.cell x c hc
  refine wpAny_storeName_cell I.ok.kind hk hc z (fun h' hc' hs=>?_)
  obtain⟨oc,hoc,SQ⟩:=id z
  refine h {s with heap:=h'} ⟨I.ok,I.os,I.bare,⟨fun b o e n hb hx=>?_,fun b o e n hb hx=>?_,I.base.free,fun b o e hx=>?_,I.base.tups,I.base.oQ,I.base.pP⟩,⟨m,hn.sameBut hs (Ne.symm (ux x c hc)),fun j y v' e1 e2 e3=>?_⟩,fun y c' e=>?_,I.free,I.hV,fun p hp=>?_,tracked ⟨oc,hoc,I.hV x c hc⟩ hs,by simpa using I.len⟩ ⟨c,hs,.inr hc⟩
  ·exact(hs.2 b (Nat.ne_of_lt (Nat.lt_of_lt_of_le (Heap.lt_size e) (I.ok.cab x c hfn hc)))).trans (I.base.keep b o e n hb hx)
  ·obtain⟨sl,e1⟩:=I.base.slot b o e n hb hx
   exact⟨sl,(hs.2 b (Nat.ne_of_lt (Nat.lt_of_lt_of_le (Heap.lt_size e) (I.ok.cab x c hfn hc)))).trans e1⟩
  ·obtain⟨o',e1⟩:=I.base.there b o e hx
   exact⟨o',(hs.2 b (Nat.ne_of_lt (Nat.lt_of_lt_of_le (Heap.lt_size e) (I.ok.cab x c hfn hc)))).trans e1⟩
  ·by_cases hj:j=i
   ·subst hj
    rw[hi] at e1;cases e1
    rw[List.getElem?_set_self QU] at e2
    cases e2
    exact⟨u,r,.inr ⟨.inl hk,c,hc,hc'⟩⟩
   ·rw[List.getElem?_set_ne (Ne.symm hj)] at e2
    obtain⟨u',r',q⟩:=hl j y v' e1 e2 e3
    refine⟨u',r',?_⟩
    rcases q with q | ⟨k,c',e,z'⟩
    ·exact .inl q
    ·refine .inr ⟨k,c',e,z'.sameBut hs ?_⟩
     rintro rfl
     exact hj (tT hN e1 (I.ok.inj _ _ _ e hc▸hi))
  ·by_cases hcc:c'=c
   ·subst hcc;exact⟨_,hc'⟩
   ·obtain⟨w2,z2⟩:=I.cell y c' e
    exact⟨w2,z2.sameBut hs hcc⟩
  ·obtain⟨e,n,ne,nf,d⟩:=I.pin p hp
   refine⟨(hs.2 p.1 ?_).trans e,n,ne,nf,d⟩
   intro q
   rw[q,hoc] at e
   have q':oc=p.2:=Option.some.inj e
   exact d w' (by rw[←q'];exact SQ)
theorem pR {M:Model} {A:Around} {E:Value→Shared→Prop} {i:Nat} {x:Str} {v:V} {u:Value} {Q:Unit→Shared→Prop} (I:Inv X pins σ H s) (hN:X.N.Nodup) (hi:X.N[i]? =some x) (hx:Loc X.env.scope x) (r:RelV v u)
  (h:∀s',Inv X pins (σ.set i (some v)) H s'→Q () s') (hf:X.fn x=true∨X.env.scope.names.lookup x=some .local:=by first | exact .inl rfl | exact .inr rfl | assumption):wpAny M A (storeName X.env x u) Q E s:=
 qP I hN hi hx r (fun s' I' _=>h s' I') hf
theorem Inv.call' {s':Shared} {ch:List Addr} (I:Inv X pins σ H s) (ho:s'.os=s.os) (u:Un (frs X.stack) ch H H' s.heap s'.heap) (hok:fk X.prog X.w H' s'.heap) (hg:AllBare s'.gens)
  (hch:∀b∈ch,(b∈X.ex∨X.s₀.heap.objs.size≤b)∧b≠X.env.locals∧(∀x c,X.env.cells.lookup x=some c→c≠b)∧∀p∈X.pn++pins,p.1≠b):Inv X pins σ H' s':=by
 obtain⟨h',g',d',t',o'⟩:=s'
 have e:o'=s.os:=ho
 subst e
 exact I.call (g':=g') (t':=t') (d':=d') u hok hg hch
end
abbrev XK:=Value→Option Addr→Hp→Prop
abbrev St:=List (Option V)
abbrev VK:=V→Hp→Prop
abbrev TE:=St→Hp→VK→Prop
abbrev TT:=St→Hp→(Bool→Hp→Prop)→Prop
abbrev TA:=St→Hp→(List V→Hp→Prop)→Prop
structure Ends where
 nx:St→Hp→Prop
 rt:VK
 bk:St→Hp→Prop:=fun _ _=>False
 ct:St→Hp→Prop:=fun _ _=>False
abbrev TS:=Ends→St→Hp→Prop
def EP (X:Cx) (pins:List (Addr×Obj)) (σ:St) (Q:VK) (u:Value) (s':Shared):Prop:=∃v H',Inv X pins σ H' s'∧RelV v u∧Q v H'
def TP (X:Cx) (pins:List (Addr×Obj)) (σ:St) (Q:Bool→Hp→Prop) (b:Bool) (s':Shared):Prop:=∃H',Inv X pins σ H' s'∧Q b H'
def AP (X:Cx) (pins:List (Addr×Obj)) (σ:St) (Q:List V→Hp→Prop) (us:List Value) (s':Shared):Prop:=∃vs H',Inv X pins σ H' s'∧Vals vs us∧Q vs H'
def SP (X:Cx) (pins:List (Addr×Obj)) (D:Ends) (f:Flow) (s':Shared):Prop:=
 match f with
 | .next=>∃σ' H',Inv X pins σ' H' s'∧D.nx σ' H'
 | .brk=>∃σ' H',Inv X pins σ' H' s'∧D.bk σ' H'
 | .cont=>∃σ' H',Inv X pins σ' H' s'∧D.ct σ' H'
 | .ret u=>∃v σ' H',Inv X pins σ' H' s'∧RelV v u∧D.rt v H'
def PE (X:Cx) (e:Expr) (t:TE):Prop:=
 ∀(pins:List (Addr×Obj)) (s:Shared) (σ:St) (H:Hp) (Q:VK),Inv X pins σ H s→t σ H Q→wpAny (model X.prog X.w) X.A (eval e X.env) (EP X pins σ Q) X.xe s
def PT (X:Cx) (e:Expr) (t:TT):Prop:=
 ∀(pins:List (Addr×Obj)) (s:Shared) (σ:St) (H:Hp) (Q:Bool→Hp→Prop),Inv X pins σ H s→t σ H Q→wpAny (model X.prog X.w) X.A (isTrue e X.env (eval e X.env)) (TP X pins σ Q) X.xe s
def PW (X:Cx) (e:Expr) (t:TT):Prop:=
 ∀(whole:Sem Value) (pins:List (Addr×Obj)) (s:Shared) (σ:St) (H:Hp) (Q:Bool→Hp→Prop),Inv X pins σ H s→t σ H Q→wpAny (model X.prog X.w) X.A (isTrue e X.env whole) (TP X pins σ Q) X.xe s
theorem PW.pt {X:Cx} {e:Expr} {t:TT} (h:PW X e t):PT X e t:=h _
def PA (X:Cx) (es:List Expr) (t:TA):Prop:=
 ∀(pos:Pos) (pins:List (Addr×Obj)) (s:Shared) (σ:St) (H:Hp) (Q:List V→Hp→Prop),Inv X pins σ H s→t σ H Q→wpAny (model X.prog X.w) X.A (spliced (backTo pos (starEach es X.env))) (AP X pins σ Q) X.xe s
def PS (X:Cx) (st:Stmt) (t:TS):Prop:=
 ∀(pins:List (Addr×Obj)) (s:Shared) (σ:St) (H:Hp) (D:Ends),Inv X pins σ H s→t D σ H→wpAny (model X.prog X.w) X.A (exec st X.env) (SP X pins D) X.xe s
def mm (X:Cx) (st:List Stmt) (t:TS):Prop:=
 ∀(pins:List (Addr×Obj)) (s:Shared) (σ:St) (H:Hp) (D:Ends),Inv X pins σ H s→t D σ H→wpAny (model X.prog X.w) X.A (execs st X.env) (SP X pins D) X.xe s
theorem bf {α:Type} {t:Sem α} {Q Q':α→Shared→Prop} {M:Model} {A:Around} {E:Value→Shared→Prop} {s:Shared} (h:wpAny M A t Q E s) (hQ:∀a s,Q a s→Q' a s):wpAny M A t Q' E s:=wpAny_mono h hQ fun _ _ x=>x
section
variable {X:Cx}
def qQ (i:Nat):TE:=fun σ H Q=>∃v,σ[i]? =some (some v)∧Q v H
def tC (v:V):TE:=fun _ H Q=>Q v H
theorem Ld {i:Nat} {x:Str} {pos:Pos} (hN:X.N[i]? =some x) (hv:Bz X.env.scope x) (hd:(x == ("__debug__":Str))=false:=by decide) (hcd:(x == ("__classdict__":Str))=false:=by decide):PE X (.Name x pos) (qQ i):=by
 intro pins s σ H Q I h
 obtain⟨v,e,h⟩:=h
 obtain⟨m,hn,hl⟩:=I.loc
 obtain⟨u,r,l⟩:=hl i x v hN e hv
 have fin:EP X pins σ Q u s:=⟨v,H,I,r,h⟩
 rcases l with⟨hk,hm⟩ | ⟨hk,c,hc,hcell⟩
 ·exact wpAny_Name (wpAny_loadName_local I.ok.kind hk hn hm fin) hd
 ·rcases hk with hk | hk
  ·exact wpAny_Name (wpAny_loadName_cell I.ok.kind hk hc hcell fin) hd
  ·exact wpAny_Name (wpAny_loadName_free I.ok.kind hk hc hcell fin hcd) hd
theorem ai {i j pos}:PE X (.Constant (.int i) j pos) (tC (.int i)):=fun _ _ _ H _ I h=>wpAny_Constant_int ⟨.int i,H,I.tok _,⟨_,rfl⟩,h⟩
theorem jb {b j pos}:PE X (.Constant (.bool b) j pos) (tC (.bl b)):=fun _ _ _ H _ I h=>Constant_bool ⟨.bl b,H,I,rfl,h⟩
theorem o_ {j pos}:PE X (.Constant .none j pos) (tC .non):=fun _ _ _ H _ I h=>Constant_none ⟨.non,H,I,rfl,h⟩
theorem ah {x j pos}:PE X (.Constant (.str x) j pos) (tC (.str x)):=fun _ _ _ H _ I h=>Calls.Constant_str ⟨.str x,H,I.tok _,⟨_,rfl⟩,h⟩
def Gl (X:Cx) (x:Str):Prop:=X.env.kindOf x=some .globalImplicit
theorem jF {E:Value→Shared→Prop} {pins:List (Addr×Obj)} {s:Shared} {σ:St} {H:Hp} {x:Str} {u:Value} {pos:Pos} {Q:Value→Shared→Prop} (I:Inv X pins σ H s) (hg:Gl X x) (hm:X.mg x=some u) (h:Q u s)
  (hd:(x == ("__debug__":Str))=false:=by decide):wpAny (model X.prog X.w) X.A (eval (.Name x pos) X.env) Q E s:=
 Calls.Name_function_global I.ok.kind hg (Calls.loadGlobal_global (by rw[I.ok.glob];exact I.mod.glob.keeps I.bk) hm h) hd
theorem km {E:Value→Shared→Prop} {pins:List (Addr×Obj)} {s:Shared} {σ:St} {H:Hp} {x:Str} {u:Value} {pos:Pos} {Q:Value→Shared→Prop} (I:Inv X pins σ H s) (hg:Gl X x) (hm:X.mg x=none) (hv:bootBuiltins x=some u) (h:Q u s)
  (hn:x≠"__name__":=by decide) (hd:(x == ("__debug__":Str))=false:=by decide):wpAny (model X.prog X.w) X.A (eval (.Name x pos) X.env) Q E s:=by
 obtain⟨mb,h1,h2⟩:=I.mod.blt
 exact Calls.Name_function_global I.ok.kind hg (Calls.loadGlobal_builtin (by rw[I.ok.glob];exact I.mod.glob.keeps I.bk) hm (by rw[I.ok.blt];exact h1.keeps I.bk) ((h2 x hn).trans hv) h) hd
theorem dM {x:Str} {v:V} {u:Value} {pos:Pos} (hg:Gl X x) (hm:X.mg x=some u) (r:RelV v u) (hd:(x == ("__debug__":Str))=false:=by decide):PE X (.Name x pos) (tC v):=
 fun _ _ _ H _ I h=>jF I hg hm ⟨v,H,I,r,h⟩ hd
theorem Kn {x:Str} {v:V} {u:Value} {pos:Pos} (hg:Gl X x) (hm:X.mg x=none) (hv:bootBuiltins x=some u) (r:RelV v u) (hn:x≠"__name__":=by decide) (hd:(x == ("__debug__":Str))=false:=by decide):PE X (.Name x pos) (tC v):=
 fun _ _ _ H _ I h=>km I hg hm hv ⟨v,H,I,r,h⟩ hn hd
variable {a b:Expr} {ta tb:TE} {pos:Pos}
variable {tA IU:TT} {rest:List Expr}
def SR (t u:TT):TT:=fun σ H Q=>t σ H fun c H1=>if c=true then u σ H1 Q else Q false H1
def Le (t u:TT):TT:=fun σ H Q=>t σ H fun c H1=>if c=true then Q true H1 else u σ H1 Q
def SU (t:TT):TT:=fun σ H Q=>t σ H fun c H1=>Q (!c) H1
theorem jG (ha:PT X a tA):PW X (.BoolOp .And [a] pos) tA:=by
 intro wh pins s σ H Q I h
 refine isTrue_and (bf (ha pins s σ H Q I h) fun c s1 e=>?_)
 cases c with
 | true=>exact isTrue_and_nil e
 | false=>exact e
theorem jc (ha:PT X a tA):PW X (.BoolOp .Or [a] pos) tA:=by
 intro wh pins s σ H Q I h
 refine isTrue_or (bf (ha pins s σ H Q I h) fun c s1 e=>?_)
 cases c with
 | false=>exact isTrue_or_nil e
 | true=>exact e
theorem jd (ha:PT X a tA) (hb:PW X (.BoolOp .And (b::rest) pos) IU):PW X (.BoolOp .And (a::b::rest) pos) (SR tA IU):=by
 intro wh pins s σ H Q I h
 refine isTrue_and (bf (ha pins s σ H _ I h) fun c s1 ⟨H1,I1,q1⟩=>?_)
 cases c with
 | true=>exact hb wh pins s1 σ H1 Q I1 q1
 | false=>exact⟨H1,I1,q1⟩
theorem je (ha:PT X a tA) (hb:PW X (.BoolOp .Or (b::rest) pos) IU):PW X (.BoolOp .Or (a::b::rest) pos) (Le tA IU):=by
 intro wh pins s σ H Q I h
 refine isTrue_or (bf (ha pins s σ H _ I h) fun c s1 ⟨H1,I1,q1⟩=>?_)
 cases c with
 | true=>exact⟨H1,I1,q1⟩
 | false=>exact hb wh pins s1 σ H1 Q I1 q1
theorem o4 (ha:PT X a tA):PT X (.UnaryOp .Not a pos) (SU tA):=by
 intro pins s σ H Q I h
 exact isTrue_not (ha pins s σ H (fun c H1=>Q (!c) H1) I h)
def O5 (ta tb:TE):TE:=fun σ H Q=>ta σ H fun x H1=>∃c,x=.bl c∧if c=true then tb σ H1 Q else Q (.bl false) H1
def SV (ta tb:TE):TE:=fun σ H Q=>ta σ H fun x H1=>∃c,x=.bl c∧if c=true then Q (.bl true) H1 else tb σ H1 Q
def O6 (ta:TE):TE:=fun σ H Q=>ta σ H fun x H1=>∃c,x=.bl c∧Q (.bl (!c)) H1
theorem yf {op} {t:TE} (h:PE X a t):PE X (.BoolOp op [a] pos) t:=fun pins s σ H Q I hw=>BoolOp_one (h pins s σ H Q I hw)
theorem Ef (ha:PE X a ta) (hb:PE X (.BoolOp .And (b::rest) pos) tb):PE X (.BoolOp .And (a::b::rest) pos) (O5 ta tb):=by
 intro pins s σ H Q I h
 refine BoolOp_and (bf (ha pins s σ H _ I h) fun v s1 ⟨x,H1,I1,r1,q1⟩=>?_)
 obtain⟨c,rfl,q1⟩:=q1
 cases r1
 refine wpAny_truthy_bool ?_
 cases c with
 | true=>exact hb pins s1 σ H1 Q I1 q1
 | false=>exact⟨.bl false,H1,I1,rfl,q1⟩
theorem O7 (ha:PE X a ta) (hb:PE X (.BoolOp .Or (b::rest) pos) tb):PE X (.BoolOp .Or (a::b::rest) pos) (SV ta tb):=by
 intro pins s σ H Q I h
 refine BoolOp_or (bf (ha pins s σ H _ I h) fun v s1 ⟨x,H1,I1,r1,q1⟩=>?_)
 obtain⟨c,rfl,q1⟩:=q1
 cases r1
 refine wpAny_truthy_bool ?_
 cases c with
 | false=>exact hb pins s1 σ H1 Q I1 q1
 | true=>exact⟨.bl true,H1,I1,rfl,q1⟩
theorem Lf (ha:PE X a ta):PE X (.UnaryOp .Not a pos) (O6 ta):=by
 intro pins s σ H Q I h
 refine UnaryOp_ (bf (ha pins s σ H _ I h) fun v s1 ⟨x,H1,I1,r1,q1⟩=>?_)
 obtain⟨c,rfl,q1⟩:=q1
 cases r1
 exact not_of (wpAny_truthy_bool ⟨.bl (!c),H1,I1,rfl,q1⟩)
def Zw (t:TT) (ta tb:TE):TE:=fun σ H Q=>t σ H fun c H1=>if c=true then ta σ H1 Q else tb σ H1 Q
theorem pS {c:Expr} (hc:PT X c tA) (ha:PE X a ta) (hb:PE X b tb):PE X (.IfExp c a b pos) (Zw tA ta tb):=by
 intro pins s σ H Q I h
 refine wpAny_IfExp (bf (hc pins s σ H _ I h) fun d s1 ⟨H1,I1,q1⟩=>?_)
 cases d with
 | true=>exact ha pins s1 σ H1 Q I1 q1
 | false=>exact hb pins s1 σ H1 Q I1 q1
end
def cf (K:PySem.W.Frag) (H:Hp) (a:Addr) (xs:List V):Prop:=
 Rd H a (.lst xs)∨
  ∃(o:Obj) (its:Array Value) (n:Nat),K.lookup a=some o∧o.cls=.type "list"∧o.dict=none∧o.data=.seq its n∧its.size≤sizeLine∧Vals xs its.toList
def cp (K:PySem.W.Frag) (H:Hp) (a:Addr) (xs:List V):Prop:=
 Rd H a (.tup xs)∨
  ∃(o:Obj) (its:Array Value) (n:Nat),K.lookup a=some o∧o.cls=.type "tuple"∧o.data=.seq its n∧its.size≤sizeLine∧Vals xs its.toList
def SW:Value→Option V
 | .none=>some .non
 | .bool b=>some (.bl b)
 | .int i _=>some (.int i)
 | .str x _=>some (.str x)
 | .bytes b _=>some (.lA b)
 | .float b _=>some (.flt b)
 | .ref a=>some (.ref a)
 | .type n=>some (.ty n)
 | _=>none
theorem RelV.abs {x:V} {u:Value} (r:RelV x u):SW u=some x:=by
 cases x with
 | non=>cases r;rfl
 | bl _=>cases r;rfl
 | int _=>obtain⟨t,rfl⟩:=r;rfl
 | str _=>obtain⟨t,rfl⟩:=r;rfl
 | lA _=>obtain⟨t,rfl⟩:=r;rfl
 | flt _=>obtain⟨t,rfl⟩:=r;rfl
 | ref _=>cases r;rfl
 | ty _=>cases r;rfl
theorem RelV.inj {x y:V} {u:Value} (r:RelV x u) (q:RelV y u):x=y:=Option.some.inj (r.abs.symm.trans q.abs)
theorem Vals.inj:∀{xs ys:List V} {us:List Value},Vals xs us→Vals ys us→xs=ys
 | _,_,_,.nil,.nil=>rfl
 | _,_,_,.cons r t,.cons r' t'=>by rw[r.inj r',Vals.inj t t']
section
variable {X:Cx} {pins:List (Addr×Obj)} {σ:St} {H:Hp} {s:Shared} {a:Addr} {xs ys:List V}
theorem cf.of {K:PySem.W.Frag} (h:H a=some (.lst xs)):cf K H a xs:=.inl (.inl h)
theorem cp.of {K:PySem.W.Frag} (h:H a=some (.tup xs)):cp K H a xs:=.inl (.inl h)
theorem Inv.list (I:Inv X pins σ H s) (h:cf X.K H a xs):∃its:List Value,Vals xs its∧PlainL s.heap a its.toArray∧xs.length≤sizeLine:=by
 rcases h with h | ⟨o,its,n,hk,hc,hd,hs,hz,r⟩
 ·obtain⟨z,its,n,r,e⟩:=h.ok I.hok
  exact⟨its,r,⟨_,n,e,rfl,rfl,rfl⟩,z⟩
 ·refine⟨its.toList,r,⟨o,n,I.ja a o hk,hc,hd,by simpa using hs⟩,?_⟩
  have e:=r.length
  simp only[Array.length_toList] at e
  omega
theorem Inv.tuple (I:Inv X pins σ H s) (h:cp X.K H a xs):∃its:List Value,Vals xs its∧IsTup s.heap a its.toArray∧xs.length≤sizeLine:=by
 rcases h with h | ⟨o,its,n,hk,hc,hs,hz,r⟩
 ·obtain⟨z,its,r,p⟩:=h.ok I.hok
  exact⟨its,r,p,z.1⟩
 ·refine⟨its.toList,r,⟨o,I.ja a o hk,hc,n,by simpa using hs⟩,?_⟩
  have e:=r.length
  simp only[Array.length_toList] at e
  omega
theorem Inv.tU (I:Inv X pins σ H s) (h:cf X.K H a xs) (h':cf X.K H a ys):xs=ys:=by
 obtain⟨its,r,⟨o,n,e,_,_,d⟩,_⟩:=I.list h
 obtain⟨its',r',⟨o',n',e',_,_,d'⟩,_⟩:=I.list h'
 rw[e] at e';cases e'
 rw[d] at d'
 injection d' with d1 _
 have:its=its':=by simpa using congrArg Array.toList d1
 subst this
 exact r.inj r'
theorem Inv.vZ (I:Inv X pins σ H s) (h:cp X.K H a xs) (h':cp X.K H a ys):xs=ys:=by
 obtain⟨its,r,⟨o,e,_,n,d⟩,_⟩:=I.tuple h
 obtain⟨its',r',⟨o',e',_,n',d'⟩,_⟩:=I.tuple h'
 rw[e] at e';cases e'
 rw[d] at d'
 injection d' with d1 _
 have:its=its':=by simpa using congrArg Array.toList d1
 subst this
 exact r.inj r'
end
abbrev Cx.wish (X:Cx) (E:Value→Shared→Prop):Cx:={X with xe:=E}
abbrev Cx.Eg (X:Cx):Cx:=X.wish fun _ _=>False
theorem Cx.Ok.wish {X:Cx} (ok:X.Ok) (E:Value→Shared→Prop):(X.wish E).Ok:=
 ⟨ok.mod,ok.kind,ok.glob,ok.blt,ok.above,ok.inj,ok.has,ok.cab,ok.hd,ok.frames,ok.stk,ok.Ee,ok.bs,ok.tD,ok.vm,ok.tS,ok.jE,ok.vX⟩
theorem Cx.Ok.jf {X:Cx} {E:Value→Shared→Prop} (ok:(X.wish E).Ok):X.Ok:=
 ⟨ok.mod,ok.kind,ok.glob,ok.blt,ok.above,ok.inj,ok.has,ok.cab,ok.hd,ok.frames,ok.stk,ok.Ee,ok.bs,ok.tD,ok.vm,ok.tS,ok.jE,ok.vX⟩
section
variable {X:Cx} {pins:List (Addr×Obj)} {σ:St} {H:Hp} {s:Shared} {E:Value→Shared→Prop}
theorem Inv.wish (I:Inv X pins σ H s) (E:Value→Shared→Prop):Inv (X.wish E) pins σ H s:=⟨I.ok.wish E,I.os,I.bare,I.base,I.loc,I.cell,I.free,I.hV,I.pin,I.hok,I.len⟩
theorem Inv.jf (I:Inv (X.wish E) pins σ H s):Inv X pins σ H s:=⟨I.ok.jf,I.os,I.bare,I.base,I.loc,I.cell,I.free,I.hV,I.pin,I.hok,I.len⟩
theorem SP.jf {D:Ends} {f:Flow} {s':Shared} (h:SP (X.wish E) pins D f s'):SP X pins D f s':=by
 cases f with
 | next=>obtain⟨σ',H',I,q⟩:=h;exact⟨σ',H',I.jf,q⟩
 | brk=>obtain⟨σ',H',I,q⟩:=h;exact⟨σ',H',I.jf,q⟩
 | cont=>obtain⟨σ',H',I,q⟩:=h;exact⟨σ',H',I.jf,q⟩
 | ret u=>obtain⟨v,σ',H',I,r,q⟩:=h;exact⟨v,σ',H',I.jf,r,q⟩
theorem mm.Eg {st:List Stmt} {t:TS} (h:mm X.Eg st t):mm X st t:=fun pins s σ H D I hw=>
 wpAny_mono (h pins s σ H D (I.wish _) hw) (fun _ _ q=>q.jf) fun _ _ z=>False.elim z
end
section
variable {X:Cx} {st:Stmt} {rest:List Stmt} {t u:TS} {e:Expr} {te:TE} {pos:Pos}
def IV:TS:=fun D σ H=>D.nx σ H
def tV (t u:TS):TS:=fun D σ H=>t {D with nx:=u D} σ H
theorem bg:mm X [] IV:=fun _ _ σ H _ I h=>wpAny_execs_nil ⟨σ,H,I,h⟩
theorem aj (h1:PS X st t) (h2:mm X rest u):mm X (st::rest) (tV t u):=by
 intro pins s σ H D I h
 refine wpAny_execs_cons (bf (h1 pins s σ H {D with nx:=u D} I h) fun f s1 q=>?_)
 cases f with
 | next=>
  obtain⟨σ',H',I',q⟩:=q
  exact h2 pins s1 σ' H' D I' q
 | ret v=>exact q
 | brk=>exact q
 | cont=>exact q
theorem aD (h1:PS X st t):mm X [st] t:=by
 intro pins s σ H D I h
 refine wpAny_execs_cons (bf (h1 pins s σ H D I h) fun f s1 q=>?_)
 cases f with
 | next=>exact wpAny_execs_nil q
 | ret v=>exact q
 | brk=>exact q
 | cont=>exact q
theorem Inv.quiet {pins:List (Addr×Obj)} {σ:St} {H:Hp} {s:Shared} (I:Inv X pins σ H s):interactive X.env=false:=by simp[interactive,I.ok.kind]
def IW (te:TE):TS:=fun D σ H=>te σ H fun _ H1=>D.nx σ H1
theorem dZ (he:PE X e te) (hs:swapsWith e none pos.line X.env=pure false:=by rfl):PS X (.Expr e pos) (IW te):=by
 intro pins s σ H D I h
 exact wpAny_Expr_any (bf (he pins s σ H _ I h) fun v s1 ⟨x,H1,I1,r1,q1⟩=>⟨σ,H1,I1,q1⟩) I.quiet hs
def SX (te:TE):TS:=fun D σ H=>te σ H D.rt
theorem aR (he:PE X e te):PS X (.Return (some e) pos) (SX te):=by
 intro pins s σ H D I h
 exact wpAny_Return_some (bf (he pins s σ H _ I h) fun v s1 ⟨x,H1,I1,r1,q1⟩=>⟨x,σ,H1,I1,r1,q1⟩)
def yg (c:TT) (t u:TS):TS:=fun D σ H=>c σ H fun b H1=>if b=true then t D σ H1 else u D σ H1
theorem bH {c:Expr} {a b:List Stmt} {tc:TT} (hc:PT X c tc) (ha:mm X a t) (hb:mm X b u):PS X (.If c a b pos) (yg tc t u):=by
 intro pins s σ H D I h
 refine wpAny_If (bf (hc pins s σ H _ I h) fun d s1 ⟨H1,I1,q1⟩=>?_)
 cases d with
 | true=>exact ha pins s1 σ H1 D I1 q1
 | false=>exact hb pins s1 σ H1 D I1 q1
end
abbrev TG:=V→St→Hp→(St→Hp→Prop)→Prop
abbrev yh:=List V→St→Hp→(St→Hp→Prop)→Prop
def PG (X:Cx) (target:Expr) (t:TG):Prop:=
 ∀(pins:List (Addr×Obj)) (s:Shared) (σ:St) (H:Hp) (v:V) (u:Value) (Q:St→Hp→Prop),Inv X pins σ H s→RelV v u→t v σ H Q→
  wpAny (model X.prog X.w) X.A (assign target X.env u) (fun _ s'=>∃σ' H',Inv X pins σ' H' s'∧Q σ' H') X.xe s
def IX (X:Cx) (ts:List Expr) (t:yh):Prop:=
 ∀(pins:List (Addr×Obj)) (s:Shared) (σ:St) (H:Hp) (vs:List V) (us:List Value) (Q:St→Hp→Prop),Inv X pins σ H s→Vals vs us→t vs σ H Q→
  wpAny (model X.prog X.w) X.A (assignInOrder ((assignEach ts X.env).map (·.2)) us) (fun _ s'=>∃σ' H',Inv X pins σ' H' s'∧Q σ' H') X.xe s
abbrev Gz:=V→V→V→Hp→(Hp→Prop)→Prop
def Lg (X:Cx) (t:Gz):Prop:=
 ∀(pins:List (Addr×Obj)) (s:Shared) (σ:St) (H:Hp) (o i v:V) (ov iv u:Value) (Q:Hp→Prop),Inv X pins σ H s→RelV o ov→RelV i iv→RelV v u→t o i v H Q→
  wpAny (model X.prog X.w) X.A (setItem ov iv u) (fun _ s'=>∃H',Inv X pins σ H' s'∧Q H') X.xe s
section
variable {X:Cx} {pos:Pos}
def c_ (i:Nat):TG:=fun v σ H Q=>Q (σ.set i (some v)) H
theorem cR {i:Nat} {x:Str} (hN:X.N.Nodup) (hi:X.N[i]? =some x) (hx:Loc X.env.scope x) (hf:X.fn x=true∨X.env.scope.names.lookup x=some .local:=by first | exact .inl rfl | exact .inr rfl | assumption):PG X (.Name x pos) (c_ i):=by
 intro pins s σ H v u Q I r h
 exact wpAny_assign_Name (pR I hN hi hx r (fun s' I'=>⟨_,H,I',h⟩) hf)
def SY:yh:=fun vs σ H Q=>vs=[]∧Q σ H
def O8 (t:TG) (u:yh):yh:=fun vs σ H Q=>∃v r,vs=v::r∧t v σ H fun σ' H'=>u r σ' H' Q
theorem BD:IX X [] SY:=by
 intro pins s σ H vs us Q I r h
 obtain⟨e,h⟩:=h
 subst e
 cases r
 exact assignInOrder_nil ⟨σ,H,I,h⟩
theorem pT {e:Expr} {es:List Expr} {t:TG} {u:yh} (h1:PG X e t) (h2:IX X es u)
  (hs:(assignEach (e::es) X.env).map (·.2)=assign e X.env::(assignEach es X.env).map (·.2):=by rfl):IX X (e::es) (O8 t u):=by
 intro pins s σ H vs us Q I r h
 obtain⟨v,vr,e1,h⟩:=h
 subst e1
 cases r with
 | cons r rr=>
  rw[hs]
  refine assignInOrder_cons (bf (h1 pins s σ H _ _ _ I r h) fun _ s1 ⟨σ1,H1,I1,q1⟩=>?_)
  exact h2 pins s1 σ1 H1 _ _ Q I1 rr q1
def S_ (K:PySem.W.Frag) (n:Nat) (t:yh):TG:=fun v σ H Q=>∃a xs,v=.ref a∧cp K H a xs∧xs.length=n∧t xs σ H Q
theorem Eh {es:List Expr} {k:Nat} {t:yh} {n:Nat} (hc:X.calm=true) (h:IX X es t)
  (hn:(assignEach es X.env).length=n:=by rfl) (hst:(assignEach es X.env).findIdx? (·.1)=none:=by rfl):PG X (.Tuple es k pos) (S_ X.K n t):=by
 intro pins s σ H v u Q I r hw
 obtain⟨a,xs,e1,hq,hl,hw⟩:=hw
 subst e1
 cases r
 obtain⟨its,rv,ht,hz⟩:=I.tuple hq
 refine assign_Tuple_tuple (I.ok.hd hc) ht (by simp[hn,←hl,rv.length]) hst fun h' hx=>?_
 have I1:Inv X pins σ H {s with heap:=h'}:=I.kept (t':=s.toks) fun b o e=>hx b o (Nat.ne_of_lt (Heap.lt_size e)) e
 exact h pins _ σ H xs _ Q I1 (by simpa using rv) hw
def S0 (to ti:TE) (t:Gz):TG:=fun v σ H Q=>to σ H fun o H1=>ti σ H1 fun i H2=>t o i v H2 fun H3=>Q σ H3
theorem Ei {o i:Expr} {to ti:TE} {t:Gz} (ho:PE X o to) (hi:PE X i ti) (hs:Lg X t)
  (ha:∀v,assign (.Subscript o i pos) X.env v=(do
   let ov ←holding [v] (eval o X.env)
   let iv ←holding [v,ov] (eval i X.env)
   standAt pos
   holding [v,ov,iv] (setItem ov iv v)
   release [v,ov,iv] []):=by intro _;rfl):PG X (.Subscript o i pos) (S0 to ti t):=by
 intro pins s σ H v u Q I r h
 rw[ha]
 refine wpAny_bind (wpAny_holding (bf (ho pins s σ H _ I h) fun ov s1 ⟨x,H1,I1,r1,q1⟩=>?_))
 refine wpAny_bind (wpAny_holding (bf (hi pins s1 σ H1 _ I1 q1) fun iv s2 ⟨y,H2,I2,r2,q2⟩=>?_))
 refine wpAny_bind (wpAny_standAt (wpAny_bind (wpAny_holding (bf (hs pins s2 σ H2 x y v ov iv u _ I2 r1 r2 r q2) fun _ s3 ⟨H3,I3,q3⟩=>?_))))
 exact wpAny_release ⟨σ,H3,I3,q3⟩
def pU (te:TE) (g:TG):TS:=fun D σ H=>te σ H fun x H1=>g x σ H1 D.nx
theorem Ej {tg e:Expr} {te:TE} {g:TG} (he:PE X e te) (hg:PG X tg g) (hs:swapsWithSole [tg] e pos.line X.env=pure false:=by rfl) (hw:swappedStores [tg] e X.env=pure none:=by rfl)
  (h1:(assignEach [tg] X.env).map (·.2)=[assign tg X.env]:=by rfl):PS X (.Assign [tg] e pos) (pU te g):=by
 intro pins s σ H D I h
 refine wpAny_Assign_stores (bf (he pins s σ H _ I h) fun v s1 ⟨x,H1,I1,r1,q1⟩=>?_) hs hw
 rw[h1]
 exact bf (hg pins s1 σ H1 x v _ I1 r1 q1) fun _ s2 q=>q
theorem aH {i:Nat} {x:Str} {e:Expr} {te:TE} {pos':Pos} (hN:X.N.Nodup) (hi:X.N[i]? =some x) (hx:Loc X.env.scope x) (he:PE X e te) (hs:swapsWith e (some (.Name x pos')) pos.line X.env=pure false:=by rfl) (hf:X.fn x=true∨X.env.scope.names.lookup x=some .local:=by first | exact .inl rfl | exact .inr rfl | assumption):
  PS X (.Assign [.Name x pos'] e pos) (pU te (c_ i)):=by
 intro pins s σ H D I h
 refine wpAny_Assign_Name (bf (he pins s σ H _ I h) fun v s1 ⟨y,H1,I1,r1,q1⟩=>?_) hs
 exact pR I1 hN hi hx r1 (fun s2 I2=>⟨_,H1,I2,q1⟩) hf
def yi (c:TT) (tb:TS):TS:=fun D σ H=>∃W:Nat→St→Hp→Prop,(∃m,W m σ H)∧∀m σ H,W m σ H→
 c σ H fun b H1=>if b=true then ∃N:St→Hp→Prop,(∀σ' H',N σ' H'→∃m',m'<m∧W m' σ' H')∧tb {D with nx:=N,ct:=N,bk:=D.nx} σ H1 else D.nx σ H1
theorem mn {c:Expr} {body:List Stmt} {tc:TT} {tb:TS} (hp:PassesOwn (model X.prog X.w) X.A X.env X.xe) (hc:PT X c tc) (hb:mm X body tb):PS X (.While c body [] pos) (yi tc tb):=by
 intro pins s σ H D I h
 obtain⟨W,⟨m0,w0⟩,turn⟩:=h
 refine wpAny_While (codeAny_whileLoop (fun n s'=>∃σ' H',Inv X pins σ' H' s'∧W n σ' H') ?_ m0 ⟨σ,H,I,w0⟩)
 rintro n s1 ⟨σ1,H1,I1,w1⟩
 refine wpAny_passesOwn hp (bf (hc pins s1 σ1 H1 _ I1 (turn n σ1 H1 w1)) fun b s2 ⟨H2,I2,q2⟩=>?_)
 cases b with
 | true=>
  obtain⟨N,hN,q2⟩:=q2
  rw[if_pos rfl]
  refine wpAny_passesOwn hp (bf (hb pins s2 σ1 H2 _ I2 q2) fun f s3 q3=>?_)
  cases f with
  | next=>
   obtain⟨σ3,H3,I3,n3⟩:=q3
   obtain⟨m',hm,w3⟩:=hN σ3 H3 n3
   exact⟨m',hm,σ3,H3,I3,w3⟩
  | cont=>
   obtain⟨σ3,H3,I3,n3⟩:=q3
   obtain⟨m',hm,w3⟩:=hN σ3 H3 n3
   exact⟨m',hm,σ3,H3,I3,w3⟩
  | brk=>exact q3
  | ret v=>exact q3
 | false=>
  rw[if_neg Bool.false_ne_true]
  exact wpAny_execs_nil ⟨σ1,H2,I2,q2⟩
end
structure It where
 go:Nat→Hp→Prop
 BE:Nat→Hp→V→Hp→Prop
 stop:Nat→Hp→Prop
def iO (X:Cx) (pins:List (Addr×Obj)) (H:Hp) (b:Addr):Prop:=
 H b=none∧b≠X.env.locals∧b ∉ X.fs∧(b∈X.ex∨X.s₀.heap.objs.size≤b)∧(∀x c,X.env.cells.lookup x=some c→c≠b)∧∀p∈X.pn++pins,p.1≠b
theorem Inv.oR {X:Cx} {pins:List (Addr×Obj)} {σ:St} {H H':Hp} {s:Shared} {b:Addr} (I:Inv X pins σ H s) (hb:s.heap.objs.size≤b) (hn:H' b=none):iO X pins H' b:=by
 refine⟨hn,Nat.ne_of_gt (Nat.lt_of_lt_of_le I.lt hb),I.SO hb,.inr (Nat.le_trans I.sz hb),fun x c e z=>?_,fun p hp z=>?_⟩
 ·obtain⟨v,q⟩:=I.cell x c e
  exact absurd (Nat.lt_of_lt_of_le q.lt (by rw[z];exact hb)) (Nat.lt_irrefl _)
 ·exact absurd (Nat.lt_of_lt_of_le (Heap.lt_size (I.pin p hp).1) (by rw[z];exact hb)) (Nat.lt_irrefl _)
structure Turn (P:Program) (w:World) (K:PySem.W.Frag) (tg:Expr) (J:It) (fp:List Addr) (it:Addr) (tn:Nat→Heap→Prop):Prop where
 mem:it∈fp
 obj:∀i h,tn i h→∀b∈fp,∃o,h.get? b=some o∧∀v,o.data≠.cell v
 keep:∀i h h',tn i h→(∀b∈fp,∀o,h.get? b=some o→h'.get? b=some o)→tn i h'
 item:∀(X:Cx),X.prog=P→X.w=w→X.K=K→X.calm=true→∀(i:Nat) (pins:List (Addr×Obj)) (s:Shared) (σ:St) (H:Hp) (E:Value→Shared→Prop),Inv X pins σ H s→(∀b∈fp,iO X pins H b)→tn i s.heap→J.go i H→
  wpAny (model P w) X.A (pyNext (.ref it)) (fun r s1=>∃u,r=some u∧
   wpAny (model P w) X.A (letOwnedTupleGo tg (.ref it) u) (fun _ s2=>∃x H',Inv X pins σ H' s2∧RelV x u∧J.BE i H x H'∧tn (i+1) s2.heap∧∀b∈fp,H' b=none) E s1) E s
 done:∀(X:Cx),X.prog=P→X.w=w→X.K=K→X.calm=true→∀(i:Nat) (pins:List (Addr×Obj)) (s:Shared) (σ:St) (H:Hp) (E:Value→Shared→Prop),Inv X pins σ H s→(∀b∈fp,iO X pins H b)→tn i s.heap→J.stop i H→
  wpAny (model P w) X.A (pyNext (.ref it)) (fun r s1=>r=none∧Inv X pins σ H s1) E s
 self:∀(A:Around) (i:Nat) (s:Shared) (Q:Value→Shared→Prop) (E:Value→Shared→Prop),tn i s.heap→Q (.ref it) s→wpAny (model P w) A (pyIter (.ref it)) Q E s
abbrev TI:=St→Hp→(It→Hp→Prop)→Prop
def PIE (X:Cx) (pins:List (Addr×Obj)) (σ:St) (tg:Expr) (R:It→Hp→Prop) (itv:Value) (s2:Shared):Prop:=
 ∃(it:Addr) (fp:List Addr) (tn:Nat→Heap→Prop) (J:It) (H':Hp),itv=.ref it∧Inv X pins σ H' s2∧Turn X.prog X.w X.K tg J fp it tn∧tn 0 s2.heap∧(∀b∈fp,iO X pins H' b)∧R J H'
def PI (X:Cx) (tg iter:Expr) (wi:TI):Prop:=
 ∀(pins:List (Addr×Obj)) (s:Shared) (σ:St) (H:Hp) (R:It→Hp→Prop),Inv X pins σ H s→wi σ H R→
  wpAny (model X.prog X.w) X.A (eval iter X.env) (fun v s1=>wpAny (model X.prog X.w) X.A (pyIter v) (PIE X pins σ tg R) X.xe s1) X.xe s
theorem xU {M:Model} {A:Around} {E:Value→Shared→Prop} {s:Shared} {tg:Expr} {it:Addr} {u:Value} {o:Obj} {n:String} {vs:Array Value} {Q:Unit→Shared→Prop} (ho:s.heap.get? it=some o) (hc:o.cls=.type n) (hd:o.data=.fields vs)
  (hn:["enumerate","zip","dict_itemiterator","dict_reverseitemiterator","odict_iterator","itertools.zip_longest","itertools.pairwise"].contains n=false) (hQ:Q () s):wpAny M A (letOwnedTupleGo tg (.ref it) u) Q E s:=by
 unfold letOwnedTupleGo
 cases tg<;>first
  | exact wpAny_pure hQ
  | (cases u<;>first
    | exact wpAny_pure hQ
    | (refine wpAny_bind (wpAny_load ho ?_)
       rw[hc,hd]
       show wpAny M A (if(["enumerate","zip","dict_itemiterator","dict_reverseitemiterator","odict_iterator","itertools.zip_longest","itertools.pairwise"].contains n&&vs[0]? == some (rawInt _))=true then _ else _) Q E s
       rw[if_neg (by intro h;rw[hn,Bool.false_and] at h;cases h)]
       exact wpAny_pure hQ))
def BF (K:PySem.W.Frag) (a:Addr):It:=
 ⟨fun i H=>∃xs x,cf K H a xs∧xs[i]? =some x,fun i H x H'=>H'=H∧∀xs,cf K H a xs→xs[i]? =some x,fun i H=>∃xs,cf K H a xs∧xs.length≤i⟩
def Lh (K:PySem.W.Frag) (a:Addr):It:=
 ⟨fun i H=>∃xs x,cp K H a xs∧xs[i]? =some x,fun i H x H'=>H'=H∧∀xs,cp K H a xs→xs[i]? =some x,fun i H=>∃xs,cp K H a xs∧xs.length≤i⟩
def v7 (lo:Int) (n:Nat):It:=⟨fun i _=>i<n,fun i H x H'=>H'=H∧x=.int (lo+i),fun i _=>n≤i⟩
theorem Ek {P:Program} {w:World} {K:PySem.W.Frag} {tg:Expr} (a it:Addr):Turn P w K tg (BF K a) [it] it (fun i h=>h.IsListIter it a i) where
 mem:=by simp
 obj:=fun i h st b hb=>by
  have e:b=it:=by simpa using hb
  subst e
  obtain⟨o,e,c,d⟩:=st
  exact⟨o,e,fun v z=>by rw[d] at z;cases z⟩
 keep:=fun i h h' st k=>st.at fun o e=>k it (by simp) o e
 item:=by
  intro X hP hw hK hc i pins s σ H E I hf st hg
  subst hP hw hK
  obtain⟨xs,x,hq,hx⟩:=hg
  obtain⟨its,rv,p,hz⟩:=I.list hq
  obtain⟨u,hu,ru⟩:=rv.get hx
  obtain⟨f0,f1,f2,f3,f4,f5⟩:=hf it (by simp)
  refine wpAny_pyNext_list_item st p.isList (x:=u) (by simpa using hu) fun h' st' sb=>?_
  have I1:Inv X pins σ H {s with heap:=h'}:=I.turned (t':=s.toks) (fun b o hb e=>(sb.2 b hb).trans e) f0 f1 f3 f4 f5
  obtain⟨o,e,c,d⟩:=id st'
  exact⟨u,rfl,xU (s:={s with heap:=h'}) e c d (by decide) ⟨x,H,I1,ru,⟨rfl,fun ys hy=>by rw[I.tU hy hq];exact hx⟩,st',fun b hb=>(hf b hb).1⟩⟩
 done:=by
  intro X hP hw hK hc i pins s σ H E I hf st hg
  subst hP hw hK
  obtain⟨xs,hq,hx⟩:=hg
  obtain⟨its,rv,p,hz⟩:=I.list hq
  obtain⟨f0,f1,f2,f3,f4,f5⟩:=hf it (by simp)
  have hl:=rv.length
  exact wpAny_pyNext_list_end (I.ok.hd hc) st p.isList (by simp;omega) fun h' eb=>⟨rfl,I.turned (t':=s.toks) (fun b o hb e=>eb b o hb e) f0 f1 f3 f4 f5⟩
 self:=fun _ _ _ _ _ st h=>wpAny_pyIter_listiter st h
theorem CH {P:Program} {w:World} {K:PySem.W.Frag} {tg:Expr} (a it:Addr):Turn P w K tg (Lh K a) [it] it (fun i h=>h.IsTupleIter it a i) where
 mem:=by simp
 obj:=fun i h st b hb=>by
  have e:b=it:=by simpa using hb
  subst e
  obtain⟨o,e,c,d⟩:=st
  exact⟨o,e,fun v z=>by rw[d] at z;cases z⟩
 keep:=fun i h h' st k=>st.at fun o e=>k it (by simp) o e
 item:=by
  intro X hP hw hK hc i pins s σ H E I hf st hg
  subst hP hw hK
  obtain⟨xs,x,hq,hx⟩:=hg
  obtain⟨its,rv,p,hz⟩:=I.tuple hq
  obtain⟨u,hu,ru⟩:=rv.get hx
  obtain⟨f0,f1,f2,f3,f4,f5⟩:=hf it (by simp)
  refine wpAny_pyNext_tuple_item st (show s.heap.IsTuple a its.toArray from p) (x:=u) (by simpa using hu) fun h' st' sb=>?_
  have I1:Inv X pins σ H {s with heap:=h'}:=I.turned (t':=s.toks) (fun b o hb e=>(sb.2 b hb).trans e) f0 f1 f3 f4 f5
  obtain⟨o,e,c,d⟩:=id st'
  exact⟨u,rfl,xU (s:={s with heap:=h'}) e c d (by decide) ⟨x,H,I1,ru,⟨rfl,fun ys hy=>by rw[I.vZ hy hq];exact hx⟩,st',fun b hb=>(hf b hb).1⟩⟩
 done:=by
  intro X hP hw hK hc i pins s σ H E I hf st hg
  subst hP hw hK
  obtain⟨xs,hq,hx⟩:=hg
  obtain⟨its,rv,p,hz⟩:=I.tuple hq
  obtain⟨f0,f1,f2,f3,f4,f5⟩:=hf it (by simp)
  have hl:=rv.length
  exact wpAny_pyNext_tuple_end (I.ok.hd hc) st (show s.heap.IsTuple a its.toArray from p) (by simp;omega) fun h' eb=>⟨rfl,I.turned (t':=s.toks) (fun b o hb e=>eb b o hb e) f0 f1 f3 f4 f5⟩
 self:=fun _ _ _ _ _ st h=>wpAny_pyIter_tupleiter st h
theorem CI {P:Program} {w:World} {K:PySem.W.Frag} {tg:Expr} (it:Addr) (lo:Int) (n:Nat):Turn P w K tg (v7 lo n) [it] it (fun i h=>IsRangeIter h it (lo+(i:Nat)*1) ((n:Int)-(i:Nat)) 1) where
 mem:=by simp
 obj:=fun i h st b hb=>by
  have e:b=it:=by simpa using hb
  subst e
  exact⟨_,st,fun v z=>by
   have z':Data.fields _=Data.cell v:=z
   cases z'⟩
 keep:=fun i h h' st k=>k it (by simp) _ st
 item:=by
  intro X hP hw hK hc i pins s σ H E I hf st hg
  subst hP hw hK
  obtain⟨f0,f1,f2,f3,f4,f5⟩:=hf it (by simp)
  have W:=Walks.range (prog:=X.prog) (w:=X.w) (I.ok.hd hc) it lo 1 n
  refine W.item i s _ _ hg st fun v h' tk hv st' kk=>?_
  obtain⟨t,rfl⟩:=hv
  have I1:Inv X pins σ H {s with heap:=h',toks:=tk}:=I.turned (fun b o hb e=>kk b o (by simpa using hb) e) f0 f1 f3 f4 f5
  refine⟨_,rfl,xU (s:={s with heap:=h',toks:=tk}) (n:="range_iterator") st' rfl rfl (by decide) ⟨.int (lo+i),H,I1,⟨t,?_⟩,⟨rfl,rfl⟩,st',fun b hb=>(hf b hb).1⟩⟩
  rw[Int.mul_one]
 done:=by
  intro X hP hw hK hc i pins s σ H E I hf st hg
  subst hP hw hK
  obtain⟨f0,f1,f2,f3,f4,f5⟩:=hf it (by simp)
  exact wpAny_pyNext_range_end (I.ok.hd hc) st (by have:n≤i:=hg;omega) fun h' eb=>⟨rfl,I.turned (t':=s.toks) (fun b o hb e=>eb b o hb e) f0 f1 f3 f4 f5⟩
 self:=fun _ _ _ _ _ st h=>wpAny_pyIter_rangeiter st h
section
variable {X:Cx} {tg:Expr}
def O9 (K:PySem.W.Frag) (tl:TE):TI:=fun σ H R=>tl σ H fun x H1=>∃a,x=.ref a∧(∃xs,cf K H1 a xs)∧R (BF K a) H1
def S3 (K:PySem.W.Frag) (tl:TE):TI:=fun σ H R=>tl σ H fun x H1=>∃a,x=.ref a∧(∃xs,cp K H1 a xs)∧R (Lh K a) H1
theorem o5 {l:Expr} {tl:TE} (hl:PE X l tl):PI X tg l (O9 X.K tl):=by
 intro pins s σ H R I h
 refine bf (hl pins s σ H _ I h) fun v s1 ⟨x,H1,I1,r1,q1⟩=>?_
 obtain⟨a,e,⟨xs,hq⟩,q⟩:=q1
 subst e
 cases r1
 obtain⟨its,rv,p,hz⟩:=I1.list hq
 refine wpAny_pyIter_list p.isList ?_
 refine⟨s1.heap.objs.size,[s1.heap.objs.size],_,_,H1,rfl,I1.kept (t':=s1.toks) fun b o e=>Heap.get?_push_of_some _ e,Ek a _,⟨_,Heap.get?_push_size _ rfl,rfl,rfl⟩,fun b hb=>?_,q⟩
 have e:b=s1.heap.objs.size:=by simpa using hb
 subst e
 exact I1.oR (Nat.le_refl _) (I1.hok.fresh (Nat.le_refl _))
theorem El {l:Expr} {tl:TE} (hl:PE X l tl):PI X tg l (S3 X.K tl):=by
 intro pins s σ H R I h
 refine bf (hl pins s σ H _ I h) fun v s1 ⟨x,H1,I1,r1,q1⟩=>?_
 obtain⟨a,e,⟨xs,hq⟩,q⟩:=q1
 subst e
 cases r1
 obtain⟨its,rv,p,hz⟩:=I1.tuple hq
 refine wpAny_pyIter_tuple (show s1.heap.IsTuple a its.toArray from p) ?_
 refine⟨s1.heap.objs.size,[s1.heap.objs.size],_,_,H1,rfl,I1.kept (t':=s1.toks) fun b o e=>Heap.get?_push_of_some _ e,CH a _,⟨_,Heap.get?_push_size _ rfl,rfl,rfl⟩,fun b hb=>?_,q⟩
 have e:b=s1.heap.objs.size:=by simpa using hb
 subst e
 exact I1.oR (Nat.le_refl _) (I1.hok.fresh (Nat.le_refl _))
theorem yj {pins:List (Addr×Obj)} {σ:St} {H:Hp} {s:Shared} {R:It→Hp→Prop} {E:Value→Shared→Prop} {lo hi:Int} {t u v:Tok} {tk:Nat} (I:Inv X pins σ H s) (h1: -(2 ^ 62)≤lo) (h2:lo<2 ^ 62) (h3: -(2 ^ 62)≤hi) (h4:hi<2 ^ 62)
  (q:R (v7 lo (hi-lo).toNat) H):wpAny (model X.prog X.w) X.A (pyIter (.ref s.heap.objs.size)) (PIE X pins σ tg R) E {s with heap:=s.heap.push {cls:=.type "range",data:=.fields #[.int lo t,.int hi u,.int 1 v]},toks:=tk}:=by
 refine wpAny_pyIter_range (IsRange.new ..) (small_one h1 h2 h3 h4) ?_
 have I1:Inv X pins σ H {s with heap:=s.heap.push {cls:=.type "range",data:=.fields #[.int lo t,.int hi u,.int 1 v]},toks:=tk}:=I.kept fun b o e=>Heap.get?_push_of_some _ e
 refine⟨(s.heap.push {cls:=.type "range",data:=.fields #[.int lo t,.int hi u,.int 1 v]}).objs.size,[(s.heap.push {cls:=.type "range",data:=.fields #[.int lo t,.int hi u,.int 1 v]}).objs.size],_,_,H,rfl,
  I1.kept (t':=tk) fun b o e=>Heap.get?_push_of_some _ e,CI _ lo (hi-lo).toNat,?_,fun b hb=>?_,q⟩
 ·have e1:lo+((0:Nat):Int)*1=lo:=by simp
  have e2:(((hi-lo).toNat:Nat):Int)-((0:Nat):Int)=Builtin.Range.rangeSize lo hi 1:=by rw[rangeSize_one];split<;>omega
  show IsRangeIter _ _ (lo+((0:Nat):Int)*1) ((((hi-lo).toNat:Nat):Int)-((0:Nat):Int)) 1
  rw[e1,e2]
  exact Heap.get?_push_size _ rfl
 ·have e:b=(s.heap.push {cls:=.type "range",data:=.fields #[.int lo t,.int hi u,.int 1 v]}).objs.size:=by simpa using hb
  subst e
  exact I1.oR (Nat.le_refl _) (I1.hok.fresh (Nat.le_refl _))
def O' (ta:TA):TI:=fun σ H R=>ta σ H fun vs H1=>∃j:Int,vs=[.int j]∧ -(2 ^ 62)≤j∧j<2 ^ 62∧R (v7 0 j.toNat) H1
def Pa (ta:TA):TI:=fun σ H R=>ta σ H fun vs H1=>∃i j:Int,vs=[.int i,.int j]∧(-(2 ^ 62)≤i∧i<2 ^ 62∧ -(2 ^ 62)≤j∧j<2 ^ 62)∧R (v7 i (j-i).toNat) H1
theorem gO {a:Expr} {ta:TA} {p pos:Pos} (hg:Gl X "range") (hm:X.mg "range"=none) (ha:PA X [a] ta) (hs:starEach [a] X.env=[(false,eval a X.env)]:=by rfl):PI X tg (.Call (.Name "range" p) [a] [] pos) (O' ta):=by
 intro pins s σ H R I h
 refine Call_ (km I hg hm boot_range (PyProof.Rows.callWith_type1 (bf (ha pos pins s σ H _ I h) fun us s1 ⟨vs,H1,I1,r1,q1⟩=>?_) hs rfl))
 obtain⟨j,e,q1,q2,q⟩:=q1
 subst e
 cases r1 with
 | cons r rr=>
  cases rr
  obtain⟨t,rfl⟩:=r
  exact call_range_1 (yj I1 (by omega) (by omega) q1 q2 (by simpa using q))
theorem Em {a b:Expr} {ta:TA} {p pos:Pos} (hg:Gl X "range") (hm:X.mg "range"=none) (ha:PA X [a,b] ta) (hs:starEach [a,b] X.env=[(false,eval a X.env),(false,eval b X.env)]:=by rfl) (hs2:starEach [b] X.env=[(false,eval b X.env)]:=by rfl):
  PI X tg (.Call (.Name "range" p) [a,b] [] pos) (Pa ta):=by
 intro pins s σ H R I h
 refine Call_ (km I hg hm boot_range (PyProof.Rows.callWith_type1 (bf (ha pos pins s σ H _ I h) fun us s1 ⟨vs,H1,I1,r1,q1⟩=>?_) (by rw[hs,hs2]) (by rw[hs2];rfl)))
 obtain⟨i,j,e,⟨q1,q2,q3,q4⟩,q⟩:=q1
 subst e
 cases r1 with
 | cons r rr=>
  cases rr with
  | cons r' rr=>
   cases rr
   obtain⟨t,rfl⟩:=r
   obtain⟨t',rfl⟩:=r'
   exact call_range_2 (yj I1 q1 q2 q3 q4 q)
def S4 (wi:TI) (g:TG) (tb:TS):TS:=fun D σ H=>wi σ H fun J H1=>∃W:Nat→Nat→St→Hp→Prop,(∃m,W 0 m σ H1)∧∀i m σ H,W i m σ H→
 (J.stop i H∧D.nx σ H)∨(J.go i H∧∃N:St→Hp→Prop,(∀σ' H',N σ' H'→∃m',m'<m∧W (i+1) m' σ' H')∧∀x H',J.BE i H x H'→g x σ H' fun σ2 H2=>tb {D with nx:=N,ct:=N,bk:=D.nx} σ2 H2)
def o6 (fp:List Addr) (h:Heap):List (Addr×Obj):=fp.filterMap fun b=>(h.get? b).map fun o=>(b,o)
theorem h_ {fp:List Addr} {h:Heap} {b:Addr} {o:Obj} (hb:b∈fp) (e:h.get? b=some o):(b,o)∈o6 fp h:=List.mem_filterMap.mpr ⟨b,hb,by rw[e];rfl⟩
theorem En {fp:List Addr} {h:Heap} {p:Addr×Obj} (hp:p∈o6 fp h):p.1∈fp∧h.get? p.1=some p.2:=by
 obtain⟨b,hb,e⟩:=List.mem_filterMap.mp hp
 cases q:h.get? b with
 | none=>rw[q] at e;cases e
 | some o=>
  rw[q] at e
  have e':(b,o)=p:=Option.some.inj e
  subst e'
  exact⟨hb,q⟩
theorem Inv.pinned {pins:List (Addr×Obj)} {σ:St} {H:Hp} {s:Shared} {fp:List Addr} (I:Inv X pins σ H s) (hf:∀b∈fp,iO X pins H b) (ho:∀b∈fp,∃o,s.heap.get? b=some o∧∀v,o.data≠.cell v):Inv X (pins++o6 fp s.heap) σ H s:=
 I.BB fun p hp=>(List.mem_append.mp hp).elim (fun z=>I.pin p (List.mem_append_right _ z)) fun z=>by
  obtain⟨hb,e⟩:=En z
  obtain⟨f0,f1,f2,_⟩:=hf p.1 hb
  obtain⟨o,e',d⟩:=ho p.1 hb
  rw[e] at e';cases e'
  exact⟨e,f0,f1,f2,d⟩
theorem Inv.mq {pins pl:List (Addr×Obj)} {σ:St} {H:Hp} {s:Shared} (I:Inv X (pins++pl) σ H s):Inv X pins σ H s:=I.BB fun p hp=>I.pin p (List.mem_append_right _ (List.mem_append_left _ hp))
theorem ko {iter:Expr} {body:List Stmt} {wi:TI} {g:TG} {tb:TS} {pos:Pos} (hp:PassesOwn (model X.prog X.w) X.A X.env X.xe) (hc:X.calm=true) (hi:PI X tg iter wi) (hg:PG X tg g) (hb:mm X body tb)
  (hs:∀x,foldedSetIterable iter X.env x=pure x:=by intro _;rfl):PS X (.For tg iter body [] pos) (S4 wi g tb):=by
 intro pins s σ H D I h
 refine wpAny_For (bf (hi pins s σ H _ I h) fun v s1 h1=>bf h1 fun itv s2 h2=>?_) hs
 obtain⟨it,fp,tn,J,H2,e,I2,T,st2,f2,W,⟨m0,w0⟩,turn⟩:=h2
 subst e
 have stat:∀{H':Hp},(∀b∈fp,H' b=none)→∀b∈fp,iO X pins H' b:=fun hn b hb=>⟨hn b hb,(f2 b hb).2⟩
 refine codeAny_forLoop_any (fun n s'=>∃i σ' H',Inv X pins σ' H' s'∧tn i s'.heap∧(∀b∈fp,H' b=none)∧W i n σ' H') ?_ m0 ⟨0,σ,H2,I2,st2,fun b hb=>(f2 b hb).1,w0⟩
 rintro n s3 ⟨i,σ3,H3,I3,st3,Li,w3⟩
 rcases turn i n σ3 H3 w3 with⟨stop,qn⟩ | ⟨go,N,hN,step⟩
 ·refine wpAny_passesOwn hp (bf (T.done X rfl rfl rfl hc i pins s3 σ3 H3 X.xe I3 (stat Li) st3 stop) fun r s4 ⟨hr,I4⟩=>?_)
  subst hr
  exact wpAny_execs_nil ⟨σ3,H3,I4,qn⟩
 ·refine wpAny_passesOwn hp (bf (T.item X rfl rfl rfl hc i pins s3 σ3 H3 X.xe I3 (stat Li) st3 go) fun r s4 ⟨u,hr,h4⟩=>?_)
  subst hr
  refine wpAny_passesOwn hp (bf h4 fun _ s5 ⟨x,H5,I5,r5,y5,uy,wa⟩=>?_)
  have QV:=I5.pinned (stat wa) (T.obj _ _ uy)
  refine wpAny_passesOwn hp (bf (hg _ s5 σ3 H5 x u _ QV r5 (step x H5 y5)) fun _ s6 ⟨σ6,H6,I6,q6⟩=>?_)
  refine wpAny_passesOwn hp (bf (hb _ s6 σ6 H6 _ I6 q6) fun f s7 q7=>?_)
  have again:∀{σ7:St} {H7:Hp},Inv X (pins++o6 fp s5.heap) σ7 H7 s7→N σ7 H7→∃m,m<n∧∃i σ' H',Inv X pins σ' H' s7∧tn i s7.heap∧(∀b∈fp,H' b=none)∧W i m σ' H':=fun {σ7 H7} I7 n7=>by
   obtain⟨m',hm,w7⟩:=hN σ7 H7 n7
   refine⟨m',hm,i+1,σ7,H7,I7.mq,T.keep _ _ _ uy fun b hb o e=>(I7.pin (b,o) (List.mem_append_right _ (List.mem_append_right _ (h_ hb e)))).1,fun b hb=>?_,w7⟩
   obtain⟨o,e,d⟩:=T.obj _ _ uy b hb
   exact(I7.pin (b,o) (List.mem_append_right _ (List.mem_append_right _ (h_ hb e)))).2.1
  cases f with
  | next=>obtain⟨σ7,H7,I7,n7⟩:=q7;exact again I7 n7
  | cont=>obtain⟨σ7,H7,I7,n7⟩:=q7;exact again I7 n7
  | brk=>obtain⟨σ7,H7,I7,q7⟩:=q7;exact⟨σ7,H7,I7.mq,q7⟩
  | ret v=>obtain⟨x7,σ7,H7,I7,r7,q7⟩:=q7;exact⟨x7,σ7,H7,I7.mq,r7,q7⟩
end
theorem yk {K:PySem.W.Frag} {a:Addr} {xs:List V} {g:TG} {tb:TS} {D:Ends} {σ:St} {H:Hp} (Pv:Nat→St→Hp→Prop) (h0:Pv 0 σ H) (hl:∀i σ H,i≤xs.length→Pv i σ H→cf K H a xs)
  (hs:∀i x σ H,xs[i]? =some x→Pv i σ H→g x σ H fun σ2 H2=>tb {D with nx:=Pv (i+1),ct:=Pv (i+1),bk:=D.nx} σ2 H2) (hd:∀σ H,Pv xs.length σ H→D.nx σ H):
  ∃W:Nat→Nat→St→Hp→Prop,(∃m,W 0 m σ H)∧∀i m σ H,W i m σ H→
   ((BF K a).stop i H∧D.nx σ H)∨((BF K a).go i H∧∃N:St→Hp→Prop,(∀σ' H',N σ' H'→∃m',m'<m∧W (i+1) m' σ' H')∧∀x H',(BF K a).BE i H x H'→g x σ H' fun σ2 H2=>tb {D with nx:=N,ct:=N,bk:=D.nx} σ2 H2):=by
 refine⟨fun i m σ H=>m=xs.length-i∧i≤xs.length∧Pv i σ H,⟨xs.length,by simp,Nat.zero_le _,h0⟩,?_⟩
 rintro i m σ H ⟨rfl,hi,p⟩
 have q:=hl i σ H hi p
 by_cases hlt:i<xs.length
 ·refine .inr ⟨⟨xs,xs[i],q,by simp[hlt]⟩,Pv (i+1),fun σ' H' p'=>⟨xs.length-(i+1),by omega,rfl,hlt,p'⟩,fun x H' y=>?_⟩
  obtain⟨e,y⟩:=y
  subst e
  exact hs i x σ _ (y xs q) p
 ·have e:i=xs.length:=by omega
  subst e
  exact .inl ⟨⟨xs,q,Nat.le_refl _⟩,hd σ H p⟩
theorem kr {lo:Int} {n:Nat} {g:TG} {tb:TS} {D:Ends} {σ:St} {H:Hp} (Pv:Nat→St→Hp→Prop) (h0:Pv 0 σ H)
  (hs:∀i σ H,i<n→Pv i σ H→g (.int (lo+i)) σ H fun σ2 H2=>tb {D with nx:=Pv (i+1),ct:=Pv (i+1),bk:=D.nx} σ2 H2) (hd:∀σ H,Pv n σ H→D.nx σ H):
  ∃W:Nat→Nat→St→Hp→Prop,(∃m,W 0 m σ H)∧∀i m σ H,W i m σ H→
   ((v7 lo n).stop i H∧D.nx σ H)∨((v7 lo n).go i H∧∃N:St→Hp→Prop,(∀σ' H',N σ' H'→∃m',m'<m∧W (i+1) m' σ' H')∧∀x H',(v7 lo n).BE i H x H'→g x σ H' fun σ2 H2=>tb {D with nx:=N,ct:=N,bk:=D.nx} σ2 H2):=by
 refine⟨fun i m σ H=>m=n-i∧i≤n∧Pv i σ H,⟨n,by simp,Nat.zero_le _,h0⟩,?_⟩
 rintro i m σ H ⟨rfl,hi,p⟩
 by_cases hlt:i<n
 ·refine .inr ⟨hlt,Pv (i+1),fun σ' H' p'=>⟨n-(i+1),by omega,rfl,hlt,p'⟩,fun x H' y=>?_⟩
  obtain⟨e,y⟩:=y
  subst e y
  exact hs i σ _ hlt p
 ·have e:i=n:=by omega
  subst e
  exact .inl ⟨Nat.le_refl _,hd σ H p⟩
abbrev R2:=V→V→Hp→VK→Prop
def cW (X:Cx) (f:Value→Value→Sem Value) (r:R2):Prop:=
 ∀(pins:List (Addr×Obj)) (s:Shared) (σ:St) (H:Hp) (x y:V) (v u:Value) (Q:VK),Inv X pins σ H s→RelV x v→RelV y u→r x y H Q→
  wpAny (model X.prog X.w) X.A (f v u) (EP X pins σ Q) X.xe s
def Lj (X:Cx) (f:Value→Sem Value) (r:V→Hp→VK→Prop):Prop:=
 ∀(pins:List (Addr×Obj)) (s:Shared) (σ:St) (H:Hp) (x:V) (v:Value) (Q:VK),Inv X pins σ H s→RelV x v→r x H Q→
  wpAny (model X.prog X.w) X.A (f v) (EP X pins σ Q) X.xe s
def fO (X:Cx) (f:Value) (r:List V→Hp→VK→Prop):Prop:=
 ∀(pins:List (Addr×Obj)) (s:Shared) (σ:St) (H:Hp) (xs:List V) (us:List Value) (Q:VK),Inv X pins σ H s→Vals xs us→r xs H Q→
  wpAny (model X.prog X.w) X.A (call f us) (EP X pins σ Q) X.xe s
def S5 (X:Cx) (r:V→Hp→(Bool→Hp→Prop)→Prop):Prop:=
 ∀(pins:List (Addr×Obj)) (s:Shared) (σ:St) (H:Hp) (x:V) (v:Value) (Q:Bool→Hp→Prop),Inv X pins σ H s→RelV x v→r x H Q→
  wpAny (model X.prog X.w) X.A (truthy v) (TP X pins σ Q) X.xe s
def BG (r:R2) (ta tb:TE):TE:=fun σ H Q=>ta σ H fun x H1=>tb σ H1 fun y H2=>r x y H2 Q
def Zx (r:V→Hp→VK→Prop) (ta:TE):TE:=fun σ H Q=>ta σ H fun x H1=>r x H1 Q
def rI (C:Int→Int→Prop) (g:Int→Int→V):R2:=fun x y H Q=>∃i j,x=.int i∧y=.int j∧C i j∧Q (g i j) H
def wb (g:Int→Int→V):R2:=fun x y H Q=>∃i j,x=.int i∧y=.int j∧Q (g i j) H
def rU (g:Int→V):V→Hp→VK→Prop:=fun x H Q=>∃i,x=.int i∧Q (g i) H
section
variable {X:Cx} {a b c:Expr} {ta tb tc:TE} {pos:Pos}
theorem GA (ha:PE X a ta) (hb:PE X b tb) {pins:List (Addr×Obj)} {s:Shared} {σ:St} {H:Hp} {R:V→V→Hp→Prop} (I:Inv X pins σ H s)
  (h:ta σ H fun x H1=>tb σ H1 fun y H2=>R x y H2) {Q:Value→Shared→Prop} {f:Value→Value→Sem Value}
  (hf:∀v u s2 x y H2,Inv X pins σ H2 s2→RelV x v→RelV y u→R x y H2→wpAny (model X.prog X.w) X.A (f v u) Q X.xe s2):
  wpAny (model X.prog X.w) X.A (eval a X.env) (fun v s₁=>wpAny (model X.prog X.w) X.A (eval b X.env) (fun u s₂=>wpAny (model X.prog X.w) X.A (f v u) Q X.xe s₂) X.xe s₁) X.xe s:=by
 refine bf (ha pins s σ H _ I h) fun v s1 ⟨x,H1,I1,r1,q1⟩=>?_
 refine bf (hb pins s1 σ H1 _ I1 q1) fun u s2 ⟨y,H2,I2,r2,q2⟩=>?_
 exact hf v u s2 x y H2 I2 r1 r2 q2
theorem av {op:Operator} {r:R2} (ho:cW X (binaryOp op) r) (ha:PE X a ta) (hb:PE X b tb):PE X (.BinOp a op b pos) (BG r ta tb):=by
 intro pins s σ H Q I h
 exact wpAny_BinOp (GA ha hb I h fun v u s2 x y H2 I2 rx ry q=>ho pins s2 σ H2 x y v u Q I2 rx ry q)
theorem CJ {op:UnaryOp} {r:V→Hp→VK→Prop} (ho:Lj X (unaryOp op) r) (ha:PE X a ta):PE X (.UnaryOp op a pos) (Zx r ta):=by
 intro pins s σ H Q I h
 exact UnaryOp_ (bf (ha pins s σ H _ I h) fun v s1 ⟨x,H1,I1,r1,q1⟩=>ho pins s1 σ H1 x v Q I1 r1 q1)
theorem IY {f:Value→Value→Sem Value} {C:Int→Int→Prop} {g:Int→Int→Int}
  (rule:∀(i j:Int) (t u:Tok) (s:Shared) (Q:Value→Shared→Prop) (E:Value→Shared→Prop),C i j→Q (.int (g i j) s.toks) {s with toks:=s.toks+1}→wpAny (model X.prog X.w) X.A (f (.int i t) (.int j u)) Q E s):
  cW X f (rI C fun i j=>.int (g i j)):=by
 intro pins s σ H x y v u Q I rx ry h
 obtain⟨i,j,rfl,rfl,hc,q⟩:=h
 obtain⟨t,rfl⟩:=rx
 obtain⟨t',rfl⟩:=ry
 exact rule i j t t' s _ _ hc ⟨.int (g i j),H,I.tok _,⟨_,rfl⟩,q⟩
theorem Lk {f:Value→Value→Sem Value} {g:Int→Int→Int}
  (rule:∀(i j:Int) (t u:Tok) (s:Shared) (Q:Value→Shared→Prop) (E:Value→Shared→Prop),Q (.int (g i j) s.toks) {s with toks:=s.toks+1}→wpAny (model X.prog X.w) X.A (f (.int i t) (.int j u)) Q E s):
  cW X f (wb fun i j=>.int (g i j)):=by
 intro pins s σ H x y v u Q I rx ry h
 obtain⟨i,j,rfl,rfl,q⟩:=h
 obtain⟨t,rfl⟩:=rx
 obtain⟨t',rfl⟩:=ry
 exact rule i j t t' s _ _ ⟨.int (g i j),H,I.tok _,⟨_,rfl⟩,q⟩
theorem CK {f:Value→Value→Sem Value} {g:Int→Int→Bool}
  (rule:∀(i j:Int) (t u:Tok) (s:Shared) (Q:Value→Shared→Prop) (E:Value→Shared→Prop),Q (.bool (g i j)) s→wpAny (model X.prog X.w) X.A (f (.int i t) (.int j u)) Q E s):
  cW X f (wb fun i j=>.bl (g i j)):=by
 intro pins s σ H x y v u Q I rx ry h
 obtain⟨i,j,rfl,rfl,q⟩:=h
 obtain⟨t,rfl⟩:=rx
 obtain⟨t',rfl⟩:=ry
 exact rule i j t t' s _ _ ⟨.bl (g i j),H,I,rfl,q⟩
def S6 (i j:Int):Prop:=0≤j∧j≤1000000∧i.natAbs<2 ^ 64
def CL (i j:Int):Prop:=(-(2 ^ 64)<i∧i<2 ^ 64)∨(-(2 ^ 64)<j∧j<2 ^ 64)
theorem CL.ok {i j:Int} (h:CL i j):IntMulOk i j:=by
 rcases h with⟨h1,h2⟩ | ⟨h1,h2⟩
 ·exact .of_left (intBits_le_64 h1 h2)
 ·exact .of_right (intBits_le_64 h1 h2)
theorem cA:cW X (binaryOp .Add) (wb fun i j=>.int (i+j)):=Lk fun _ _ _ _ _ _ _ q=>add_int q
theorem o7:cW X (binaryOp .Sub) (wb fun i j=>.int (i-j)):=Lk fun _ _ _ _ _ _ _ q=>sub_int q
theorem gP:cW X (binaryOp .Mult) (rI CL fun i j=>.int (i*j)):=IY fun _ _ _ _ _ _ _ hc q=>mul_int q hc.ok
theorem Ll:cW X (binaryOp .Mod) (rI (fun _ j=>0<j) fun i j=>.int (i % j)):=IY fun i j _ _ _ _ _ hc q=>by
 have h1:(0:Int)<j:=hc
 exact mod_int' (by omega) (by rw[Int.fmod_eq_emod_of_nonneg i (by omega)];exact q)
theorem Lm:cW X (binaryOp .Pow) (rI S6 fun i j=>.int (i ^ j.toNat)):=IY fun _ _ _ _ _ _ _ hc q=>pow_int_small hc.1 hc.2.1 hc.2.2 q
theorem Zy {f:Value→Sem Value} {g:Int→Int}
  (rule:∀(i:Int) (t:Tok) (s:Shared) (Q:Value→Shared→Prop) (E:Value→Shared→Prop),Q (.int (g i) s.toks) {s with toks:=s.toks+1}→wpAny (model X.prog X.w) X.A (f (.int i t)) Q E s):
  Lj X f (rU fun i=>.int (g i)):=by
 intro pins s σ H x v Q I rx h
 obtain⟨i,rfl,q⟩:=h
 obtain⟨t,rfl⟩:=rx
 exact rule i t s _ _ ⟨.int (g i),H,I.tok _,⟨_,rfl⟩,q⟩
theorem ym:Lj X (unaryOp .USub) (rU fun i=>.int (-i)):=Zy fun _ _ _ _ _ q=>neg_int q
end
def Ln:V→V→Bool
 | .non,.non=>true | .non,.int _=>true | .int _,.non=>true | .non,.bl _=>true | .bl _,.non=>true | .non,.str _=>true | .str _,.non=>true
 | .int _,.int _=>true | .bl _,.bl _=>true | .str _,.str _=>true | .lA _,.lA _=>true
 | .int _,.str _=>true | .str _,.int _=>true | .bl _,.str _=>true | .str _,.bl _=>true
 | _,_=>false
def Zz:R2:=fun x y H Q=>Ln x y=true∧Q (.bl (decide (x=y))) H
def ZA:R2:=fun x y H Q=>Ln x y=true∧Q (.bl (!decide (x=y))) H
theorem BH {i j:Int}:decide (V.int i=V.int j)=(i == j):=by
 rw[Bool.eq_iff_iff]
 simp
theorem Eo {i j:Bool}:decide (V.bl i=V.bl j)=(i == j):=by
 rw[Bool.eq_iff_iff]
 simp
theorem BI {i j:Str}:decide (V.str i=V.str j)=(i == j):=by
 rw[Bool.eq_iff_iff]
 simp
theorem BJ {i j:Array UInt8}:decide (V.lA i=V.lA j)=(i.toList == j.toList):=by
 rw[Bool.eq_iff_iff]
 cases i
 cases j
 simp
section
variable {X:Cx} {a b c:Expr} {ta tb tc:TE} {pos:Pos}
theorem bQ {pins:List (Addr×Obj)} {σ:St} {H:Hp} {s:Shared} {Q:VK} {k k':Bool} (I:Inv X pins σ H s) (q:Q (.bl k) H) (e:k=k'):EP X pins σ Q (.bool k') s:=by
 subst e
 exact⟨.bl k,H,I,rfl,q⟩
theorem cL:cW X (compareOp .Eq) Zz:=by
 intro pins s σ H x y v u Q I rx ry h
 obtain⟨hs,q⟩:=h
 cases x with
 | non=>
  cases rx
  cases y with
  | non=>cases ry;exact PySem.EqNone.eq_none_none (bQ I q (by simp))
  | bl j=>cases ry;exact PySem.EqNone.eq_none_bool (bQ I q (by simp))
  | int j=>obtain⟨t',rfl⟩:=ry;exact PySem.EqNone.eq_none_int (bQ I q (by simp))
  | str j=>obtain⟨t',rfl⟩:=ry;exact PySem.EqNone.eq_none_str (bQ I q (by simp))
  | _=>exact absurd (show false=true from hs) Bool.false_ne_true
 | bl i=>
  cases rx
  cases y with
  | non=>cases ry;exact PySem.EqNone.eq_bool_none (bQ I q (by simp))
  | bl j=>cases ry;exact eq_bool (bQ I q Eo)
  | str j=>obtain⟨t',rfl⟩:=ry;exact PySem.EqMixed.eq_bool_str (bQ I q (by simp))
  | _=>exact absurd (show false=true from hs) Bool.false_ne_true
 | int i=>
  obtain⟨t,rfl⟩:=rx
  cases y with
  | non=>cases ry;exact PySem.EqNone.eq_int_none (bQ I q (by simp))
  | int j=>obtain⟨t',rfl⟩:=ry;exact eq_int (bQ I q BH)
  | str j=>obtain⟨t',rfl⟩:=ry;exact PySem.EqMixed.eq_int_str (bQ I q (by simp))
  | _=>exact absurd (show false=true from hs) Bool.false_ne_true
 | str i=>
  obtain⟨t,rfl⟩:=rx
  cases y with
  | non=>cases ry;exact PySem.EqNone.eq_str_none (bQ I q (by simp))
  | bl j=>cases ry;exact PySem.EqMixed.eq_str_bool (bQ I q (by simp))
  | int j=>obtain⟨t',rfl⟩:=ry;exact PySem.EqMixed.eq_str_int (bQ I q (by simp))
  | str j=>obtain⟨t',rfl⟩:=ry;exact eq_str (bQ I q BI)
  | _=>exact absurd (show false=true from hs) Bool.false_ne_true
 | lA i=>
  obtain⟨t,rfl⟩:=rx
  cases y with
  | lA j=>obtain⟨t',rfl⟩:=ry;exact PySem.W.eq_bytes (bQ I q BJ)
  | _=>exact absurd (show false=true from hs) Bool.false_ne_true
 | _=>cases y<;>exact absurd (show false=true from hs) Bool.false_ne_true
theorem og:cW X (compareOp .NotEq) ZA:=by
 intro pins s σ H x y v u Q I rx ry h
 obtain⟨hs,q⟩:=h
 cases x with
 | non=>
  cases rx
  cases y with
  | non=>cases ry;exact PySem.EqNone.ne_none_none (bQ I q (by simp))
  | bl j=>cases ry;exact PySem.EqNone.ne_none_bool (bQ I q (by simp))
  | int j=>obtain⟨t',rfl⟩:=ry;exact PySem.EqNone.ne_none_int (bQ I q (by simp))
  | str j=>obtain⟨t',rfl⟩:=ry;exact PySem.EqNone.ne_none_str (bQ I q (by simp))
  | _=>exact absurd (show false=true from hs) Bool.false_ne_true
 | bl i=>
  cases rx
  cases y with
  | non=>cases ry;exact PySem.EqNone.ne_bool_none (bQ I q (by simp))
  | bl j=>cases ry;exact ne_bool (bQ I q (congrArg not Eo))
  | str j=>obtain⟨t',rfl⟩:=ry;exact PySem.EqMixed.ne_bool_str (bQ I q (by simp))
  | _=>exact absurd (show false=true from hs) Bool.false_ne_true
 | int i=>
  obtain⟨t,rfl⟩:=rx
  cases y with
  | non=>cases ry;exact PySem.EqNone.ne_int_none (bQ I q (by simp))
  | int j=>obtain⟨t',rfl⟩:=ry;exact ne_int (bQ I q (congrArg not BH))
  | str j=>obtain⟨t',rfl⟩:=ry;exact PySem.EqMixed.ne_int_str (bQ I q (by simp))
  | _=>exact absurd (show false=true from hs) Bool.false_ne_true
 | str i=>
  obtain⟨t,rfl⟩:=rx
  cases y with
  | non=>cases ry;exact PySem.EqNone.ne_str_none (bQ I q (by simp))
  | bl j=>cases ry;exact PySem.EqMixed.ne_str_bool (bQ I q (by simp))
  | int j=>obtain⟨t',rfl⟩:=ry;exact PySem.EqMixed.ne_str_int (bQ I q (by simp))
  | str j=>obtain⟨t',rfl⟩:=ry;exact ne_str (bQ I q (congrArg not BI))
  | _=>exact absurd (show false=true from hs) Bool.false_ne_true
 | lA i=>
  obtain⟨t,rfl⟩:=rx
  cases y with
  | lA j=>obtain⟨t',rfl⟩:=ry;exact PySem.W.ne_bytes (bQ I q (congrArg not BJ))
  | _=>exact absurd (show false=true from hs) Bool.false_ne_true
 | _=>cases y<;>exact absurd (show false=true from hs) Bool.false_ne_true
theorem sG:cW X (compareOp .Lt) (wb fun i j=>.bl (decide (i<j))):=CK fun _ _ _ _ _ _ _ q=>lt_int q
theorem IZ:cW X (compareOp .LtE) (wb fun i j=>.bl (decide (i≤j))):=CK fun _ _ _ _ _ _ _ q=>le_int q
theorem xV:cW X (compareOp .Gt) (wb fun i j=>.bl (decide (j<i))):=CK fun _ _ _ _ _ _ _ q=>gt_int q
theorem Pb:cW X (compareOp .GtE) (wb fun i j=>.bl (decide (j≤i))):=CK fun _ _ _ _ _ _ _ q=>ge_int q
theorem wc:cW X (compareOp .In) (fun x y H Q=>∃i j,x=.str i∧y=.str j∧Q (.bl (!(Builtin.Str.occurrences j i 0 j.length 1).isEmpty)) H):=by
 intro pins s σ H x y v u Q I rx ry h
 obtain⟨i,j,rfl,rfl,q⟩:=h
 obtain⟨t,rfl⟩:=rx
 obtain⟨t',rfl⟩:=ry
 exact in_str (bQ I q rfl)
theorem Lo:cW X (compareOp .Is) (fun x y H Q=>y=.non∧Q (.bl (decide (x=.non))) H):=by
 intro pins s σ H x y v u Q I rx ry h
 obtain⟨rfl,q⟩:=h
 cases ry
 refine is_none_gen (bQ I q ?_)
 cases x<;>first
  | (cases rx;rfl)
  | (obtain⟨t,rfl⟩:=rx;rfl)
theorem Ko:cW X (compareOp .IsNot) (fun x y H Q=>y=.non∧Q (.bl (!decide (x=.non))) H):=by
 intro pins s σ H x y v u Q I rx ry h
 obtain⟨rfl,q⟩:=h
 cases ry
 refine isnot_none_gen (bQ I q ?_)
 cases x<;>first
  | (cases rx;rfl)
  | (obtain⟨t,rfl⟩:=rx;rfl)
theorem yn:cW X (compareOp .NotIn) (fun x y H Q=>∃i j,x=.str i∧y=.str j∧Q (.bl (!(!(Builtin.Str.occurrences j i 0 j.length 1).isEmpty))) H):=by
 intro pins s σ H x y v u Q I rx ry h
 obtain⟨i,j,rfl,rfl,q⟩:=h
 obtain⟨t,rfl⟩:=rx
 obtain⟨t',rfl⟩:=ry
 exact notIn_str (bQ I q rfl)
theorem aW (b:Expr) {op:CmpOp} (h:op≠.In:=by decide) (h2:op≠.NotIn:=by decide):behindInMarks op b=false:=by
 have e1:(op == CmpOp.In)=false:=by cases op<;>first | rfl | exact absurd rfl h
 have e2:(op == CmpOp.NotIn)=false:=by cases op<;>first | rfl | exact absurd rfl h2
 cases b<;>simp[behindInMarks,e1,e2]
theorem iT {op:CmpOp} {r:R2} (ho:cW X (compareOp op) r) (ha:PE X a ta) (hb:PE X b tb) (hm:behindInMarks op b=false):PE X (.Compare a [op] [b] pos) (BG r ta tb):=by
 intro pins s σ H Q I h
 exact wpAny_Compare1 (GA ha hb I h fun v u s2 x y H2 I2 rx ry q=>ho pins s2 σ H2 x y v u Q I2 rx ry q) hm
def I_ (t:TE):TT:=fun σ H Q=>t σ H fun x H'=>∃k,x=.bl k∧Q k H'
theorem aP {op:CmpOp} {r:R2} (ho:cW X (compareOp op) r) (ha:PE X a ta) (hb:PE X b tb) (hm:behindInMarks op b=false):PT X (.Compare a [op] [b] pos) (I_ (BG r ta tb)):=by
 intro pins s σ H Q I h
 refine wpAny_isTrue_Compare1 (bf (ha pins s σ H _ I h) fun v s1 ⟨x,H1,I1,r1,q1⟩=>bf (hb pins s1 σ H1 _ I1 q1) fun u s2 ⟨y,H2,I2,r2,q2⟩=>
  bf (ho pins s2 σ H2 x y v u _ I2 r1 r2 q2) fun c s3 ⟨z,H3,I3,r3,k,e,q3⟩=>?_) hm
 subst e
 cases r3
 exact wpAny_truthy_bool ⟨H3,I3,q3⟩
def Lp (r r':R2) (ta tb tc:TE):TE:=fun σ H Q=>ta σ H fun x H1=>tb σ H1 fun y H2=>r x y H2 fun z H3=>∃k,z=.bl k∧
 (if k=true then tc σ H3 fun w' H4=>r' y w' H4 Q else Q (.bl false) H3)
theorem GB {op op':CmpOp} {r r':R2} (ho:cW X (compareOp op) r) (ho':cW X (compareOp op') r') (ha:PE X a ta) (hb:PE X b tb) (hc:PE X c tc)
  (hm:lastMarks [op,op'] [b,c]=false:=by with_unfolding_all rfl):PT X (.Compare a [op,op'] [b,c] pos) (I_ (Lp r r' ta tb tc)):=by
 intro pins s σ H Q I h
 refine isTrue_chain (bf (ha pins s σ H _ I h) fun v s1 ⟨x,H1,I1,r1,q1⟩=>test_link (bf (hb pins s1 σ H1 _ I1 q1) fun u s2 ⟨y,H2,I2,r2,q2⟩=>
  bf (ho pins s2 σ H2 x y v u _ I2 r1 r2 q2) fun d s3 ⟨z,H3,I3,r3,k,e,q3⟩=>?_)) hm
 subst e
 cases r3
 refine wpAny_truthy_bool ?_
 cases k with
 | false=>
  obtain⟨k',e',q'⟩:=q3
  cases e'
  exact ite_ff ⟨H3,I3,q'⟩
 | true=>
  refine ite_tt (test_last (bf (hc pins s3 σ H3 _ I3 q3) fun w' s4 ⟨z',H4,I4,r4,q4⟩=>bf (ho' pins s4 σ H4 y z' u w' _ I4 r2 r4 q4) fun d' s5 ⟨z2,H5,I5,r5,k2,e2,q5⟩=>?_))
  subst e2
  cases r5
  exact wpAny_truthy_bool ⟨H5,I5,q5⟩
def Lq (K:PySem.W.Frag) (x:V) (H:Hp) (k:Bool):Prop:=
 match x with
 | .non=>k=false
 | .bl b=>k=b
 | .int i=>k=(i != 0)
 | .str y=>y.length≤sizeLine∧k=((y.length:Int) != 0)
 | .lA y=>y.size≤sizeLine∧k=((y.size:Int) != 0)
 | .ref p=>(∃xs,cf K H p xs∧k= !xs.isEmpty)∨(∃xs,cp K H p xs∧k= !xs.isEmpty)∨∃kvs,H p=some (.dK kvs)∧k= !kvs.isEmpty
 | _=>False
theorem CM {κ:Type} {kvs:List (κ×V)} {vs:List (κ×Value)} (r:KV kvs vs):(!vs.isEmpty)= !kvs.isEmpty:=by
 cases r<;>rfl
theorem uz {xs:List V} {its:List Value} (r:Vals xs its):(!its.toArray.isEmpty)= !xs.isEmpty:=by
 cases r<;>simp
theorem o8:(sizeLine:Nat)<2 ^ 63:=by rw[sizeLine_eq];decide
theorem Lr:S5 X (fun x H Q=>∃k,Lq X.K x H k∧Q k H):=by
 intro pins s σ H x v Q I rx h
 obtain⟨k,e,q⟩:=h
 have hl:=o8
 have hs:sizeLine=16777216:=sizeLine_eq
 cases x with
 | non=>
  cases rx
  have e':k=false:=e
  subst e'
  exact truthy_none ⟨H,I,q⟩
 | bl b=>
  cases rx
  have e':k=b:=e
  subst e'
  exact wpAny_truthy_bool ⟨H,I,q⟩
 | int i=>
  obtain⟨t,rfl⟩:=rx
  have e':k=(i != 0):=e
  subst e'
  exact PySem.P.truthy_int ⟨H,I,q⟩
 | str y=>
  obtain⟨t,rfl⟩:=rx
  obtain⟨hy,e'⟩:y.length≤sizeLine∧k=((y.length:Int) != 0):=e
  subst e'
  exact PySem.P.truthy_str (by omega) ⟨H,I.tok _,q⟩
 | lA y=>
  obtain⟨t,rfl⟩:=rx
  obtain⟨hy,e'⟩:y.size≤sizeLine∧k=((y.size:Int) != 0):=e
  subst e'
  exact PySem.W.truthy_bytes (by omega) ⟨H,I.tok _,q⟩
 | ref p=>
  cases rx
  have e':(∃xs,cf X.K H p xs∧k= !xs.isEmpty)∨(∃xs,cp X.K H p xs∧k= !xs.isEmpty)∨∃kvs,H p=some (.dK kvs)∧k= !kvs.isEmpty:=e
  rcases e' with⟨xs,hx,e'⟩ | ⟨xs,hx,e'⟩ | ⟨kvs,hx,e'⟩
  ·subst e'
   obtain⟨its,r,pl,hz⟩:=I.list hx
   have hlen:=r.length
   exact wpAny_truthy_list pl.isList (by simp only[List.size_toArray];omega) ⟨H,I.tok _,by rw[uz r];exact q⟩
  ·subst e'
   obtain⟨its,r,pl,hz⟩:=I.tuple hx
   have hlen:=r.length
   exact truthy_tuple pl (by simp only[List.size_toArray];omega) ⟨H,I.tok _,by rw[uz r];exact q⟩
  ·subst e'
   obtain⟨hz,hS,vs,r,m⟩:kvs.length≤sizeLine∧(p == sysModules)=false∧∃vs,KV kvs vs∧s.heap.DictOf (dY X.prog X.w) p vs:=I.hok p _ hx
   have hlen:kvs.length=vs.length:=Paired.length r
   exact wpAny_truthy_dict hS m (by omega) ⟨H,I.tok _,by rw[CM r];exact q⟩
 | _=>exact(show False from e).elim
theorem df (ha:PE X a ta) (he:∀whole,isTrue a X.env whole=(do let v ←whole;standAt a.pos;holding [v] (truthy v))):
  PT X a (fun σ H Q=>ta σ H fun x H'=>∃k,Lq X.K x H' k∧Q k H'):=by
 intro pins s σ H Q I h
 exact isTrue_plain (bf (ha pins s σ H _ I h) fun v s1 ⟨x,H1,I1,r1,q1⟩=>Lr pins s1 σ H1 x v Q I1 r1 q1) (he _)
theorem ao:cW X (binaryOp .Add) (fun x y H Q=>∃i j,x=.str i∧y=.str j∧i.length+j.length≤sizeLine∧Q (.str (i++j)) H):=by
 intro pins s σ H x y v u Q I rx ry h
 obtain⟨i,j,rfl,rfl,hz,q⟩:=h
 obtain⟨t,rfl⟩:=rx
 obtain⟨t',rfl⟩:=ry
 exact add_str (fun t' tk=>⟨.str (i++j),H,I.tok _,⟨_,rfl⟩,q⟩) hz
theorem vals1 {x:V} {us:List Value} (r:Vals [x] us):∃u,us=[u]∧RelV x u:=by
 cases r with
 | cons r1 r2=>cases r2;exact⟨_,rfl,r1⟩
theorem vals2 {x y:V} {us:List Value} (r:Vals [x,y] us):∃u w',us=[u,w']∧RelV x u∧RelV y w':=by
 cases r with
 | cons r1 r2=>
  cases r2 with
  | cons r3 r4=>cases r4;exact⟨_,_,rfl,r1,r3⟩
theorem wg (hc:X.calm=true):fO X (.builtin "min") (fun xs H Q=>∃i j,xs=[.int i,.int j]∧Q (.int (if j<i then j else i)) H):=by
 intro pins s σ H xs us Q I r h
 obtain⟨i,j,rfl,q⟩:=h
 obtain⟨u,w',rfl,⟨t,rfl⟩,⟨t',rfl⟩⟩:=vals2 r
 refine min_two_ints (I.ok.hd hc) fun h' tk k=>⟨_,H,I.kept k,?_,q⟩
 by_cases hj:j<i
 ·rw[if_pos hj,if_pos hj];exact⟨_,rfl⟩
 ·rw[if_neg hj,if_neg hj];exact⟨_,rfl⟩
theorem qR:fO X (.type "int") (fun xs H Q=>(∃i,xs=[.int i]∧Q (.int i) H)∨∃k,xs=[.bl k]∧Q (.int (if k then 1 else 0)) H):=by
 intro pins s σ H xs us Q I r h
 rcases h with⟨i,rfl,q⟩ | ⟨k,rfl,q⟩
 ·obtain⟨u,rfl,t,rfl⟩:=vals1 r
  exact call_int_int ⟨.int i,H,I,⟨_,rfl⟩,q⟩
 ·obtain⟨u,rfl,r1⟩:=vals1 r
  cases r1
  exact call_int_bool ⟨.int (if k then 1 else 0),H,I.tok _,⟨_,rfl⟩,q⟩
theorem qS:fO X (.type "str") (fun xs H Q=>∃i,xs=[.int i]∧i.natAbs.log2<1920∧Q (.str (toString i)) H):=by
 intro pins s σ H xs us Q I r h
 obtain⟨i,rfl,hz,q⟩:=h
 obtain⟨u,rfl,t,rfl⟩:=vals1 r
 exact PySem.P.str_of_int hz ⟨.str _,H,I.tok _,⟨_,rfl⟩,q⟩
def GC (K:PySem.W.Frag) (x:V) (H:Hp) (n:Nat):Prop:=
 match x with
 | .str y=>y.length≤sizeLine∧n=y.length
 | .lA y=>y.size≤sizeLine∧n=y.size
 | .ref p=>(∃xs,cf K H p xs∧n=xs.length)∨∃xs,cp K H p xs∧n=xs.length
 | _=>False
theorem GD:fO X (.builtin "len") (fun xs H Q=>∃x n,xs=[x]∧GC X.K x H n∧Q (.int n) H):=by
 intro pins s σ H xs us Q I r h
 obtain⟨x,n,rfl,e,q⟩:=h
 obtain⟨u,rfl,rx⟩:=vals1 r
 have hl:=o8
 have hs:sizeLine=16777216:=sizeLine_eq
 cases x with
 | str y=>
  obtain⟨t,rfl⟩:=rx
  obtain⟨hy,e'⟩:y.length≤sizeLine∧n=y.length:=e
  subst e'
  exact len_str (by omega) ⟨.int _,H,I.tok _,⟨_,rfl⟩,q⟩
 | lA y=>
  obtain⟨t,rfl⟩:=rx
  obtain⟨hy,e'⟩:y.size≤sizeLine∧n=y.size:=e
  subst e'
  exact PySem.W.len_bytes (by omega) ⟨.int _,H,I.tok _,⟨_,rfl⟩,q⟩
 | ref p=>
  cases rx
  have e':(∃xs,cf X.K H p xs∧n=xs.length)∨∃xs,cp X.K H p xs∧n=xs.length:=e
  rcases e' with⟨xs,hx,e'⟩ | ⟨xs,hx,e'⟩
  ·subst e'
   obtain⟨its,r',pl,hz⟩:=I.list hx
   have hlen:=r'.length
   exact Calls.call_len_list pl.isList (by simp only[List.size_toArray];omega) ⟨.int xs.length,H,I.tok _,⟨_,by simp only[List.size_toArray];rw[hlen]⟩,q⟩
  ·subst e'
   obtain⟨its,r',pl,hz⟩:=I.tuple hx
   have hlen:=r'.length
   exact len_tuple pl (by simp only[List.size_toArray];omega) ⟨.int xs.length,H,I.tok _,⟨_,by simp only[List.size_toArray];rw[hlen]⟩,q⟩
 | _=>exact(show False from e).elim
end
theorem Ep {h:Heap} {dx:Addr} {mA:Str→Option Value} (n:h.Ns1 dx mA):∃od,h.get? dx=some od∧∀name,PySem.W.lookIn name od=some (mA name):=by
 obtain⟨o,es,ep,ho,hd,hk,_,hm⟩:=n
 refine⟨o,ho,fun name=>?_⟩
 have e:=hm name
 unfold nsFind findBy at e
 rw[←Array.find?_toList] at e
 unfold PySem.W.lookIn
 rw[hd]
 dsimp only
 split
 ·rename_i y q
  rw[q] at e
  exact congrArg some e
 ·rename_i q
  rw[q] at e
  have a:es.toList.any (·.refKey)=false:=by
   rw[List.any_eq_false]
   intro y hy
   obtain⟨z,t,hkey⟩:=hk y (Array.mem_toList_iff.mp hy)
   simp[DictEntry.refKey,hkey]
  have a':¬es.toList.any (·.refKey)=true:=by rw[a];exact Bool.false_ne_true
  rw[if_neg a']
  exact congrArg some e
theorem jD.some_of {v:V} {o:Option Value} (r:jD (some v) o):∃u,o=some u∧RelV v u:=by
 cases o with
 | none=>exact(show False from r).elim
 | some u=>exact⟨u,rfl,r⟩
theorem jD.none_of {o:Option Value} (r:jD none o):o=none:=by
 cases o with
 | none=>rfl
 | some u=>exact(show False from r).elim
structure aU (k:Nat) (A:Around):Prop where
 hd:A.handled=none
 dp:A.depth+3*k+5<recursionLimit
 un:A.units+16*k+200<cLine
 gd:A.guards=some []
theorem aU.mono {j k:Nat} {A:Around} (r:aU k A) (h:j≤k):aU j A:=⟨r.hd,by have:=r.dp;omega,by have:=r.un;omega,r.gd⟩
theorem aU.deeper {k:Nat} {A:Around} (r:aU (k+1) A) (env:Env):aU k (A.deeper env):=
 ⟨r.hd,by have:=r.dp;show A.depth+1+3*k+5<_;omega,by have:=r.un;show A.units+3+16*k+200<_;omega,r.gd⟩
theorem CN {A:Around} {C:Addr} {us:List Value} {kw:List (Str×Value)}:(A.under (.builtin "type.__call__" ⟨.ref C::us,kw⟩)).depth=A.depth+1:=by
 first | rfl | simp[Around.under,Code.weight,Code.isCreation,Code.isGuard,Code.isCaller,Code.frames,Code.isFrame,guardIds]
theorem CO {A:Around} {C:Addr} {us:List Value} {kw:List (Str×Value)}:(A.under (.builtin "type.__call__" ⟨.ref C::us,kw⟩)).units=A.units+1:=by
 first | rfl | simp[Around.under,Code.cUnits,Code.frames,Code.isFrame]
theorem aU.make {k:Nat} {A:Around} (r:aU (k+1) A) (C:Addr) (us:List Value) (kw:List (Str×Value)):aU k (A.under (.builtin "type.__call__" ⟨.ref C::us,kw⟩)):=
 ⟨r.hd,by have:=r.dp;rw[CN];omega,by have:=r.un;rw[CO];omega,by first | exact r.gd | (show pushGuards _ A.guards=_;rw[r.gd];rfl) | simp[Around.under,r.gd]⟩
theorem aU.depth {k:Nat} {A:Around} (r:aU k A):A.depth<recursionLimit:=by have:=r.dp;omega
theorem aU.units {k:Nat} {A:Around} (r:aU k A):A.units+64<cLine:=by have:=r.un;omega
def jH:TA:=fun _ H Q=>Q [] H
def jY (ta:TE) (tr:TA):TA:=fun σ H Q=>ta σ H fun x H1=>tr σ H1 fun xs H2=>Q (x::xs) H2
section
variable {X:Cx} {e:Expr} {es:List Expr} {te:TE} {t:TA} {pos:Pos}
theorem af:PA X [] jH:=fun _ _ _ _ H Q I h=>Calls.spliced_nil ⟨[],H,I,.nil,h⟩
theorem ae (ha:PE X e te) (hr:PA X es t) (hs:starEach (e::es) X.env=(false,eval e X.env)::starEach es X.env:=by rfl):PA X (e::es) (jY te t):=by
 intro pos pins s σ H Q I h
 rw[hs]
 show wpAny _ _ (spliced ((false,eval e X.env)::backTo pos (starEach es X.env))) _ _ s
 refine Calls.spliced_cons (bf (ha pins s σ H _ I h) fun u s1 ⟨x,H1,I1,r1,q1⟩=>?_)
 exact bf (hr pos pins s1 σ H1 _ I1 q1) fun us s2 ⟨xs,H2,I2,r2,q2⟩=>⟨x::xs,H2,I2,.cons r1 r2,q2⟩
def GF (t:TA):TE:=fun σ H Q=>t σ H fun xs H1=>xs.length≤sizeLine∧∀p,H1 p=none→Q (.ref p) (upd H1 p (.tup xs))
def Ls (t:TA):TE:=fun σ H Q=>t σ H fun xs H1=>xs.length≤sizeLine∧∀p,H1 p=none→Q (.ref p) (upd H1 p (.lst xs))
theorem br {x1} (h:PA X es t):PE X (.Tuple es x1 pos) (GF t):=by
 intro pins s σ H Q I hq
 refine wpAny_Tuple_spliced (bf (h pos pins s σ H _ I hq) fun us s1 ⟨xs,H1,I1,r,z,q⟩=>⟨by rw[←r.length];exact z,?_⟩)
 have hf:H1 s1.heap.objs.size=none:=I1.hok.fresh (Nat.le_refl _)
 refine⟨.ref s1.heap.objs.size,upd H1 s1.heap.objs.size (.tup xs),I1.laid (t':=s1.toks) (fun b u e=>Heap.get?_push_of_some _ e) (Nat.le_refl _) ?_,rfl,q _ hf⟩
 exact⟨⟨z,_,Heap.get?_push_size _ rfl,rfl⟩,us,r,⟨_,Heap.get?_push_size _ rfl,rfl,_,rfl⟩⟩
theorem bN (h:PA X es t):PE X (.List es pos) (Ls t):=by
 intro pins s σ H Q I hq
 refine wpAny_List_spliced (bf (h pos pins s σ H _ I hq) fun us s1 ⟨xs,H1,I1,r,z,q⟩=>⟨by rw[←r.length];exact z,?_⟩)
 have hf:H1 s1.heap.objs.size=none:=I1.hok.fresh (Nat.le_refl _)
 refine⟨.ref s1.heap.objs.size,upd H1 s1.heap.objs.size (.lst xs),I1.laid (t':=s1.toks) (fun b u e=>Heap.get?_push_of_some _ e) (Nat.le_refl _) ?_,rfl,q _ hf⟩
 exact⟨z,us,0,r,Heap.get?_push_size _ rfl⟩
end
abbrev Sp:=List V→Hp→VK→XK→Prop
abbrev qA:=List Env→Hp→Shared→XK→Value→Shared→Prop
structure tW (P:Program) (w:World) (K:PySem.W.Frag) (mg:Str→Option Value) (base:Heap) (A:Around) (outer:List Env) (s:Shared) (H:Hp):Prop where
 frames:A.frames=some outer
 mod:Mod K mg base
 bs:∀b o,base.get? b=some o→s.heap.get? b=some o∧H b=none
 tD:base.objs.size≤s.heap.objs.size
 jE:s.heap.FunFrames base outer
 vX:∀b∈frs outer,H b=none
 hok:fk P w H s.heap
 bare:AllBare s.gens
def CE (outer:List Env) (P:Program) (w:World) (H:Hp) (s:Shared) (Q:VK) (u:Value) (s':Shared):Prop:=
 ∃v H',s'.os=s.os∧AllBare s'.gens∧Un (frs outer) [] H H' s.heap s'.heap∧fk P w H' s'.heap∧RelV v u∧Q v H'
def CR (CX:qA) (outer:List Env) (P:Program) (w:World) (H:Hp) (s:Shared) (Q:VK) (E:XK) (r:Result) (s':Shared):Prop:=
 match r with
 | .ok (.ret u)=>CE outer P w H s Q u s'
 | .ok _=>False
 | .error e=>CX outer H s E e s'
structure a_ (P:Program) (w:World) (K:PySem.W.Frag) (mg:Str→Option Value) (base:Heap) (CX:qA) (k:Nat) (f:Addr) (fd:FuncData) (ps:List Str) (sp:Sp):Prop where
 len:∀vs H Q E,sp vs H Q E→vs.length=ps.length
 run:∀(A:Around) (outer:List Env) (s:Shared) (H:Hp) (args:Args) (us:List Value) (vs:List V) (Q:VK) (E:XK),aU k A→tW P w K mg base A outer s H→BindsTo s fd args (ps.zip us)→Vals vs us→sp vs H Q E→
  codeAny (model P w) A (.call (.ref f) args) (CR CX outer P w H s Q E) s
theorem tW.make {P:Program} {w:World} {K:PySem.W.Frag} {mg:Str→Option Value} {base:Heap} {A:Around} {outer:List Env} {s:Shared} {H:Hp} (e:tW P w K mg base A outer s H) (C:Addr) (us:List Value) (kw:List (Str×Value)):
  tW P w K mg base (A.under (.builtin "type.__call__" ⟨.ref C::us,kw⟩)) outer s H:=⟨by first | exact e.frames | (simpa[Around.under,Code.envs,Code.isFrame,pushEnvs] using e.frames),e.mod,e.bs,e.tD,e.jE,e.vX,e.hok,e.bare⟩
section
variable {X:Cx} {pins:List (Addr×Obj)} {σ:St} {H:Hp} {s s':Shared}
theorem Inv.env0 (I:Inv X pins σ H s):tW X.prog X.w X.K X.mg X.base X.A X.stack s H:=
 ⟨I.ok.frames,I.ok.mod,I.bs,Nat.le_trans I.ok.tD I.sz,I.stack,I.sF,I.hok,I.bare⟩
theorem Inv.after {Q:VK} {u:Value} (I:Inv X pins σ H s) (h:CE X.stack X.prog X.w H s Q u s'):EP X pins σ Q u s':=by
 obtain⟨v,H',os,bare,un,hok,r,q⟩:=h
 obtain⟨hh,g,d,t,os'⟩:=s'
 obtain rfl:os'=s.os:=os
 exact⟨v,H',I.call (h':=hh) (g':=g) (d':=d) (t':=t) (ch:=[]) un hok bare (fun b z=>absurd z (by simp)),r,q⟩
end
def I0 (sp:Sp) (wj:List V) (E:XK) (t:TA):TE:=fun σ H Q=>t σ H fun vs H1=>sp (vs++wj) H1 Q E
def Binds (K:PySem.W.Frag) (fd:FuncData) (ps:List Str) (ds:List Value):Prop:=
 ∀(s:Shared) (us:List Value),K.In s.heap→(us++ds).length=ps.length→BindsTo s fd ⟨us,[]⟩ (ps.zip (us++ds))
theorem Binds.all {K:PySem.W.Frag} {fd:FuncData} {ps:List Str} (h:∀us:List Value,us.length=ps.length→bindArgs fd ⟨us,[]⟩=pure (ps.zip us)):Binds K fd ps []:=fun s us _ hl=>by
 rw[List.append_nil] at hl ⊢
 exact .of_eq (h us hl)
def Passes (CX:qA) (X:Cx) (E:XK):Prop:=∀(pins:List (Addr×Obj)) (σ:St) (H:Hp) (s:Shared) (e:Value) (s':Shared),Inv X pins σ H s→CX X.stack H s E e s'→X.xe e s'
section
variable {X:Cx} {CX:qA} {k:Nat} {f C:Addr} {fd:FuncData} {ps:List Str} {sp:Sp} {wj:List V} {ds:List Value} {E:XK} {x m:Str} {p pos apos:Pos} {e o:Expr} {es:List Expr} {ta:TE} {t:TA}
theorem Lu {pins:List (Addr×Obj)} {σ:St} {H:Hp} {s:Shared} {Q:VK} {us:List Value} {vs:List V} (F:a_ X.prog X.w X.K X.mg X.base CX k f fd ps sp) (hr:aU k X.A) (hb:Binds X.K fd ps ds) (hd:Vals wj ds) (hx:Passes CX X E)
  (I:Inv X pins σ H s) (r:Vals vs us) (h:sp (vs++wj) H Q E):wpAny (model X.prog X.w) X.A (call (.ref f) us) (EP X pins σ Q) X.xe s:=by
 have r2:Vals (vs++wj) (us++ds):=r.append hd
 have hl:(us++ds).length=ps.length:=by rw[←r2.length];exact F.len _ _ _ _ h
 refine wpAny_call (codeAny_mono (F.run X.A X.stack s H ⟨us,[]⟩ (us++ds) (vs++wj) Q E hr I.env0 (hb s us I.ja hl) r2 h) fun r s' hq=>?_)
 cases r with
 | error e=>exact hx pins σ H s e s' I hq
 | ok fl=>
  cases fl with
  | ret u=>exact I.after hq
  | next=>exact False.elim hq
  | brk=>exact False.elim hq
  | cont=>exact False.elim hq
theorem aE (F:a_ X.prog X.w X.K X.mg X.base CX k f fd ps sp) (hr:aU k X.A) (hg:Gl X x) (hm:X.mg x=some (.ref f)) (hk:PySem.W.keepIn X.K (.ref f)=true) (hb:Binds X.K fd ps ds) (hd:Vals wj ds) (hx:Passes CX X E)
  (ha:PA X (e::es) t) (hdb:(x == ("__debug__":Str))=false:=by decide) (he:starEach (e::es) X.env=(false,eval e X.env)::starEach es X.env:=by rfl) (hpl:(backTo pos (starEach es X.env)).any (·.1)=false:=by rfl):
  PE X (.Call (.Name x p) (e::es) [] pos) (I0 sp wj E t):=by
 intro pins s σ H Q I h
 refine wpAny_Call_Name_kw (jF I hg hm ?_ hdb)
 refine PySem.W.callWith_K (h₀:=X.base) I.ok.mod.vW hk (bf (ha pos pins s σ H _ I h) fun us s1 ⟨vs,H1,I1,r,q⟩=>⟨I1.ja,?_⟩) he hpl
 exact Lu F hr hb hd hx I1 r q
end
structure bh (N P:List Str) (sc:Scope):Prop where
 kind:sc.kind=.function
 co:sc.isCoroutine=false
 gen:sc.isGenerator=false
 nd:N.Nodup
 pre:N.take P.length=P
 par:∀x∈P,sc.names.lookup x=some .local∨sc.names.lookup x=some .cell
 Lv:∀y∈sc.names,y.2≠.free
theorem wk {kindOf:Str→Option NameKind} {x:Str}:∀{binds:List (Str×Value)} {m:Str→Option Value},(∀v,(x,v) ∉ binds)→bindL kindOf binds m x=m x
 | [],_,_=>rfl
 | (n,v)::r,m,h=>by
  unfold bindL
  rw[wk fun w hw=>h w (List.mem_cons_of_mem _ hw)]
  split
  ·have:x≠n:=by rintro rfl;exact h v List.mem_cons_self
   simp[this]
  ·rfl
theorem wm {kindOf:Str→Option NameKind} {x:Str}:∀{binds:List (Str×Value)} {m:Str→Option Value},(∀v,(x,v) ∉ binds)→bindC kindOf binds m x=m x
 | [],_,_=>rfl
 | (n,v)::r,m,h=>by
  unfold bindC
  rw[wm fun w hw=>h w (List.mem_cons_of_mem _ hw)]
  split
  ·rfl
  ·have:x≠n:=by rintro rfl;exact h v List.mem_cons_self
   simp[this]
theorem wo {kindOf:Str→Option NameKind} {x:Str} {v:Value}:∀{P:List Str} {vs:List Value} {i:Nat} {m:Str→Option Value},P.Nodup→P[i]? =some x→vs[i]? =some v→kindOf x=some .local→
  bindL kindOf (P.zip vs) m x=some v
 | [],_,_,_,_,h,_,_=>by simp at h
 | _::_,[],_,_,_,_,h,_=>by simp at h
 | p::P,w::vs,0,m,nd,h1,h2,hk=>by
  simp at h1 h2;subst h1;subst h2
  show bindL kindOf ((p,w)::P.zip vs) m p=_
  unfold bindL
  rw[wk fun v hv=>(List.nodup_cons.mp nd).1 (List.of_mem_zip hv).1,if_pos hk]
  simp
 | p::P,w::vs,i+1,m,nd,h1,h2,hk=>by
  show bindL kindOf ((p,w)::P.zip vs) m x=_
  unfold bindL
  exact wo (i:=i) (List.nodup_cons.mp nd).2 (by simpa using h1) (by simpa using h2) hk
theorem wq {kindOf:Str→Option NameKind} {x:Str} {v:Value}:∀{P:List Str} {vs:List Value} {i:Nat} {m:Str→Option Value},P.Nodup→P[i]? =some x→vs[i]? =some v→kindOf x≠some .local→
  bindC kindOf (P.zip vs) m x=some v
 | [],_,_,_,_,h,_,_=>by simp at h
 | _::_,[],_,_,_,_,h,_=>by simp at h
 | p::P,w::vs,0,m,nd,h1,h2,hk=>by
  simp at h1 h2;subst h1;subst h2
  show bindC kindOf ((p,w)::P.zip vs) m p=_
  unfold bindC
  rw[wm fun v hv=>(List.nodup_cons.mp nd).1 (List.of_mem_zip hv).1,if_neg hk]
  simp
 | p::P,w::vs,i+1,m,nd,h1,h2,hk=>by
  show bindC kindOf ((p,w)::P.zip vs) m x=_
  unfold bindC
  exact wq (i:=i) (List.nodup_cons.mp nd).2 (by simpa using h1) (by simpa using h2) hk
def start (N:List Str) (vs:List V):St:=vs.map some++List.replicate (N.length-vs.length) none
def iA (CX:qA) (P:Program) (w:World) (K:PySem.W.Frag) (mg:Str→Option Value) (base:Heap) (N:List Str) (qual:Str) (scope:Scope) (f:Addr) (cd:Value) (A:Around) (outer:List Env) (s:Shared) (H:Hp) (E:XK):Cx where
 prog:=P
 w:=w
 K:=K
 mg:=mg
 base:=base
 A:=A.deeper (envOfC qual scope s.heap.objs.size f cd)
 N:=N
 s₀:=s
 H₀:=H
 env:=envOfC qual scope s.heap.objs.size f cd
 outer:=outer
 stack:=envOfC qual scope s.heap.objs.size f cd::outer
 ex:=[]
 calm:=true
 fn:=fun _=>true
 pn:=[]
 xe:=fun e s'=>wpAny (model P w) (A.deeper (envOfC qual scope s.heap.objs.size f cd)) (leaving (envOfC qual scope s.heap.objs.size f cd) e) (fun _ s''=>CX outer H s E e s'') (fun e' s''=>CX outer H s E e' s'') s'
theorem yo {sc:Scope} {n:Nat} {x:Str} (h:sc.names.lookup x=some .cell):∃c,(cellsFrom n sc.names []).lookup x=some c:=by
 have q:=PySem.W.cellsFrom_some sc.names n [] (.inl h)
 exact Option.isSome_iff_exists.mp q
theorem Er {CX:qA} {P:Program} {w:World} {K:PySem.W.Frag} {mg:Str→Option Value} {base:Heap} {N ps:List Str} {qual:Str} {scope:Scope} {f:Addr} {cd:Value} {A:Around} {outer:List Env} {s s1:Shared} {H:Hp} {E:XK} {us:List Value} {vs:List V}
  (S:bh N ps scope) (hd:A.handled=none) (e0:tW P w K mg base A outer s H) (hl:vs.length=ps.length) (r:Vals vs us)
  (x:InCallC s s.heap.objs.size (bindL (envOfC qual scope s.heap.objs.size f cd).kindOf (ps.zip us) fun _=>none) (cellsFrom (s.heap.objs.size+1) scope.names []) (bindC (envOfC qual scope s.heap.objs.size f cd).kindOf (ps.zip us) fun _=>none) s1):
  Inv (iA CX P w K mg base N qual scope f cd A outer s H E) [] (start N vs) H s1:=by
 have hpl:ps.length≤N.length:=by have:=congrArg List.length S.pre;rw[List.length_take] at this;omega
 obtain⟨h1,tk,rfl,hk⟩:=x.done
 have Es:∀b:Addr,b ∉ (iA CX P w K mg base N qual scope f cd A outer s H E).ex:=fun b z=>absurd (show b∈([]:List Addr) from z) (by simp)
 refine⟨⟨e0.mod,S.kind,rfl,rfl,Nat.le_refl _,fun y z c h1 h2=>?_,fun y hy=>?_,fun y c _ h=>?_,fun _=>hd,Around.frames_deeper e0.frames,.inr ⟨rfl,rfl⟩,fun b z=>absurd z (Es b),e0.bs,e0.tD,fun b _ _=>Es b,fun b z=>absurd z (Es b),e0.jE,e0.vX⟩,
  rfl,e0.bare,Un.kept hk,⟨_,x.toInCall.ns,fun i y v h1 h2 h3=>?_⟩,fun y c h=>⟨_,x.cell y c h⟩,e0.hok.fresh (Nat.le_refl _),fun y c h=>?_,fun p hp=>absurd (show p∈([]:List (Addr×Obj)) from hp) (by simp),e0.hok.kept hk,?_⟩
 ·exact name_of_addr x.apart (PySem.mem_of_lookup h1) (PySem.mem_of_lookup h2)
 ·have hy:scope.names.lookup y=some .cell∨scope.names.lookup y=some .free:=hy
  rcases hy with hy | hy
  ·exact yo hy
  ·exact absurd rfl (S.Lv _ (PySem.mem_of_lookup hy))
 ·exact Nat.le_of_lt (x.above y c (PySem.mem_of_lookup h))
 ·have hi:i<vs.length:=by
   unfold start at h2
   by_cases hi:i<vs.length
   ·exact hi
   ·rw[List.getElem?_append_right (by simpa using hi)] at h2
    rw[List.getElem?_replicate] at h2
    split at h2<;>cases h2
  have ha:vs[i]? =some v:=by
   unfold start at h2
   rw[List.getElem?_append_left (by simpa using hi),List.getElem?_map] at h2
   cases e:vs[i]? with
   | none=>rw[e] at h2;cases h2
   | some a=>rw[e] at h2;cases h2;rfl
  obtain⟨u,hu,rv⟩:=r.get ha
  have hp:ps[i]? =some y:=by
   rw[←S.pre,List.getElem?_take_of_lt (by omega)];exact h1
  have QW:ps.Nodup:=by rw[←S.pre];exact S.nd.sublist (List.take_sublist _ _)
  refine⟨u,rv,?_⟩
  rcases S.par y (List.mem_of_getElem? hp) with k | k
  ·exact .inl ⟨k,wo QW hp hu k⟩
  ·obtain⟨c,e⟩:=yo (n:=s.heap.objs.size+1) k
   refine .inr ⟨.inl k,c,e,?_⟩
   have q:=x.cell y c e
   rw[wq QW hp hu (by show scope.names.lookup y≠_;rw[k];decide)] at q
   exact q
 ·exact e0.hok.fresh (Nat.le_of_lt (x.above y c (PySem.mem_of_lookup h)))
 ·unfold start
  show _=N.length
  rw[List.length_append,List.length_map,List.length_replicate]
  omega
theorem Ja {CX:qA} {P:Program} {w:World} {K:PySem.W.Frag} {mg:Str→Option Value} {base:Heap} {k:Nat} {f:Addr} {name qual:Str} {params:Arguments} {body:List Stmt} {scope:Scope} {dV kV doc pm cdv ct oc:Value} {an od:Option Addr}
  {osl:Array (Option Value)} {N ps:List Str} {sp:Sp} (lk:K.lookup f=some ⟨oc,od,.func (PySem.W.fnOf name qual params body scope dV kV doc pm an cdv ct),osl⟩) (hcd:PySem.W.codeIn K cdv qual=true) (S:bh N ps scope)
  (len:∀vs H Q E,sp vs H Q E→vs.length=ps.length)
  (hbody:∀(A:Around) (outer:List Env) (s:Shared) (H:Hp) (vs:List V) (Q:VK) (E:XK),aU k (A.deeper (envOfC qual scope s.heap.objs.size f cdv))→sp vs H Q E→
   ∃t,mm (iA CX P w K mg base N qual scope f cdv A outer s H E) body t∧t {nx:=fun _ H'=>Q .non H',rt:=Q} (start N vs) H):
  a_ P w K mg base CX (k+1) f (PySem.W.fnOf name qual params body scope dV kV doc pm an cdv ct) ps sp:=by
 refine⟨len,fun A outer s H args us vs Q E hr e0 hb r hsp=>?_⟩
 have hl:=len _ _ _ _ hsp
 have KX:K.In s.heap:=e0.mod.vW.keeps fun b o e=>(e0.bs b o e).1
 have lim:s.heap.NoLimit:=e0.mod.nolimit.keeps fun b o e=>(e0.bs b o e).1
 have hkind:∀y∈ps.zip us,scope.names.lookup y.1=some .local∨(scope.names.lookup y.1=some .cell∧((cellsFrom (s.heap.objs.size+1) scope.names []).lookup y.1).isSome=true):=fun⟨n,v⟩ hy=>by
  rcases S.par n (List.of_mem_zip hy).1 with q | q
  ·exact .inl q
  ·exact .inr ⟨q,PySem.W.cellsFrom_some _ _ _ (.inl q)⟩
 refine codeAny_call_function hr.depth (KX _ _ lk) rfl S.co S.gen rfl (PySem.W.codeRec_of KX hcd) (hb _ _ _ _ ?_)
 refine wpAny_newFunctionEnv_cells S.kind hkind fun env he s1 x=>?_
 subst he
 refine⟨lim.keeps x.toInCall.keep,codeAny_func ?_⟩
 obtain⟨t,ht,hq⟩:=hbody A outer s H vs Q E (hr.deeper _) hsp
 have I:Inv (iA CX P w K mg base N qual scope f cdv A outer s H E) [] (start N vs) H s1:=Er S hr.hd e0 hl r x
 refine wpAny_mono (ht [] s1 (start N vs) H _ I hq) (fun fl s' hs=>?_) fun e s' hs=>hs
 have fin:∀{σ':St} {H':Hp} {v:V} {u:Value},Inv (iA CX P w K mg base N qual scope f cdv A outer s H E) [] σ' H' s'→RelV v u→Q v H'→CE outer P w H s Q u s':=
  fun {σ' H' v u} J rv q=>⟨v,H',J.os,J.bare,J.base,J.hok,rv,q⟩
 cases fl with
 | ret u=>
  obtain⟨v,σ',H',J,rv,q⟩:=hs
  exact fin J rv q
 | next=>
  obtain⟨σ',H',J,q⟩:=hs
  exact fin (v:=V.non) (u:=Value.none) J rfl q
 | brk=>
  obtain⟨_,_,_,q⟩:=hs
  exact False.elim q
 | cont=>
  obtain⟨_,_,_,q⟩:=hs
  exact False.elim q
section
variable {X:Cx} {x:Str} {p pos:Pos} {e:Expr} {es:List Expr} {t:TA} {id T:String} {r:List V→Hp→VK→Prop}
def Lw (r:List V→Hp→VK→Prop) (t:TA):TE:=fun σ H Q=>t σ H fun vs H1=>r vs H1 Q
theorem bq (hc:fO X (.builtin id) r) (hg:Gl X x) (hm:X.mg x=none) (hv:bootBuiltins x=some (.builtin id)) (ha:PA X (e::es) t) (hn:x≠"__name__":=by decide) (hdb:(x == ("__debug__":Str))=false:=by decide)
  (he:starEach (e::es) X.env=(false,eval e X.env)::starEach es X.env:=by rfl) (hpl:(backTo pos (starEach es X.env)).any (·.1)=false:=by rfl):PE X (.Call (.Name x p) (e::es) [] pos) (Lw r t):=by
 intro pins s σ H Q I h
 refine wpAny_Call_Name_kw (km I hg hm hv ?_ hn hdb)
 exact PyProof.Rows.callWith_builtin1 (bf (ha pos pins s σ H _ I h) fun us s1 ⟨vs,H1,I1,r1,q1⟩=>hc pins s1 σ H1 vs us Q I1 r1 q1) he hpl
theorem dU (hc:fO X (.type T) r) (hg:Gl X x) (hm:X.mg x=none) (hv:bootBuiltins x=some (.type T)) (ha:PA X (e::es) t) (hn:x≠"__name__":=by decide) (hdb:(x == ("__debug__":Str))=false:=by decide)
  (he:starEach (e::es) X.env=(false,eval e X.env)::starEach es X.env:=by rfl) (hpl:(backTo pos (starEach es X.env)).any (·.1)=false:=by rfl):PE X (.Call (.Name x p) (e::es) [] pos) (Lw r t):=by
 intro pins s σ H Q I h
 refine wpAny_Call_Name_kw (km I hg hm hv ?_ hn hdb)
 exact PyProof.Rows.callWith_type1 (bf (ha pos pins s σ H _ I h) fun us s1 ⟨vs,H1,I1,r1,q1⟩=>hc pins s1 σ H1 vs us Q I1 r1 q1) he hpl
end
end L2
namespace HT
open PySem PyProof.Rows
section
variable {prog:Program} {w:World} {A:Around} {E:Value→Shared→Prop} {s:Shared}
theorem Kp {t b:Addr} {vs ws:List Value} {Q:Value→Shared→Prop} (ht:IsTup s.heap t vs.toArray) (hb:IsTup s.heap b ws.toArray) (hv:vs≠[])
  (h1:ws=[]→Q (.ref t) s) (h2:ws≠[]→Q (.ref s.heap.objs.size) {s with heap:=s.heap.push {cls:=.type "tuple",data:=.seq (vs++ws).toArray}})
  (hsz:vs.length+ws.length≤sizeLine):wpAny (model prog w) A (binaryOp .Add (.ref t) (.ref b)) Q E s:=by
 obtain⟨⟨cls,dd,data,sl⟩,ho,hc,n,hd⟩:=id ht
 obtain⟨⟨cls2,dd2,data2,sl2⟩,ho2,hc2,n2,hd2⟩:=id hb
 simp only at hc hd hc2 hd2
 subst hc hd hc2 hd2
 have e:vs.toArray++ws.toArray=(vs++ws).toArray:=by simp
 by_cases hw:ws=[]
 ·exact concat_meets ⟨_,ho,rfl⟩ ⟨_,ho2,rfl⟩ noFill_tuple_add seq_tuple_add PySem.F.slot_tuple_add PySem.F.entry_tuple_add (PySem.F.args_tuple_add_2 _ _)
   (tuple_addW1 t b vs.toArray ws.toArray n n2 dd dd2 sl sl2 (by simpa using hv) (by simp[hw])) ⟨ho,ho2,h1 hw⟩
 ·refine concat_meets ⟨_,ho,rfl⟩ ⟨_,ho2,rfl⟩ noFill_tuple_add seq_tuple_add PySem.F.slot_tuple_add PySem.F.entry_tuple_add (PySem.F.args_tuple_add_2 _ _)
   (tuple_addW2 t b vs.toArray ws.toArray n n2 dd dd2 sl sl2 (by simpa using hv) (by simpa using hw) (by rw[List.size_toArray,List.size_toArray];exact hsz)) ⟨ho,ho2,?_⟩
  rw[e]
  exact h2 hw
def cN (n d:Nat):Option Int→Nat
 | none=>d
 | some v=>if v<0 then(v+(n:Int)).toNat else min v.toNat n
theorem pV (n d:Nat):cN n d none=d:=rfl
theorem ia (n d k:Nat):cN n d (some (k:Int))=min k n:=by
 show(if(k:Int)<0 then((k:Int)+(n:Int)).toNat else min (k:Int).toNat n)=min k n
 rw[if_neg (by omega),Int.toNat_natCast]
theorem Et (n d:Nat) (hd:d≤n) (o:Option Int):cN n d o≤n:=by
 cases o with
 | none=>exact hd
 | some v=>
  show(if v<0 then(v+(n:Int)).toNat else min v.toNat n)≤n
  by_cases hv:v<0
  ·rw[if_pos hv];omega
  ·rw[if_neg hv];exact Nat.min_le_right _ _
end
end HT
namespace L2
open PySem PySem.Spec PyProof.Rows
abbrev TO:=St→Hp→(Option Int→Hp→Prop)→Prop
def PO (X:Cx) (e:Option Expr) (t:TO):Prop:=
 ∀(pins:List (Addr×Obj)) (s:Shared) (σ:St) (H:Hp) (Q:Option Int→Hp→Prop),Inv X pins σ H s→t σ H Q→
  wpAny (model X.prog X.w) X.A (evalPart e X.env) (fun u s'=>∃o H',Inv X pins σ H' s'∧IsPart u o∧Q o H') X.xe s
def Kq:TO:=fun _ H Q=>Q none H
def Pc (t:TE):TO:=fun σ H Q=>t σ H fun x H1=>∃i,x=.int i∧Q (some i) H1
section
variable {X:Cx} {e:Expr} {te:TE} {lo hi:Option Expr} {tl th:TO} {pos p2:Pos}
theorem fQ:PO X none Kq:=by
 intro pins s σ H Q I h
 rw[evalPart_none]
 exact wpAny_pure ⟨none,H,I,.none,h⟩
theorem cx (h:PE X e te):PO X (some e) (Pc te):=by
 intro pins s σ H Q I hw
 rw[evalPart_some]
 refine bf (h pins s σ H _ I hw) fun u s1 ⟨x,H1,I1,r1,q1⟩=>?_
 obtain⟨i,rfl,q⟩:=q1
 obtain⟨t,rfl⟩:=r1
 exact⟨some i,H1,I1,.int i t,q⟩
def Jb (X:Cx) (r:V→Option Int→Option Int→Hp→VK→Prop):Prop:=
 ∀(pins:List (Addr×Obj)) (s:Shared) (σ:St) (H:Hp) (x:V) (v vl vu:Value) (lo hi:Option Int) (sl:Addr) (Q:VK),Inv X pins σ H s→RelV x v→s.heap.IsSliceOf sl vl vu .none→IsPart vl lo→IsPart vu hi→r x lo hi H Q→
  ∃T id,typeLookup (.type T) "__getitem__"=pure (some (.builtin id))∧s.TypeIs v T∧wpAny (model X.prog X.w) X.A (getItem v (.ref sl)) (EP X pins σ Q) X.xe s
def ZC (r:V→Option Int→Option Int→Hp→VK→Prop) (te:TE) (tl th:TO):TE:=fun σ H Q=>te σ H fun x H1=>tl σ H1 fun l H2=>th σ H2 fun u H3=>r x l u H3 Q
theorem cT {r:V→Option Int→Option Int→Hp→VK→Prop} (hr:Jb X r) (he:PE X e te) (hl:PO X lo tl) (hu:PO X hi th):PE X (.Subscript e (.Slice lo hi none p2) pos) (ZC r te tl th):=by
 intro pins s σ H Q I h
 refine Subscript_ (bf (he pins s σ H _ I h) fun v s1 ⟨x,H1,I1,r1,q1⟩=>?_)
 refine wpAny_Slice (bf (hl pins s1 σ H1 _ I1 q1) fun vl s2 ⟨l,H2,I2,pl,q2⟩=>bf (hu pins s2 σ H2 _ I2 q2) fun vu s3 ⟨u,H3,I3,pu,q3⟩=>?_)
 rw[evalPart_none]
 refine wpAny_pure ?_
 have I4:Inv X pins σ H3 {s3 with heap:=s3.heap.push {cls:=.type "slice",data:=.fields #[vl,vu,.none]}}:=I3.kept (t':=s3.toks) fun b ob q=>Heap.get?_push_of_some _ q
 obtain⟨T,id,hT,ht,hg⟩:=hr pins {s3 with heap:=s3.heap.push {cls:=.type "slice",data:=.fields #[vl,vu,.none]}} σ H3 x v vl vu l u s3.heap.objs.size Q I4 r1 (Heap.IsSliceOf.new ..) pl pu q3
 show wpAny (model X.prog X.w) X.A (subscriptTail e (.Slice lo hi none p2) v (.ref s3.heap.objs.size)) (EP X pins σ Q) X.xe {s3 with heap:=s3.heap.push {cls:=.type "slice",data:=.fields #[vl,vu,.none]}}
 exact tail_any (ops:=[.ref s3.heap.objs.size,v]) ht hT hg (by with_unfolding_all rfl)
def vn (xs:List V) (lo hi:Option Int):List V:=(xs.drop (HT.cN xs.length 0 lo)).take (HT.cN xs.length xs.length hi-HT.cN xs.length 0 lo)
theorem Ay (xs:List V) (lo hi:Option Int):(vn xs lo hi).length≤xs.length:=by
 unfold vn
 rw[List.length_take,List.length_drop]
 omega
def Pd (K:PySem.W.Frag):R2:=fun x y H Q=>∃a b xs ys,x=.ref a∧y=.ref b∧cp K H a xs∧cp K H b ys∧xs≠[]∧xs.length+ys.length≤sizeLine∧
 (ys=[]→Q (.ref a) H)∧(ys≠[]→∀p,H p=none→Q (.ref p) (upd H p (.tup (xs++ys))))
theorem Vals.vo {xs:List V} {us:List Value} (r:Vals xs us):us=[]↔xs=[]:=by
 cases r with
 | nil=>simp
 | cons _ _=>simp
theorem BK:cW X (binaryOp .Add) (Pd X.K):=by
 intro pins s σ H x y v u Q I rx ry h
 obtain⟨a,b,xs,ys,rfl,rfl,ha,hb,hx,hz,q1,q2⟩:=h
 cases rx
 cases ry
 obtain⟨its,r1,p1,_⟩:=I.tuple ha
 obtain⟨its2,r2,p2,_⟩:=I.tuple hb
 refine HT.Kp p1 p2 (fun z=>hx (r1.vo.mp z)) (fun z=>⟨.ref a,H,I,rfl,q1 (r2.vo.mp z)⟩) (fun z=>?_) (by rw[←r1.length,←r2.length];exact hz)
 refine⟨.ref s.heap.objs.size,_,I.laid (t':=s.toks) (o:=.tup (xs++ys)) (fun b ob q=>Heap.get?_push_of_some _ q) (Nat.le_refl _) ?_,rfl,q2 (fun w=>z (r2.vo.mpr w)) _ (I.hok.fresh (Nat.le_refl _))⟩
 exact⟨⟨by rw[List.length_append];exact hz,_,Heap.get?_push_size _ rfl,rfl⟩,_,r1.append r2,IsTup.new _ _⟩
end
def tE (n:Nat) (i:Int):Option Nat:=if 0≤i then(if i<n then some i.toNat else none) else if-(n:Int)≤i then some (i+n).toNat else none
def ku {α:Type} (xs:List α) (i:Int):Option α:=(tE xs.length i).bind fun j=>xs[j]?
theorem BL {n:Nat} {i:Int} {j:Nat} (h:tE n i=some j):seqIndex? i n=some j∧j<n∧ -(n:Int)≤i∧i<n:=by
 unfold tE at h
 by_cases h0:0≤i
 ·rw[if_pos h0] at h
  by_cases h1:i<n
  ·rw[if_pos h1] at h
   have e:i.toNat=j:=Option.some.inj h
   exact⟨by rw[seqIndex_of h0 h1,e],by omega,by omega,h1⟩
  ·rw[if_neg h1] at h;cases h
 ·rw[if_neg h0] at h
  by_cases h1: -(n:Int)≤i
  ·rw[if_pos h1] at h
   have e:(i+n).toNat=j:=Option.some.inj h
   exact⟨by rw[seqIndex_neg (by omega) h1,e],by omega,h1,by omega⟩
  ·rw[if_neg h1] at h;cases h
theorem vp {α:Type} {xs:List α} {i:Int} {v:α} (h:ku xs i=some v):∃j,seqIndex? i xs.length=some j∧xs[j]? =some v∧j<xs.length∧ -(xs.length:Int)≤i∧i<xs.length:=by
 unfold ku at h
 cases e:tE xs.length i with
 | none=>rw[e] at h;cases h
 | some j=>
  rw[e] at h
  obtain⟨h1,h2,h3,h4⟩:=BL e
  exact⟨j,h1,h,h2,h3,h4⟩
theorem aB {α:Type} {xs:List α} {j:Nat} {v:α} (h:xs[j]? =some v):ku xs (j:Int)=some v:=by
 have hj:j<xs.length:=(List.getElem?_eq_some_iff.mp h).1
 have e:tE xs.length (j:Int)=some j:=by
  unfold tE
  rw[if_pos (by omega),if_pos (by omega)];simp
 unfold ku;rw[e];exact h
theorem GG {α:Type} (xs:List α) (v:α):ku (xs++[v]) (-1)=some v:=by
 have hl:(xs++[v]).length=xs.length+1:=by simp
 have e:tE (xs++[v]).length (-1)=some xs.length:=by
  unfold tE
  rw[hl,if_neg (by decide),if_pos (by omega)]
  congr 1
  omega
 unfold ku
 rw[e]
 show(xs++[v])[xs.length]? =some v
 simp
def Kr (b:Expr):Prop:=∀o i,subscripted b false o i=operate [o,i] (getItem o i)
def BM (X:Cx) (r:R2):Prop:=
 ∀(value slice:Expr) (pins:List (Addr×Obj)) (s:Shared) (σ:St) (H:Hp) (x y:V) (v u:Value) (Q:VK),Inv X pins σ H s→RelV x v→RelV y u→r x y H Q→
  subscripted slice false v u=operate [v,u] (getItem v u)→wpAny (model X.prog X.w) X.A (subscriptTail value slice v u) (EP X pins σ Q) X.xe s
def Lx (X:Cx) (id:String) (r:V→List V→Hp→VK→Prop):Prop:=
 ∀(pins:List (Addr×Obj)) (s:Shared) (σ:St) (H:Hp) (x:V) (xs:List V) (v:Value) (us:List Value) (Q:VK),Inv X pins σ H s→RelV x v→Vals xs us→r x xs H Q→
  wpAny (model X.prog X.w) X.A (call (.builtin id) (v::us)) (EP X pins σ Q) X.xe s
section
variable {X:Cx} {a b:Expr} {ta tb:TE} {pos:Pos}
theorem aO {r:R2} (hr:BM X r) (ha:PE X a ta) (hb:PE X b tb) (hs:Kr b):PE X (.Subscript a b pos) (BG r ta tb):=by
 intro pins s σ H Q I h
 exact Subscript_ (GA ha hb I h fun v u s2 x y H2 I2 rx ry q=>hr a b pins s2 σ H2 x y v u Q I2 rx ry q (hs _ _))
def GH (K:PySem.W.Frag):R2:=fun x y H Q=>∃p xs i v,x=.ref p∧y=.int i∧cf K H p xs∧ku xs i=some v∧Q v H
def Ly (K:PySem.W.Frag):R2:=fun x y H Q=>∃p xs i v,x=.ref p∧y=.int i∧cp K H p xs∧ku xs i=some v∧Q v H
def S7:R2:=fun x y H Q=>∃z i c,x=.str z∧y=.int i∧z.length≤sizeLine∧ku z.cps.toList i=some c∧Q (.str ⟨#[c]⟩) H
theorem Ks:BM X (GH X.K):=by
 intro value slice pins s σ H x y v u Q I rx ry h hs
 obtain⟨p,xs,i,z,rfl,rfl,hq,he,q⟩:=h
 cases rx
 obtain⟨t,rfl⟩:=ry
 obtain⟨its,r,pl,hz⟩:=I.list hq
 obtain⟨j,h1,h2,h3,h4,h5⟩:=vp he
 obtain⟨w,ew,lB⟩:=r.get h2
 have hl:=r.length
 have hn:=o8
 have fin:EP X pins σ Q w s:=⟨z,H,I,lB,q⟩
 by_cases h0:0≤i
 ·have hj:i.toNat=j:=by
   rw[seqIndex_of h0 h5] at h1
   exact Option.some.inj h1
  exact item_listR pl.isList h0 (by omega) (by rw[hj];simpa using ew) fin hs
 ·have hj:(i+(its.toArray.size:Int)).toNat=j:=by
   rw[seqIndex_neg (by omega) h4] at h1
   rw[List.size_toArray,←hl]
   exact Option.some.inj h1
  exact subscriptTail_builtinR (x:=w) pl.isList.typeIs slot_list_getitem.lookup
   (wpAny_getItem_list_neg (Q:=fun r s'=>r=w∧EP X pins σ Q r s') pl.isList (by omega) (by rw[List.size_toArray]<;>omega) (by omega) (by rw[hj];simpa using ew) ⟨rfl,fin⟩) hs
theorem Lz:BM X (Ly X.K):=by
 intro value slice pins s σ H x y v u Q I rx ry h hs
 obtain⟨p,xs,i,z,rfl,rfl,hq,he,q⟩:=h
 cases rx
 obtain⟨t,rfl⟩:=ry
 obtain⟨its,r,pl,hz⟩:=I.tuple hq
 obtain⟨j,h1,h2,h3,h4,h5⟩:=vp he
 obtain⟨w,ew,lB⟩:=r.get h2
 have hl:=r.length
 have hn:=o8
 have fin:EP X pins σ Q w s:=⟨z,H,I,lB,q⟩
 exact subscriptTail_builtinR (x:=w) pl.typeIs slot_tuple_getitem.lookup
  (getItem_tuple (j:=j) (Q:=fun r s'=>r=w∧EP X pins σ Q r s') pl (by omega) (by omega) (by rw[List.size_toArray,←hl];exact h1) (by simpa using ew) ⟨rfl,fin⟩) hs
theorem mr:BM X S7:=by
 intro value slice pins s σ H x y v u Q I rx ry h hs
 obtain⟨z,i,c,rfl,rfl,hz,he,q⟩:=h
 obtain⟨t,rfl⟩:=rx
 obtain⟨t',rfl⟩:=ry
 obtain⟨j,h1,h2,h3,h4,h5⟩:=vp he
 have hl:z.cps.toList.length=z.length:=by simp[Str.length]
 rw[hl] at h1 h4 h5
 have hn:=o8
 exact tail_any (typeIs_str s z t) slot_str_getitem.lookup (getItem_str (c:=c) (by
  have e1:decide (i< -(2 ^ 63:Int))=false:=decide_eq_false (by omega)
  have e2:decide (i ≥ 2 ^ 63)=false:=decide_eq_false (by omega)
  rw[e1,e2,Bool.or_false]) (by rw[h1];simpa using h2) ⟨.str ⟨#[c]⟩,H,I.tok _,⟨_,rfl⟩,q⟩) hs
theorem CP (its:List Value) (n j:Nat) (u:Value):Obj.mapSeq (·.setIfInBounds j u) {cls:=.type "list",data:=.seq its.toArray n}={cls:=.type "list",data:=.seq (its.set j u).toArray n}:=by
 simp[Obj.mapSeq]
theorem Inv.lst {pins:List (Addr×Obj)} {σ:St} {H:Hp} {s:Shared} {p:Addr} {xs:List V} (I:Inv X pins σ H s) (h:H p=some (.lst xs)):
  ∃(its:List Value) (n:Nat),Vals xs its∧s.heap.get? p=some {cls:=.type "list",data:=.seq its.toArray n}∧xs.length≤sizeLine:=by
 obtain⟨z,its,n,r,e⟩:=I.hok p _ h
 exact⟨its,n,r,e,z⟩
theorem Inv.LA {pins:List (Addr×Obj)} {σ:St} {H:Hp} {s:Shared} {p:Addr} {xs ys:List V} {its its':List Value} {n n':Nat} {f:Obj→Obj} (I:Inv X pins σ H s) (h:H p=some (.lst xs))
  (ho:s.heap.get? p=some {cls:=.type "list",data:=.seq its.toArray n}) (hf:f {cls:=.type "list",data:=.seq its.toArray n}={cls:=.type "list",data:=.seq its'.toArray n'}) (r:Vals ys its') (hz:ys.length≤sizeLine) (t:Nat):
  Inv X pins σ (upd H p (.lst ys)) {s with heap:=s.heap.update p f,toks:=t}:=by
 have e:(s.heap.update p f).get? p=some {cls:=.type "list",data:=.seq its'.toArray n'}:=by
  rw[Heap.get?_update_self f ho (by rw[hf]<;>rfl),hf]
 refine I.write (x:=p) (e:=p) (by rw[h];trivial) (.inl rfl) (fun b u hb q=>(Heap.get?_update_other _ _ (Ne.symm hb)).trans q) ⟨_,e⟩ ?_
 exact⟨hz,its',n',r,e⟩
def Pe:V→V→V→Hp→(Hp→Prop)→Prop:=fun o i v H Q=>∃p xs k j,o=.ref p∧i=.int k∧H p=some (.lst xs)∧tE xs.length k=some j∧Q (upd H p (.lst (xs.set j v)))
theorem set_list:Lg X Pe:=by
 intro pins s σ H o i v ov iv u Q I ro ri rv h
 obtain⟨p,xs,k,j,rfl,rfl,hp,hj,q⟩:=h
 cases ro
 obtain⟨t,rfl⟩:=ri
 obtain⟨its,n,r,ho,hz⟩:=I.lst hp
 obtain⟨h1,h2,h3,h4⟩:=BL hj
 have hl:=r.length
 have hn:=o8
 have I':Inv X pins σ (upd H p (.lst (xs.set j v))) {s with heap:=s.heap.update p (Obj.mapSeq (·.setIfInBounds j u))}:=
  I.LA hp ho (CP its n j u) (r.set rv j) (by rw[List.length_set];exact hz) s.toks
 by_cases h0:0≤k
 ·have hk:k.toNat=j:=by
   rw[seqIndex_of h0 h4] at h1
   exact Option.some.inj h1
  exact PySem.W.ki_setAt ho h0 (by omega) (by rw[List.size_toArray,←hl];exact h4) (by rw[hk];exact⟨_,I',q⟩)
 ·have hk:(k+(its.toArray.size:Int)).toNat=j:=by
   rw[seqIndex_neg (by omega) h3] at h1
   rw[List.size_toArray,←hl]
   exact Option.some.inj h1
  exact PySem.W.ki_setBack ho (by omega) (by rw[List.size_toArray,←hl];exact h3) (by omega) (by rw[hk];exact⟨_,I',q⟩)
theorem yp (lo hi:Option Int) (n:Nat):(sliceBounds lo hi none n).1=((HT.cN n 0 lo:Nat):Int)∧(sliceBounds lo hi none n).2.1=((HT.cN n n hi:Nat):Int)∧(sliceBounds lo hi none n).2.2=1:=by
 refine⟨?_,?_,rfl⟩
 ·cases lo with
  | none=>simp[sliceBounds,HT.cN]
  | some i=>
   simp only[sliceBounds,HT.cN,Option.getD_none,show(1:Int)>0 by decide,if_true]
   by_cases h:i<0
   ·simp only[h,if_true]<;>omega
   ·simp only[h,if_false]<;>omega
 ·cases hi with
  | none=>simp[sliceBounds,HT.cN]
  | some i=>
   simp only[sliceBounds,HT.cN,Option.getD_none,show(1:Int)>0 by decide,if_true]
   by_cases h:i<0
   ·simp only[h,if_true]<;>omega
   ·simp only[h,if_false]<;>omega
theorem xy (its:List Value) (lo hi:Option Int):slicePick its.toArray lo hi none=((its.drop (HT.cN its.length 0 lo)).take (HT.cN its.length its.length hi-HT.cN its.length 0 lo)).toArray:=by
 obtain⟨h1,h2,h3⟩:=yp lo hi its.toArray.size
 unfold slicePick
 rw[h1,h2,h3]
 simp only[sliceRange_one,pick_run,List.size_toArray]<;>rfl
def LB (K:PySem.W.Frag):V→Option Int→Option Int→Hp→VK→Prop:=fun x lo hi H Q=>∃a xs,x=.ref a∧cf K H a xs∧∀p,H p=none→Q (.ref p) (upd H p (.lst (vn xs lo hi)))
theorem Kt:Jb X (LB X.K):=by
 intro pins s σ H x v vl vu lo hi sl Q I rx hs pl pu h
 obtain⟨a,xs,rfl,hx,q⟩:=h
 cases rx
 obtain⟨its,r,ht,hz⟩:=I.list hx
 have hlen:=r.length
 refine⟨"list",_,slot_list_getitem.lookup,ht.isList.typeIs,?_⟩
 refine wpAny_getItem_list_slice ht.isList hs pl pu .none (by simp) ?_ (by rw[List.size_toArray]<;>omega)
 rw[xy,←hlen]
 refine⟨.ref s.heap.objs.size,_,I.laid (t':=s.toks) (o:=.lst (vn xs lo hi)) (fun b ob q=>Heap.get?_push_of_some _ q) (Nat.le_refl _) ?_,rfl,q _ (I.hok.fresh (Nat.le_refl _))⟩
 exact⟨Nat.le_trans (Ay xs lo hi) hz,_,0,(r.drop (HT.cN xs.length 0 lo)).take (HT.cN xs.length xs.length hi-HT.cN xs.length 0 lo),Heap.get?_push_size _ rfl⟩
def jZ:V→Bool
 | .non=>true
 | .bl _=>true
 | .int _=>true
 | .str _=>true
 | _=>false
def o9:V→V→Bool
 | .non,.non=>true
 | .bl a,.bl b=>a == b
 | .bl a,.int b=>(if a then 1 else 0) == b
 | .int a,.bl b=>a == (if b then 1 else 0)
 | .int a,.int b=>a == b
 | .str a,.str b=>a == b
 | _,_=>false
theorem Eu {A:Around} {s:Shared} {y x:V} {u v:Value} (ry:RelV y u) (rx:RelV x v) (fy:jZ y=true) (fx:jZ x=true):SeqAt.EqAt A s u v (o9 y x):=by
 cases y with
 | non=>
  cases ry
  cases x with
  | non=>cases rx;exact SeqAt.EqAt.same _
  | bl b=>cases rx;exact SeqAt.EqAt.none_bool b
  | int b=>obtain⟨t,rfl⟩:=rx;exact SeqAt.EqAt.none_int b t
  | str b=>obtain⟨t,rfl⟩:=rx;exact SeqAt.EqAt.none_str b t
  | _=>exact absurd (show false=true from fx) Bool.false_ne_true
 | bl a=>
  cases ry
  cases x with
  | non=>cases rx;exact SeqAt.EqAt.bool_none a
  | bl b=>cases rx;exact SeqAt.EqAt.bool_bool a b
  | int b=>obtain⟨t,rfl⟩:=rx;exact SeqAt.EqAt.bool_int a b t
  | str b=>obtain⟨t,rfl⟩:=rx;exact SeqAt.EqAt.bool_str a b t
  | _=>exact absurd (show false=true from fx) Bool.false_ne_true
 | int a=>
  obtain⟨t',rfl⟩:=ry
  cases x with
  | non=>cases rx;exact SeqAt.EqAt.int_none a t'
  | bl b=>cases rx;exact SeqAt.EqAt.int_bool a t' b
  | int b=>obtain⟨t,rfl⟩:=rx;exact SeqAt.EqAt.int_int a t' b t
  | str b=>obtain⟨t,rfl⟩:=rx;exact SeqAt.EqAt.int_str a t' b t
  | _=>exact absurd (show false=true from fx) Bool.false_ne_true
 | str a=>
  obtain⟨t',rfl⟩:=ry
  cases x with
  | non=>cases rx;exact SeqAt.EqAt.str_none a t'
  | bl b=>cases rx;exact SeqAt.EqAt.str_bool a t' b
  | int b=>obtain⟨t,rfl⟩:=rx;exact SeqAt.EqAt.str_int a t' b t
  | str b=>obtain⟨t,rfl⟩:=rx;exact SeqAt.EqAt.str_str a t' b t
  | _=>exact absurd (show false=true from fx) Bool.false_ne_true
 | _=>exact absurd (show false=true from fy) Bool.false_ne_true
def mw (x:V) (u:Value):Bool:=match u with
 | .none=>o9 .non x
 | .bool b=>o9 (.bl b) x
 | .int i _=>o9 (.int i) x
 | .str z _=>o9 (.str z) x
 | _=>false
theorem Ew {x y:V} {u:Value} (r:RelV y u) (f:jZ y=true):mw x u=o9 y x:=by
 cases y with
 | non=>cases r;rfl
 | bl b=>cases r;rfl
 | int i=>obtain⟨t,rfl⟩:=r;rfl
 | str z=>obtain⟨t,rfl⟩:=r;rfl
 | _=>exact absurd (show false=true from f) Bool.false_ne_true
theorem pb {x:V}:∀{xs:List V} {us:List Value},Vals xs us→xs.all jZ=true→us.any (mw x)=xs.any fun y=>o9 y x
 | _,_,.nil,_=>rfl
 | y::xs,u::us,.cons r t,f=>by
  rw[List.all_cons,Bool.and_eq_true] at f
  rw[List.any_cons,List.any_cons,Ew r f.1,pb t f.2]
theorem mx {A:Around} {s:Shared} {x:V} {v:Value} (rx:RelV x v) (fx:jZ x=true):∀{xs:List V} {us:List Value},Vals xs us→xs.all jZ=true→∀u∈us,SeqAt.EqAt A s u v (mw x u)
 | _,_,.nil,_=>fun u hu=>by cases hu
 | y::xs,u::us,.cons r t,f=>fun u' hu=>by
  rw[List.all_cons,Bool.and_eq_true] at f
  rcases List.mem_cons.mp hu with rfl | hu
  ·rw[Ew r f.1];exact Eu r rx f.1 fx
  ·exact mx rx fx t f.2 u' hu
def inV (x:V) (xs:List V):Bool:=xs.any fun y=>o9 y x
def Jc (K:PySem.W.Frag) (neg:Bool):R2:=fun x y H Q=>∃p xs,y=.ref p∧(cf K H p xs∨cp K H p xs)∧jZ x=true∧xs.all jZ=true∧Q (.bl (if neg then !inV x xs else inV x xs)) H
theorem Ey:cW X (compareOp .In) (Jc X.K false):=by
 intro pins s σ H x y v u Q I rx ry h
 obtain⟨p,xs,rfl,hq,fx,fs,q⟩:=h
 cases ry
 rcases hq with hq | hq
 ·obtain⟨its,r,pl,hz⟩:=I.list hq
  refine SeqAt.in_listAt (mw x) pl.isList (fun w hw=>mx rx fx r fs w (by simpa using hw)) ⟨.bl _,H,I,rfl,?_⟩
  rw[show its.toArray.any (mw x)=its.any (mw x) by simp,pb r fs]
  exact q
 ·obtain⟨its,r,pl,hz⟩:=I.tuple hq
  refine SeqAt.in_tupleAt (mw x) pl (fun w hw=>mx rx fx r fs w (by simpa using hw)) ⟨.bl _,H,I,rfl,?_⟩
  rw[show its.toArray.any (mw x)=its.any (mw x) by simp,pb r fs]
  exact q
theorem yq:cW X (compareOp .NotIn) (Jc X.K true):=by
 intro pins s σ H x y v u Q I rx ry h
 obtain⟨p,xs,rfl,hq,fx,fs,q⟩:=h
 cases ry
 rcases hq with hq | hq
 ·obtain⟨its,r,pl,hz⟩:=I.list hq
  refine SeqAt.notIn_listAt (mw x) pl.isList (fun w hw=>mx rx fx r fs w (by simpa using hw)) ⟨.bl _,H,I,rfl,?_⟩
  rw[show its.toArray.any (mw x)=its.any (mw x) by simp,pb r fs]
  exact q
 ·obtain⟨its,r,pl,hz⟩:=I.tuple hq
  refine SeqAt.notIn_tupleAt (mw x) pl (fun w hw=>mx rx fx r fs w (by simpa using hw)) ⟨.bl _,H,I,rfl,?_⟩
  rw[show its.toArray.any (mw x)=its.any (mw x) by simp,pb r fs]
  exact q
theorem xA:fO X (.type "tuple") (fun xs H Q=>∃p ys,xs=[.ref p]∧((cf X.K H p ys∧∀l,H l=none→Q (.ref l) (upd H l (.tup ys)))∨(cp X.K H p ys∧Q (.ref p) H))):=by
 intro pins s σ H xs us Q I r h
 obtain⟨p,ys,rfl,h⟩:=h
 obtain⟨u,rfl,rx⟩:=vals1 r
 cases rx
 rcases h with⟨hq,q⟩ | ⟨hq,q⟩
 ·obtain⟨its,r',pl,hz⟩:=I.list hq
  have hlen:=r'.length
  refine call_tuple_list pl.isList (fun h' kp=>?_) (by simp only[List.size_toArray]<;>omega)
  have I1:Inv X pins σ H {s with heap:=h'}:=I.kept (t':=s.toks) kp
  have I2:Inv X pins σ (upd H h'.objs.size (.tup ys)) {s with heap:=h'.push {cls:=.type "tuple",data:=.seq its.toArray}}:=
   I1.laid (t':=s.toks) (fun b o e=>Heap.get?_push_of_some _ e) (Nat.le_refl _) (show cZ X.prog X.w _ _ _ (.tup ys) from⟨⟨hz,_,Heap.get?_push_size _ rfl,rfl⟩,its,r',IsTup.new _ _⟩)
  exact⟨.ref h'.objs.size,_,I2,rfl,q _ (I1.hok.fresh (Nat.le_refl _))⟩
 ·obtain⟨its,r',pl,hz⟩:=I.tuple hq
  exact call_tuple_same pl ⟨.ref p,H,I,rfl,q⟩
def LC (K:PySem.W.Frag) (T:String) (x:V) (H:Hp):Prop:=match x with
 | .str _=>T="str"
 | .int _=>T="int"
 | .ref p=>(T="list"∧∃xs,cf K H p xs)∨(T="tuple"∧∃o,K.lookup p=some o∧o.cls=.type "tuple"∧o.dict=none)∨
   (T="dict"∧((∃kvs,H p=some (.dK kvs))∨∃kvs,H p=some (.dT kvs)))∨(T="set"∧∃S n,H p=some (.set S n))
 | _=>False
theorem Ez {pins:List (Addr×Obj)} {σ:St} {H:Hp} {s:Shared} {T:String} {x:V} {v:Value} (I:Inv X pins σ H s) (r:RelV x v) (ty:LC X.K T x H):
  s.TypeIs v T∧∀a,v=.ref a→∃ob,s.heap.get? a=some ob∧ob.dict=none:=by
 cases x with
 | str z=>
  obtain⟨t,rfl⟩:=r
  cases(show T="str" from ty)
  exact⟨typeIs_str s z t,fun _ e=>nomatch e⟩
 | int i=>
  obtain⟨t,rfl⟩:=r
  cases(show T="int" from ty)
  exact⟨typeIs_int s i t,fun _ e=>nomatch e⟩
 | ref p=>
  cases r
  rcases ty with⟨rfl,xs,hq⟩ | ⟨rfl,o,hk,hc,hd⟩ | ⟨rfl,hk⟩ | ⟨rfl,S,n,hk⟩
  ·obtain⟨its,_,pl,_⟩:=I.list hq
   refine⟨pl.isList.typeIs,fun a e=>?_⟩
   cases e
   obtain⟨o,n,e,c,hd,_⟩:=pl
   exact⟨o,e,hd⟩
  ·refine⟨⟨o,I.ja p o hk,hc⟩,fun a e=>?_⟩
   cases e
   exact⟨o,I.ja _ o hk,hd⟩
  ·have z:∃o,s.heap.get? p=some o∧o.ExactDict:=by
    rcases hk with⟨kvs,hk⟩ | ⟨kvs,hk⟩
    ·obtain⟨_,_,_,_,o,_,_,e,ex,_⟩:=I.hok p _ hk
     exact⟨o,e,ex⟩
    ·obtain⟨_,_,_,_,o,_,_,e,ex,_⟩:=I.hok p _ hk
     exact⟨o,e,ex⟩
   obtain⟨o,e,ex⟩:=z
   refine⟨⟨o,e,ex.1⟩,fun a e2=>?_⟩
   cases e2
   exact⟨o,e,ex.2.1⟩
  ·obtain⟨o,_,_,_,e,ex,_⟩:=I.hok p _ hk
   refine⟨⟨o,e,ex.1⟩,fun a e2=>?_⟩
   cases e2
   exact⟨o,e,ex.2.1⟩
 | _=>exact False.elim ty
def LD (K:PySem.W.Frag) (T:String) (r:V→List V→Hp→VK→Prop) (to:TE):TE:=fun σ H Q=>to σ H fun x H1=>LC K T x H1∧r x [] H1 Q
def QX (K:PySem.W.Frag) (T:String) (r:V→List V→Hp→VK→Prop) (to:TE) (t:TA):TE:=fun σ H Q=>to σ H fun x H1=>LC K T x H1∧t σ H1 fun xs H2=>r x xs H2 Q
variable {o e:Expr} {es:List Expr} {to:TE} {t:TA} {name:Str} {apos cpos:Pos} {T id:String} {r:V→List V→Hp→VK→Prop}
theorem qT (pa:PlainAttrs T) (slot:Slot T name id) (hty:typeOf (.builtin id)=pure (.type "method_descriptor")) (hm:Lx X id r) (ho:PE X o to)
  (hbase:attributeBase o name X.env (eval o X.env)=eval o X.env:=by rfl) (hline:(apos.endLine == cpos.line)=true:=by rfl):PE X (.Call (.Attribute o name apos) [] [] cpos) (LD X.K T r to):=by
 intro pins s σ H Q I h
 refine wpAny_Call_method0_late hbase hline (bf (ho pins s σ H _ I h) fun v s1 ⟨x,H1,I1,r1,ty,q1⟩=>?_)
 obtain⟨h1,h2⟩:=Ez I1 r1 ty
 exact⟨T,id,pa,slot,hty,h1,h2,Calls.callWith_builtin rfl (PySem.evalArgs_none (hm pins s1 σ H1 x [] v [] Q I1 r1 .nil q1))⟩
theorem dm (pa:PlainAttrs T) (slot:Slot T name id) (hty:typeOf (.builtin id)=pure (.type "method_descriptor")) (hm:Lx X id r) (ho:PE X o to) (ha:PA X (e::es) t)
  (hbase:attributeBase o name X.env (eval o X.env)=eval o X.env:=by rfl)
  (hfew:((backTo cpos (starEach (e::es) X.env)).all (fun x=> !x.1)&&(backToKw cpos (keywordEach [] X.env)).all (fun x=>x.1.isSome)
   &&decide ((e::es).length+([]:List Keyword).length+(if([]:List Keyword).isEmpty then 0 else 1)<30))=true:=by rfl)
  (hline:(apos.endLine == cpos.line)=true:=by rfl) (hs:starEach (e::es) X.env=(false,eval e X.env)::starEach es X.env:=by rfl) (hplain:(backTo cpos (starEach es X.env)).any (·.1)=false:=by rfl):
  PE X (.Call (.Attribute o name apos) (e::es) [] cpos) (QX X.K T r to t):=by
 intro pins s σ H Q I h
 refine wpAny_Call_method_late hbase hfew hline rfl (bf (ho pins s σ H _ I h) fun v s1 ⟨x,H1,I1,r1,ty,q1⟩=>?_)
 obtain⟨h1,h2⟩:=Ez I1 r1 ty
 refine⟨T,id,pa,slot,hty,h1,h2,?_⟩
 have hA:=ha cpos pins s1 σ H1 _ I1 q1
 rw[hs] at hA ⊢
 refine Calls.callWith_builtin (by show(false||(backTo cpos (starEach es X.env)).any (·.1))=false;rw[hplain]<;>rfl) (Calls.evalArgs_plain ?_)
 exact bf hA fun us s2 ⟨vs,H2,I2,r2,q2⟩=>hm pins s2 σ H2 x vs v us Q I2 r1 r2 q2
end
def yr (X:Cx) (id:String) (r:V→List V→Hp→VK→Prop):Prop:=
 ∀(pins:List (Addr×Obj)) (s:Shared) (σ:St) (H:Hp) (x:V) (xs:List V) (v:Value) (us:List Value) (Q:VK),Inv X pins σ H s→RelV x v→Vals xs us→r x xs H Q→
  wpAny (model X.prog X.w) X.A (call (.builtin id) (v::us)) (EP X pins σ Q) X.xe s
theorem Vals.one:∀{x:V} {us:List Value},Vals [x] us→∃u,us=[u]∧RelV x u
 | _,_,.cons r .nil=>⟨_,rfl,r⟩
theorem Vals.two:∀{x y:V} {us:List Value},Vals [x,y] us→∃u v,us=[u,v]∧RelV x u∧RelV y v
 | _,_,_,.cons r (.cons q .nil)=>⟨_,_,rfl,r,q⟩
theorem Vals.zero:∀{us:List Value},Vals [] us→us=[]
 | _,.nil=>rfl
theorem Vals.dropLast {xs:List V} {us:List Value} (h:Vals xs us):Vals xs.dropLast us.dropLast:=by
 induction h with
 | nil=>exact .nil
 | cons r t ih=>
  cases t with
  | nil=>exact .nil
  | cons q t'=>exact .cons r ih
theorem Vals.reverse {xs:List V} {us:List Value} (h:Vals xs us):Vals xs.reverse us.reverse:=by
 induction h with
 | nil=>exact .nil
 | cons r t ih=>rw[List.reverse_cons,List.reverse_cons];exact Vals.append ih (.cons r .nil)
theorem CQ {α:Type} (l:List α):l.eraseIdx (l.length-1)=l.dropLast:=by
 induction l with
 | nil=>rfl
 | cons a r ih=>
  cases r with
  | nil=>rfl
  | cons b r=>
   have e:(a::b::r).length-1=((b::r).length-1)+1:=by
    have h1:(a::b::r).length=r.length+2:=rfl
    have h2:(b::r).length=r.length+1:=rfl
    omega
   rw[e,List.eraseIdx_cons_succ,ih]
   all_goals rfl
section
variable {X:Cx} {pins:List (Addr×Obj)} {σ:St} {H:Hp} {s:Shared} {l b:Addr} {xs ys zs:List V}
theorem Inv.CS {its its':List Value} {n:Nat} {f:Array Value→Array Value} {t':Nat} (I:Inv X pins σ H s) (hH:H l=some (.lst xs))
  (e:s.heap.get? l=some {cls:=.type "list",data:=.seq its.toArray n}) (hf:f its.toArray=its'.toArray) (hv:Vals ys its') (hz:ys.length≤sizeLine):
  Inv X pins σ (upd H l (.lst ys)) {s with heap:=s.heap.update l (Obj.mapSeq f),toks:=t'}:=by
 have q:=PySem.IsL.update e f
 rw[hf] at q
 refine I.write (x:=l) (e:=l) (by rw[hH];exact trivial) (.inl rfl) (fun b' u hb hu=>(Heap.get?_update_other s.heap (Obj.mapSeq f) (Ne.symm hb)).trans hu) ⟨_,q⟩ ?_
 exact⟨hz,its',_,hv,q⟩
theorem Inv.CT {its:List Value} {t':Nat} (I:Inv X pins σ H s) (hv:Vals ys its) (hz:ys.length≤sizeLine):
  Inv X pins σ (upd H s.heap.objs.size (.lst ys)) {s with heap:=s.heap.push {cls:=.type "list",data:=.seq its.toArray},toks:=t'}:=
 I.laid (fun _ _ q=>Heap.get?_push_of_some _ q) (Nat.le_refl _) ⟨hz,its,0,hv,Heap.get?_push_size _ rfl⟩
theorem Inv.fresh (I:Inv X pins σ H s):H s.heap.objs.size=none:=I.hok.fresh (Nat.le_refl _)
theorem Inv.tX (I:Inv X pins σ H s) (hH:H l=some (.lst xs)):xs.length≤sizeLine∧∃(its:List Value) (n:Nat),Vals xs its∧xs.length=its.length∧s.heap.get? l=some {cls:=.type "list",data:=.seq its.toArray n}:=by
 obtain⟨z,its,n,r,e⟩:=I.hok l _ hH
 exact⟨z,its,n,r,r.length,e⟩
theorem GI {n:Nat} (h:n≤sizeLine):Builtin.List.listTooLong n=false:=by
 unfold Builtin.List.listTooLong
 exact decide_eq_false (by omega)
end
section
variable {X:Cx}
def Ku:V→List V→Hp→VK→Prop:=fun x vs H Q=>∃l xs y,x=.ref l∧vs=[y]∧H l=some (.lst xs)∧xs.length<sizeLine∧Q .non (upd H l (.lst (xs++[y])))
theorem dg:yr X "list.append" Ku:=by
 intro pins s σ H x vs v us Q I rx rv h
 obtain⟨l,xs,y,rfl,rfl,hH,hz,q⟩:=h
 cases rx
 obtain⟨u,rfl,ru⟩:=rv.one
 obtain⟨z,its,n,r,hl,e⟩:=I.tX hH
 refine call_meets F.slot_list_append ⟨_,e,rfl⟩ F.entry_list_append (F.args_list_append_2 _ _) (PySem.list_append l its.toArray n u (by rw[List.size_toArray];omega)) ⟨e,?_⟩
 refine⟨.non,_,I.CS (its':=its++[u]) hH e (by simp) (r.append (.cons ru .nil)) ?_,rfl,q⟩
 rw[List.length_append,List.length_singleton]
 omega
def Kv:V→List V→Hp→VK→Prop:=fun x vs H Q=>∃l b xs zs,x=.ref l∧vs=[.ref b]∧H l=some (.lst xs)∧H b=some (.lst zs)∧xs.length+zs.length≤sizeLine∧Q .non (upd H l (.lst (xs++zs)))
theorem EA:yr X "list.extend" Kv:=by
 intro pins s σ H x vs v us Q I rx rv h
 obtain⟨l,b,xs,zs,rfl,rfl,hH,hB,hz,q⟩:=h
 cases rx
 obtain⟨u,rfl,ru⟩:=rv.one
 cases ru
 obtain⟨z,its,n,r,hl,e⟩:=I.tX hH
 obtain⟨z2,its2,n2,r2,hl2,e2⟩:=I.tX hB
 have hsz:its.toArray.size+its2.toArray.size≤sizeLine:=by rw[List.size_toArray,List.size_toArray];omega
 have Pg:¬(!its.toArray.isEmpty&&Builtin.List.listTooLong (its.toArray.size+its2.toArray.size))=true:=by
  rw[GI hsz,Bool.and_false]
  exact Bool.false_ne_true
 refine call_meets F.slot_list_extend ⟨_,e,rfl⟩ F.entry_list_extend (F.args_list_extend_2 _ _)
  (AutoSeq1.list_extend_list_list_0 l its.toArray n b its2.toArray n2 Pg (by rw[List.size_toArray];omega) (by omega)) ⟨e,e2,?_⟩
 refine⟨.non,_,I.CS (its':=its++its2) hH e (by simp) (r.append r2) ?_,rfl,q⟩
 rw[List.length_append]
 omega
def LF:V→List V→Hp→VK→Prop:=fun x vs H Q=>∃l xs y,x=.ref l∧vs=[]∧H l=some (.lst xs)∧xs[xs.length-1]? =some y∧Q y (upd H l (.lst xs.dropLast))
theorem uA:yr X "list.pop" LF:=by
 intro pins s σ H x vs v us Q I rx rv h
 obtain⟨l,xs,y,rfl,rfl,hH,hy,q⟩:=h
 cases rx
 have hus:=rv.zero
 subst hus
 obtain⟨z,its,n,r,hl,e⟩:=I.tX hH
 obtain⟨u,hu,ru⟩:=r.get hy
 have hy':its.toArray[its.toArray.size-1]? =some u:=by
  show its.toArray[its.length-1]? =some u
  rw[←Array.getElem?_toList,←hl]
  exact hu
 refine call_meets F.slot_list_pop ⟨_,e,rfl⟩ F.entry_list_pop (F.args_list_pop_1 _) (MeetsSeq.list_pop_last l its.toArray n u hy' (by rw[List.size_toArray];omega)) ⟨e,?_⟩
 refine⟨y,_,I.CS (its':=its.dropLast) hH e ?_ r.dropLast ?_,ru,q⟩
 ·show its.toArray.eraseIdxIfInBounds (its.toArray.size-1)=its.dropLast.toArray
  rw[List.size_toArray,List.eraseIdxIfInBounds_toArray,CQ]
 ·rw[List.length_dropLast]
  omega
def GJ:V→List V→Hp→VK→Prop:=fun x vs H Q=>∃l xs,x=.ref l∧vs=[]∧H l=some (.lst xs)∧Q .non (upd H l (.lst xs.reverse))
theorem CU:yr X "list.reverse" GJ:=by
 intro pins s σ H x vs v us Q I rx rv h
 obtain⟨l,xs,rfl,rfl,hH,q⟩:=h
 cases rx
 have hus:=rv.zero
 subst hus
 obtain⟨z,its,n,r,hl,e⟩:=I.tX hH
 refine call_meets F.slot_list_reverse ⟨_,e,rfl⟩ F.entry_list_reverse (F.args_list_reverse_1 _) (AutoSeq1.list_reverse_list_0 l its.toArray n (by rw[List.size_toArray];omega)) ⟨e,?_⟩
 refine⟨.non,_,I.CS (its':=its.reverse) hH e (by simp) r.reverse ?_,rfl,q⟩
 rw[List.length_reverse]
 omega
def S8:R2:=fun x y H Q=>∃l b xs zs,x=.ref l∧y=.ref b∧H l=some (.lst xs)∧H b=some (.lst zs)∧xs.length+zs.length≤sizeLine∧∀p,H p=none→Q (.ref p) (upd H p (.lst (xs++zs)))
theorem gu:cW X (binaryOp .Add) S8:=by
 intro pins s σ H x y v u Q I rx ry h
 obtain⟨l,b,xs,zs,rfl,rfl,hH,hB,hz,q⟩:=h
 cases rx
 cases ry
 obtain⟨z,its,n,r,hl,e⟩:=I.tX hH
 obtain⟨z2,its2,n2,r2,hl2,e2⟩:=I.tX hB
 refine PySem.P.add_list e e2 ?_ (by rw[List.size_toArray,List.size_toArray];omega)
 have ea:its.toArray++its2.toArray=(its++its2).toArray:=by simp
 rw[ea]
 exact⟨.ref _,_,I.CT (t':=s.toks) (r.append r2) (by rw[List.length_append];omega),rfl,q _ I.fresh⟩
end
end L2
namespace QY
open PySem PySem.W PySem.Calls PyProof.Rows
theorem uB {P:Params} {h:Heap}:∀(ns:List Int) (vs:List Value),WellAll P h vs (ns.map WData.int)→IntsAre vs ns:=by
 intro ns
 induction ns with
 | nil=>
  intro vs w
  rw[List.map_nil] at w
  cases w
  exact .nil
 | cons n ns ih=>
  intro vs w
  rw[List.map_cons] at w
  cases w with
  | cons a b=>
   cases a
   exact .cons _ _ (ih _ b)
theorem EB {l:OpenLaw} {n:Nat} (hn:l.most=some n) {P:Params} {h:Heap} {args:List WData} {vals:List Value}
  (hpre:l.row.toRowW.claim.pre args=true) (hwl:WellAll P h vals args):
  ∃a vs ns,vals=[Value.ref a]∧args=[WData.list (ns.map WData.int)]∧h.get? a=some {cls:=.type "list",data:=.seq vs.toArray}∧IntsAre vs ns∧ns.length≤n:=by
 have hsh:WShape.hasAll [] args [.list .int]=true:=(pre_splitW hpre).1
 have hc:l.pre.holds [] {args:=args}=true:=(pre_splitW hpre).2
 obtain⟨d,r,rfl,h1,h2⟩:=hasAllW_cons hsh
 obtain rfl:=hasAllW_nil h2
 obtain⟨xs,rfl,h3⟩:=hasW_list h1
 obtain⟨ns,rfl⟩:=items_int h3
 have hlen:ns.length≤n:=by
  unfold OpenLaw.pre at hc
  have h4:(WTm.not (.lt (.lit (.int (n:Int))) (.len (.arg 0)))).holds [] {args:=[.list (ns.map .int)]}=true:=by
   have h4:=(holds_andW hc).1
   rw[hn] at h4
   exact h4
  have h5:=condW_of h4 (w_not (w_lt w_lit (w_len_list (w_arg rfl))))
  rw[List.length_map] at h5
  refine Nat.le_of_not_lt fun q=>?_
  have q':(n:Int)<((ns.length:Nat):Int):=by omega
  first
   | (rw[decide_eq_true q'] at h5;exact absurd h5 (by decide))
   | (simp at h5;omega)
 cases hwl with
 | cons w1 w2=>
  cases w2
  cases w1 with
  | list ho hall=>exact⟨_,_,ns,rfl,rfl,ho,uB ns _ hall,hlen⟩
theorem EC (l:OpenLaw) (args:List WData):l.row.toRowW.claim.post args (.bool true) args=true:=
 postW_of (r:=l.row.toRowW) (X:=(true == true))
  (show WShape.has [] (.bool true) .bool=true by first | rfl | decide | simp[WShape.has,WShape.arms,WShape.armsAll])
  (show(WTm.eq .res (.lit (.bool true))).value [] {args:=args,res:=some (.bool true),after:=args}=some (.bool (true == true)) from w_eq_bool (w_res rfl) w_lit) rfl
theorem Az {l:OpenLaw} {n:Nat} {q:Program} {loose:List Str} {XP:(Str→Option Value)→Heap→Prop} {YP:World→Heap→Prop} {d:DefRec}
  (hn:l.most=some n) (hdf:d.params.defaults=[])
  (call:∀(w:World) (s₀ s₁:Shared) (mg mb:Str→Option Value) (fa:Addr) (o:Obj) (pm cd doc:Value) (a:Addr) (vs:List Value) (ns:List Int),
   Ground q loose [] XP w s₀ mg mb s₁.heap→YP w s₁.heap→
   s₁.heap.get? fa=some o→o.data=.func (docDef d.name d.params d.body d.scope pm cd doc)→s₁.heap.CodeRec cd d.name→mg d.name=some (.ref fa)→
   s₁.heap.get? a=some {cls:=.type "list",data:=.seq vs.toArray}→IntsAre vs ns→ns.length≤n→s₁.gens= #[]→
   codeAny (model l.prog w) callerA (.call (.ref fa) ⟨[.ref a],[]⟩) (fun r s'=>r=.ok (.ret (.bool true))∧OldK s₁.heap s'.heap∧s'.os=s₁.os∧AllBare s'.gens) s₁):
  WalkO q loose XP YP l.row.toRowW d [] (fun f vs=>PySem.call f vs):=by
 intro w s₀ s₁ mg mb G Y fa o pm cd doc dV kV ho hd hcd hD hmg hg args vals as hpre hlay hrd hwl hlo
 obtain rfl:dV=.none:=Dflts.none hD hdf
 obtain rfl:kV=.none:=Dflts.noKw hD
 obtain⟨a,vs,ns,rfl,rfl,hobj,hints,hlen⟩:=EB hn hpre hwl
 refine enter_call (codeAny_mono (call w s₀ s₁ mg mb fa o pm cd doc a vs ns G Y ho (fd_plain hd) hcd hmg hobj hints hlen hg) fun r s' hq=>?_)
 obtain⟨rfl,h2,h3,h4⟩:=hq
 exact⟨.inl ⟨.bool true,.bool true,[],rfl,fun _=>rfl,.bool true,EC l _,fun _=>⟨List.Pairwise.nil,fun _ hm=>(nomatch hm)⟩⟩,h2,h3,h4⟩
end QY
namespace L2
open PySem PySem.Spec PyProof.Rows
theorem wt:∀{vs:List Value} {ns:List Int},IntsAre vs ns→Vals (ns.map V.int) vs
 | _,_,.nil=>.nil
 | _,_,.cons n t h=>.cons ⟨t,rfl⟩ (wt h)
def Only (H:Hp):Prop:=∀b,H b=none∨∃o xs,H b=some (.tB o (.lst xs))
theorem GK {P:Program} {w:World} {K:PySem.W.Frag} {mg mb:Str→Option Value} {CX:qA} {k:Nat} {fa a:Addr} {fd:FuncData} {x:Str} {sp:Sp} {s₁:Shared} {vs:List Value} {ns:List Int}
  (KX:K.In s₁.heap) (hns:s₁.heap.Ns mainGlobals mg) (hb:s₁.heap.Ns builtinsNs mb) (hbb:∀x:Str,x≠"__name__"→mb x=bootBuiltins x) (hlim:s₁.heap.NoLimit) (hg:s₁.gens= #[])
  (ha:s₁.heap.get? a=some {cls:=.type "list",data:=.seq vs.toArray}) (hi:IntsAre vs ns) (hl:ns.length≤sizeLine) (hr:aU k callerA)
  (F:∀base:Heap,K.In base→base.Ns mainGlobals mg→a_ P w K mg base CX k fa fd [x] sp) (hbind:∀(s:Shared) (u:Value),BindsTo s fd ⟨[u],[]⟩ [(x,u)])
  (hsp:∀H:Hp,Only H→cf K H a (ns.map V.int)→sp [.ref a] H (fun v _=>v=.bl true) fun _ _ _=>False)
  (LG:∀H e s',CX [] H s₁ (fun _ _ _=>False) e s'→False):
  codeAny (model P w) callerA (.call (.ref fa) ⟨[.ref a],[]⟩) (fun r s'=>r=.ok (.ret (.bool true))∧OldK s₁.heap s'.heap∧s'.os=s₁.os∧AllBare s'.gens) s₁:=by
 have rv:=wt hi
 have lenV:=hi.length
 have core:∀H:Hp,Only H→cf K H a (ns.map V.int)→fk P w H s₁.heap→(∀b,H b≠none→b=a)→(H a≠none→K.lookup a=none)→
   codeAny (model P w) callerA (.call (.ref fa) ⟨[.ref a],[]⟩) (fun r s'=>r=.ok (.ret (.bool true))∧OldK s₁.heap s'.heap∧s'.os=s₁.os∧AllBare s'.gens) s₁:=by
  intro H hO hS hok hA hK
  have BN:∀{b:Addr} {o:Obj},s₁.heap.get? b=some o→H b=none→(pQ s₁.heap H).get? b=some o:=fun e n=>Gy e n
  have Es:∀{b:Addr} {o:Obj} {es:Array DictEntry} {ep:Nat},s₁.heap.get? b=some o→o.data=.dict es ep→H b=none:=fun {b o es ep} e d=>by
   cases q:H b with
   | none=>rfl
   | some u=>
    have e':b=a:=hA b (by rw[q];simp)
    subst e'
    rw[ha] at e;cases e
    have d':Data.seq vs.toArray _=Data.dict es ep:=d
    cases d'
  have Jd:∀{b:Addr} {m:Str→Option Value},s₁.heap.Ns b m→(pQ s₁.heap H).Ns b m:=fun {b m} ⟨o,es,ep,e,d,r⟩=>⟨o,es,ep,BN e (Es e d),d,r⟩
  have QZ:K.In (pQ s₁.heap H):=fun b o e=>BN (KX b o e) (by
   cases q:H b with
   | none=>rfl
   | some u=>
    have e':b=a:=hA b (by rw[q];simp)
    subst e'
    rw[hK (by rw[q];simp)] at e;cases e)
  have hM:Mod K mg (pQ s₁.heap H):=⟨QZ,Jd hns,⟨mb,Jd hb,hbb⟩,let ⟨mc,h1,h2⟩:=hlim;⟨mc,Jd h1,h2⟩⟩
  have e0:tW P w K mg (pQ s₁.heap H) callerA [] s₁ H:=⟨rfl,hM,fun b o e=>Km e,Nat.le_of_eq (Ed _ _),trivial,fun b hb=>absurd (show b∈([]:List Addr) from hb) (by simp),hok,.of_eq hg⟩
  refine codeAny_mono ((F _ QZ (Jd hns)).run callerA [] s₁ H ⟨[.ref a],[]⟩ [.ref a] [.ref a] _ _ hr e0 (hbind s₁ (.ref a)) (.cons rfl .nil) (hsp H hO hS)) fun r s' h=>?_
  cases r with
  | error e=>exact(LG H e s' h).elim
  | ok fl=>
   cases fl with
   | next=>exact False.elim h
   | brk=>exact False.elim h
   | cont=>exact False.elim h
   | ret u=>
    obtain⟨v,H',os,bare,un,hok',r',q⟩:=h
    have q':v=.bl true:=q
    subst q'
    obtain rfl:u=Value.bool true:=r'
    refine⟨rfl,OldK.of_keep fun b o e=>?_,os,bare⟩
    cases q:H b with
    | none=>exact un.keep b o e q (by intro z;exact absurd (show b∈([]:List Addr) from z) (by simp)) (by simp)
    | some u=>
     rcases hO b with z | ⟨ob,xs,z⟩
     ·rw[q] at z;cases z
     ·have z2:=un.oQ b ob _ z
      obtain⟨e1,_⟩:=hok b _ z
      obtain⟨e2,_⟩:=hok' b _ z2
      rw[e] at e1;cases e1
      exact e2
 cases hk:K.lookup a with
 | some o=>
  have e:=KX a o hk
  rw[ha] at e
  cases e
  refine core (fun _=>none) (fun _=>.inl rfl) (.inr ⟨_,vs.toArray,_,hk,rfl,rfl,rfl,by rw[List.size_toArray,lenV];exact hl,by simpa using rv⟩) (fun b u z=>by have z':(none:Option HO)=some u:=z;cases z') (fun b z=>absurd rfl z) fun z=>absurd rfl z
 | none=>
  refine core (fun b=>if b=a then some (.tB {cls:=.type "list",data:=.seq vs.toArray} (.lst (ns.map V.int))) else none) (fun b=>?_) (.inl (.inr ⟨{cls:=.type "list",data:=.seq vs.toArray},if_pos rfl⟩)) (fun b u z=>?_) (fun b z=>?_) fun _=>hk
  ·by_cases hb:b=a
   ·exact .inr ⟨_,_,if_pos hb⟩
   ·exact .inl (if_neg hb)
  ·by_cases hb:b=a
   ·have z':=(if_pos hb).symm.trans z
    cases z'
    subst hb
    exact⟨ha,by rw[List.length_map];exact hl,vs,_,rv,ha⟩
   ·have z':=(if_neg hb).symm.trans z
    cases z'
  ·by_cases hb:b=a
   ·exact hb
   ·exact absurd (if_neg hb) z
theorem Kw {l:PySem.W.OpenLaw} {n k:Nat} {q:Program} {loose:List Str} {XP:(Str→Option Value)→Heap→Prop} {YP:World→Heap→Prop} {d:DefRec} {K:Params→PySem.W.Frag} {CX:World→qA} {sp:World→Sp} {x:Str}
  (hn:l.most=some n) (hn2:n≤sizeLine) (hdf:d.params.defaults=[]) (hr:aU k callerA)
  (hY:∀(w:World) (h:Heap),YP w h→(K w.params).In h)
  (F:∀(w:World) (mg:Str→Option Value) (fa:Addr) (h:Heap),(K w.params).In h→h.Ns mainGlobals mg→mg d.name=some (.ref fa)→
   ∃fd:FuncData,(∀(s:Shared) (u:Value),BindsTo s fd ⟨[u],[]⟩ [(x,u)])∧
    ∀base:Heap,(K w.params).In base→base.Ns mainGlobals mg→a_ l.prog w (K w.params) mg base (CX w) k fa fd [x] (sp w))
  (hsp:∀(w:World) (H:Hp) (a:Addr) (ns:List Int),ns.length≤n→Only H→cf (K w.params) H a (ns.map V.int)→sp w [.ref a] H (fun v _=>v=.bl true) fun _ _ _=>False)
  (LG:∀(w:World) (H:Hp) (s:Shared) (e:Value) (s':Shared),CX w [] H s (fun _ _ _=>False) e s'→False):
  PySem.W.WalkO q loose XP YP l.row.toRowW d [] (fun f vs=>PySem.call f vs):=by
 refine QY.Az hn hdf fun w s₀ s₁ mg mb fa o pm cd doc a vs ns G Y ho hd hcd hmg hobj hints hlen hg=>?_
 have KX:=hY w _ Y
 obtain⟨fd,hb,hF⟩:=F w mg fa _ KX G.T.g hmg
 exact GK KX G.T.g G.T.b G.T.builtins G.T.nolimit hg hobj hints (Nat.le_trans hlen hn2) hr hF hb (fun H hO hS=>hsp w H a ns hlen hO hS) fun H e s'=>LG w H s₁ e s'
def inClass (s:Stmt) (j:Nat):Stmt:=match s with
 | .ClassDef _ _ _ body _ _ _ _ _ _ _=>body.getD j (.Pass ⟨0,0,0,0⟩)
 | _=>.Pass ⟨0,0,0,0⟩
def aZ (s:Stmt):Arguments:=match s with
 | .FunctionDef _ a _ _ _ _ _ _ _ _=>a
 | _=>{posonlyargs:=[],args:=[],vararg:=none,kwonlyargs:=[],kw_defaults:=[],kwarg:=none,defaults:=[]}
def aV (s:Stmt):List Stmt:=match s with
 | .FunctionDef _ _ b _ _ _ _ _ _ _=>b
 | _=>[]
def aw (s:Stmt):Scope:=match s with
 | .FunctionDef _ _ _ _ _ _ sc _ _ _=>sc
 | _=>{kind:=.function,names:=[],isGenerator:=false,isCoroutine:=false}
abbrev dq:qA:=fun _ _ _ _ _ _=>False
abbrev E0:XK:=fun _ _ _=>False
theorem aT {X:Cx}:Passes dq X E0:=fun _ _ _ _ _ _ _ h=>h.elim
structure cF (K:PySem.W.Frag) (x qual:Str) (st:Stmt) (f:Addr) (fd:FuncData):Prop where
 ex:∃(oc:Value) (od:Option Addr) (kV doc pm:Value) (an:Option Addr) (cdv ct:Value) (osl:Array (Option Value)),
  fd=PySem.W.fnOf x qual (aZ st) (aV st) (aw st) .none kV doc pm an cdv ct∧K.lookup f=some ⟨oc,od,.func fd,osl⟩∧PySem.W.codeIn K cdv qual=true
 kp:PySem.W.keepIn K (.ref f)=true
section
variable {P:Program} {w:World} {K:PySem.W.Frag} {mg:Str→Option Value} {base:Heap}
theorem cF.ok {x qual:Str} {st:Stmt} {f:Addr} {fd:FuncData} {N ps:List Str} {k:Nat} {sp:Sp} (F:cF K x qual st f fd) (S:bh N ps (aw st)) (len:∀vs H Q E,sp vs H Q E→vs.length=ps.length)
  (hbody:∀(cdv:Value) (A:Around) (outer:List Env) (s:Shared) (H:Hp) (vs:List V) (Q:VK) (E:XK),aU k (A.deeper (envOfC qual (aw st) s.heap.objs.size f cdv))→sp vs H Q E→
   ∃t,mm (iA dq P w K mg base N qual (aw st) f cdv A outer s H E).Eg (aV st) t∧t {nx:=fun _ H'=>Q .non H',rt:=Q} (start N vs) H):a_ P w K mg base dq (k+1) f fd ps sp:=by
 obtain⟨oc,od,kV,doc,pm,an,cdv,ct,osl,rfl,lk,hcd⟩:=F.ex
 refine Ja lk hcd S len fun A outer s H vs Q E hr hsp=>?_
 obtain⟨t,h,q⟩:=hbody cdv A outer s H vs Q E hr hsp
 exact⟨t,h.Eg,q⟩
theorem cF.binds {x qual:Str} {st:Stmt} {f:Addr} {fd:FuncData} {ps:List Str} (F:cF K x qual st f fd)
  (h:∀(kV doc pm:Value) (an:Option Addr) (cdv ct:Value) (us:List Value),us.length=ps.length→bindArgs (PySem.W.fnOf x qual (aZ st) (aV st) (aw st) .none kV doc pm an cdv ct) ⟨us,[]⟩=pure (ps.zip us)):Binds K fd ps []:=by
 obtain⟨oc,od,kV,doc,pm,an,cdv,ct,osl,rfl,lk,hcd⟩:=F.ex
 exact .all (h kV doc pm an cdv ct)
theorem bA {x qual:Str} {st:Stmt} {f:Addr} {oc:Value} {od an:Option Addr} {osl:Array (Option Value)} {kV doc pm cdv ct:Value} (l:K.lookup f=some ⟨oc,od,.func (PySem.W.fnOf x qual (aZ st) (aV st) (aw st) .none kV doc pm an cdv ct),osl⟩)
  (c:PySem.W.codeIn K cdv qual=true) (k:PySem.W.keepIn K (.ref f)=true):cF K x qual st f (PySem.W.fnOf x qual (aZ st) (aV st) (aw st) .none kV doc pm an cdv ct):=⟨⟨oc,od,kV,doc,pm,an,cdv,ct,osl,rfl,l,c⟩,k⟩
end
theorem sH {A:Around} {k:Nat} (hr:aU k A):A.units+1<cLine:=Nat.lt_of_le_of_lt (Nat.add_le_add_left (by decide:1≤64) _) hr.units
section
variable {X:Cx}
theorem pv (i:Nat) {x:Str} {pos:Pos} (hN:X.N[i]? =some x:=by rfl) (hv:Bz X.env.scope x:=by first | exact Or.inl rfl | exact Or.inr (Or.inl rfl) | exact Or.inr (Or.inr rfl)) (hd:(x == ("__debug__":Str))=false:=by decide)
  (hcd:(x == ("__classdict__":Str))=false:=by decide):PE X (.Name x pos) (qQ i):=Ld hN hv hd hcd
end
theorem aY {A B:Prop} (h:B):if false=true then A else B:=by
 rw[if_neg Bool.false_ne_true]
 exact h
theorem bE {A B:Prop} (h:A):if true=true then A else B:=by
 rw[if_pos rfl]
 exact h
theorem dr {c A B:Prop} [Decidable c] (h1:c→A) (h2:¬c→B):if c then A else B:=by
 by_cases h:c
 ·rw[if_pos h]
  exact h1 h
 ·rw[if_neg h]
  exact h2 h
def Same (H H':Hp):Prop:=∀b o,H b=some o→H' b=some o
theorem Same.refl (H:Hp):Same H H:=fun _ _ h=>h
theorem Same.trans {H H1 H2:Hp} (a:Same H H1) (b:Same H1 H2):Same H H2:=fun c o h=>b c o (a c o h)
theorem Same.free {H H':Hp} (e:Same H H') {l:Addr} (h:H' l=Option.none):H l=Option.none:=by
 cases q:H l with
 | none=>rfl
 | some o=>
  rw[e l o q] at h
  cases h
theorem Same.seq {K:PySem.W.Frag} {H H':Hp} {a:Addr} {xs:List V} (e:Same H H') (h:cf K H a xs):cf K H' a xs:=by
 rcases h with(h | ⟨o,h⟩) | h
 ·exact .inl (.inl (e _ _ h))
 ·exact .inl (.inr ⟨o,e _ _ h⟩)
 ·exact .inr h
section
variable {κ:Type} [DecidableEq κ]
def fJ (kvs:List (κ×V)) (k:κ):Option V:=(kvs.find? fun kv=>decide (kv.1=k)).map (·.2)
def putK (kvs:List (κ×V)) (k:κ) (v:V):List (κ×V):=
 if(kvs.any fun kv=>decide (kv.1=k))=true then kvs.map (fun kv=>if kv.1=k then(kv.1,v) else kv) else kvs++[(k,v)]
theorem eT {p:κ×V} {r:List (κ×V)} {k:κ} (e:p.1=k):fJ (p::r) k=some p.2:=by simp[fJ,List.find?_cons,e]
theorem eU {p:κ×V} {r:List (κ×V)} {k:κ} (e:¬p.1=k):fJ (p::r) k=fJ r k:=by simp[fJ,List.find?_cons,e]
theorem pW (k:κ):∀kvs:List (κ×V),(kvs.any fun kv=>decide (kv.1=k))=(fJ kvs k).isSome
 | []=>rfl
 | p::r=>by
  rw[List.any_cons]
  by_cases e:p.1=k
  ·simp only[eT e,decide_eq_true e,Bool.true_or,Option.isSome_some]
  ·rw[eU e,decide_eq_false e,Bool.false_or];exact pW k r
theorem yt (k j:κ) (y:V):∀kvs:List (κ×V),fJ (kvs.map fun kv=>if kv.1=k then(kv.1,y) else kv) j=(fJ kvs j).map fun x=>if j=k then y else x
 | []=>rfl
 | p::r=>by
  have ih:=yt k j y r
  rw[List.map_cons]
  by_cases h:p.1=k
  ·rw[if_pos h]
   by_cases e:p.1=j
   ·rw[eT (p:=(p.1,y)) e,eT e,Option.map_some,if_pos (e.symm.trans h)]
   ·rw[eU (p:=(p.1,y)) e,eU e,ih]
  ·rw[if_neg h]
   by_cases e:p.1=j
   ·rw[eT (p:=p) e,eT e,Option.map_some,if_neg (fun z=>h (e.trans z))]
   ·rw[eU (p:=p) e,eU e,ih]
theorem wu (k j:κ) (y:V):∀kvs:List (κ×V),fJ kvs k=none→fJ (kvs++[(k,y)]) j=if j=k then some y else fJ kvs j
 | [],_=>by
  by_cases e:k=j
  ·rw[if_pos e.symm];exact eT (p:=(k,y)) e
  ·rw[if_neg (fun z=>e z.symm)];exact eU (p:=(k,y)) e
 | p::r,hn=>by
  rw[List.cons_append]
  have hk:¬p.1=k:=fun z=>by rw[eT z] at hn;cases hn
  rw[eU hk] at hn
  have ih:=wu k j y r hn
  by_cases e:p.1=j
  ·rw[eT e,eT e,if_neg (fun z=>hk (e.trans z))]
  ·rw[eU e,eU e,ih]
theorem yu (kvs:List (κ×V)) (k j:κ) (y:V):fJ (putK kvs k y) j=if j=k then some y else fJ kvs j:=by
 unfold putK
 by_cases a:(kvs.any fun kv=>decide (kv.1=k))=true
 ·rw[if_pos a,yt]
  rw[pW] at a
  by_cases e:j=k
  ·obtain⟨x,hx⟩:=Option.isSome_iff_exists.mp a
   rw[if_pos e,e,hx,Option.map_some,if_pos rfl]
  ·rw[if_neg e]
   cases fJ kvs j with
   | none=>rfl
   | some x=>rw[Option.map_some,if_neg e]
 ·rw[if_neg a]
  refine wu k j y kvs ?_
  rw[pW] at a
  cases q:fJ kvs k with
  | none=>rfl
  | some x=>rw[q] at a;exact(a rfl).elim
theorem oS (kvs:List (κ×V)) (k:κ) (v:V):(putK kvs k v).length≤kvs.length+1:=by
 unfold putK
 split
 ·rw[List.length_map];omega
 ·rw[List.length_append,List.length_cons,List.length_nil];omega
theorem jD.ED {o:Option V} {u:Option Value} (r:jD o u):o.isSome=u.isSome:=by
 cases o with
 | none=>cases u with
  | none=>rfl
  | some _=>exact(show False from r).elim
 | some _=>cases u with
  | none=>exact(show False from r).elim
  | some _=>rfl
theorem KV.val {kvs:List (κ×V)} {vs:List (κ×Value)} (r:KV kvs vs) (k:κ):jD (fJ kvs k) (valueAt vs k):=by
 unfold KV at r
 induction r with
 | nil=>exact True.intro
 | @cons p q ps qs h t ih=>
  obtain⟨h1,h2⟩:=h
  by_cases e:p.1=k
  ·have e':q.1=k:=h1.symm.trans e
   have b:valueAt (q::qs) k=some q.2:=by simp[valueAt,List.find?_cons,e']
   rw[eT e,b];exact h2
  ·have e':¬q.1=k:=fun z=>e (h1.trans z)
   have b:valueAt (q::qs) k=valueAt qs k:=by simp[valueAt,List.find?_cons,e']
   rw[eU e,b];exact ih
theorem KV.any {kvs:List (κ×V)} {vs:List (κ×Value)} (r:KV kvs vs) (k:κ):(kvs.any fun kv=>decide (kv.1=k))=vs.any fun kv=>decide (kv.1=k):=by
 unfold KV at r
 induction r with
 | nil=>rfl
 | cons h t ih=>rw[List.any_cons,List.any_cons,ih,h.1]
theorem KV.repl {kvs:List (κ×V)} {vs:List (κ×Value)} (r:KV kvs vs) (k:κ) {y:V} {u:Value} (ry:RelV y u):
  KV (kvs.map fun kv=>if kv.1=k then(kv.1,y) else kv) (vs.map fun kv=>if kv.1=k then(kv.1,u) else kv):=by
 unfold KV at r ⊢
 induction r with
 | nil=>exact .nil
 | @cons p q ps qs h t ih=>
  rw[List.map_cons,List.map_cons]
  refine .cons ?_ ih
  obtain⟨h1,h2⟩:=h
  by_cases e:p.1=k
  ·rw[if_pos e,if_pos (h1.symm.trans e)];exact⟨h1,ry⟩
  ·rw[if_neg e,if_neg (fun z=>e (h1.trans z))];exact⟨h1,h2⟩
theorem KV.put {kvs:List (κ×V)} {vs:List (κ×Value)} (r:KV kvs vs) (k:κ) {y:V} {u:Value} (ry:RelV y u):KV (putK kvs k y) (stored vs k u):=by
 unfold putK stored
 rw[r.any k]
 by_cases e:(vs.any fun kv=>decide (kv.1=k))=true
 ·rw[if_pos e,if_pos e];exact r.repl k ry
 ·rw[if_neg e,if_neg e];exact Paired.snoc r ⟨rfl,ry⟩
theorem KV.length {kvs:List (κ×V)} {vs:List (κ×Value)} (r:KV kvs vs):kvs.length=vs.length:=Paired.length r
end
theorem CV {P:Program} {w:World} {k:Key} {u:Value} (r:RelV (kV k) u):(dY P w).is k u=true:=by
 cases k with
 | inl i=>obtain⟨t,e⟩:=(show ∃t,u=Value.int i t from r);subst e;exact Aw P w i t
 | inr x=>obtain⟨t,e⟩:=(show ∃t,u=Value.str x t from r);subst e;exact Ax P w x t
theorem wx {P:Program} {w:World}:∀{ks:List Key} {us:List Value},Vals (ks.map kV) us→ItemsAre (dY P w) ks us
 | [],_,r=>by rw[List.map_nil] at r;cases r;exact .nil
 | k::ks,_,r=>by
  rw[List.map_cons] at r
  cases r with
  | cons h t=>exact .cons (CV h) (wx t)
abbrev KT (H:Hp):List (List Key×V)→List (List Key×Addr×Value)→Prop:=Paired fun p q=>p.1=q.1∧H q.2.1=some (.tup (p.1.map kV))∧RelV p.2 q.2.2
theorem KT.val {H:Hp} {kvs:List (List Key×V)} {xs:List (List Key×Addr×Value)} (r:KT H kvs xs) (k:List Key):jD (fJ kvs k) ((atKey xs k).map (·.2)):=by
 induction r with
 | nil=>exact True.intro
 | @cons p q ps qs h t ih=>
  obtain⟨h1,_,h2⟩:=h
  by_cases e:p.1=k
  ·have e':q.1=k:=h1.symm.trans e
   have b:atKey (q::qs) k=some q.2:=by simp[atKey,List.find?_cons,e']
   rw[eT e,b];exact h2
  ·have e':¬q.1=k:=fun z=>e (h1.trans z)
   have b:atKey (q::qs) k=atKey qs k:=by simp[atKey,List.find?_cons,e']
   rw[eU e,b];exact ih
theorem KT.repl {H:Hp} {kvs:List (List Key×V)} {xs:List (List Key×Addr×Value)} (r:KT H kvs xs) (k:List Key) {y:V} {u:Value} (ry:RelV y u):
  KT H (kvs.map fun kv=>if kv.1=k then(kv.1,y) else kv) (xs.map (putAt k u)):=by
 induction r with
 | nil=>exact .nil
 | @cons p q ps qs h t ih=>
  rw[List.map_cons,List.map_cons]
  refine .cons ?_ ih
  obtain⟨h1,h2,h3⟩:=h
  unfold putAt
  by_cases e:p.1=k
  ·rw[if_pos e,if_pos (h1.symm.trans e)];exact⟨h1,h2,ry⟩
  ·rw[if_neg e,if_neg (fun z=>e (h1.trans z))];exact⟨h1,h2,h3⟩
theorem KT.put {H:Hp} {kvs:List (List Key×V)} {xs:List (List Key×Addr×Value)} (r:KT H kvs xs) (k:List Key) {b:Addr} {y:V} {u:Value} (hb:H b=some (.tup (k.map kV))) (ry:RelV y u):
  KT H (putK kvs k y) (storedH xs k b u):=by
 have e:(kvs.any fun kv=>decide (kv.1=k))=(atKey xs k).isSome:=by
  rw[pW,(r.val k).ED,Option.isSome_map]
 unfold putK storedH
 rw[e]
 by_cases q:(atKey xs k).isSome=true
 ·rw[if_pos q,if_pos q];exact r.repl k ry
 ·rw[if_neg q,if_neg q];exact Paired.snoc r ⟨rfl,hb,ry⟩
theorem KT.keeps {H H':Hp} {kvs:List (List Key×V)} {xs:List (List Key×Addr×Value)} (r:KT H kvs xs) (ht:∀b ys,H b=some (.tup ys)→H' b=some (.tup ys)):KT H' kvs xs:=
 Paired.qO r fun _ _ z=>⟨z.1,ht _ _ z.2.1,z.2.2⟩
section
variable {P:Program} {w:World} {H:Hp} {h:Heap} {a:Addr}
theorem Je {u:HO} (ok:fk P w H h) (e:Rd H a u):cZ P w H h a u:=e.ok ok
theorem CW {kvs:List (Key×V)} (ok:fk P w H h) (e:Rd H a (.dK kvs)):kvs.length≤sizeLine∧(a == sysModules)=false∧∃vs,KV kvs vs∧h.DictOf (dY P w) a vs:=
 show cZ P w H h a (.dK kvs) from Je ok e
theorem Ph {kvs:List (Key×V)} (ok:fk P w H h) (e:H a=some (.dK kvs)):kvs.length≤sizeLine∧(a == sysModules)=false∧∃vs,KV kvs vs∧h.DictOf (dY P w) a vs:=CW ok (.inl e)
theorem yw {ks:List Key} (ok:fk P w H h) (e:H a=some (.tup (ks.map kV))):(tupleKind (dY P w)).is h ks a:=by
 obtain⟨_,its,r,o,h1,h2,n,h3⟩:=(show cZ P w H h a (.tup (ks.map kV)) from ok a _ e)
 exact⟨o,its.toArray,n,h1,h2,h3,by simpa using wx r⟩
theorem CY {kvs:List (List Key×V)} (ok:fk P w H h) (e:Rd H a (.dT kvs)):kvs.length≤sizeLine∧(a == sysModules)=false∧
  ∃xs,KT H kvs xs∧h.DictOfH (tupleKind (dY P w)) a xs:=by
 obtain⟨z,y,xs,r,o,es,ep,h1,h2,h3,h4,h5⟩:=(show cZ P w H h a (.dT kvs) from Je ok e)
 refine⟨z,y,xs,r,o,es,ep,h1,h2,h3,h4,fun x hx=>?_,h5⟩
 have all:∀{l:List (List Key×V)} {m:List (List Key×Addr×Value)},KT H l m→∀x∈m,(tupleKind (dY P w)).is h x.1 x.2.1:=by
  intro l m q
  induction q with
  | nil=>intro x hx;exact nomatch hx
  | @cons p q ps qs hq t ih=>
   intro x hx
   rcases List.mem_cons.mp hx with e | hx
   ·subst e
    exact yw ok (by rw[←hq.1];exact hq.2.1)
   ·exact ih x hx
 exact all r x hx
theorem Pj {kvs:List (List Key×V)} (ok:fk P w H h) (e:H a=some (.dT kvs)):kvs.length≤sizeLine∧(a == sysModules)=false∧
  ∃xs,KT H kvs xs∧h.DictOfH (tupleKind (dY P w)) a xs:=CY ok (.inl e)
end
def CZ (H:Hp) (a:Addr) (y:V) (r:Option V):Prop:=
 (∃kvs k,Rd H a (.dK kvs)∧y=kV k∧r=fJ kvs k)∨∃kvs k b,Rd H a (.dT kvs)∧y=.ref b∧H b=some (.tup (k.map kV))∧r=fJ kvs k
def yx (H:Hp) (a:Addr) (y v:V) (H':Hp):Prop:=
 (∃kvs k,H a=some (.dK kvs)∧y=kV k∧kvs.length<sizeLine∧H'=upd H a (.dK (putK kvs k v)))∨
 ∃kvs k b,H a=some (.dT kvs)∧y=.ref b∧H b=some (.tup (k.map kV))∧kvs.length<sizeLine∧H'=upd H a (.dT (putK kvs k v))
theorem yx.t {H:Hp} {a b:Addr} {kvs:List (List Key×V)} {k:List Key} {v:V} (e:H a=some (.dT kvs)) (eb:H b=some (.tup (k.map kV))) (hl:kvs.length<sizeLine):
  yx H a (.ref b) v (upd H a (.dT (putK kvs k v))):=.inr ⟨kvs,k,b,e,rfl,eb,hl,rfl⟩
section
variable {X:Cx} {pins:List (Addr×Obj)} {σ:St} {H:Hp} {s:Shared} {a:Addr} {y v:V} {u r:Value} {o:Option V} {A:Around} {E:Value→Shared→Prop}
theorem Inv.big (I:Inv X pins σ H s):sysModules<s.heap.objs.size:=by
 have h:mainGlobals<s.heap.objs.size:=(I.mod.glob.keeps I.bk).lt
 exact Nat.lt_trans (by decide) h
theorem EF {Q:Value→Shared→Prop} (hu:A.units+1<cLine) (I:Inv X pins σ H s) (g:CZ H a y (some v)) (ry:RelV y u) (h:∀w' s',Inv X pins σ H s'→RelV v w'→Q w' s'):
  wpAny (model X.prog X.w) A (getItem (.ref a) u) Q E s:=by
 rcases g with⟨kvs,k,e,ey,l⟩ | ⟨kvs,k,b,e,ey,eb,l⟩
 ·subst ey
  obtain⟨z,hd,vs,rel,dd⟩:=CW I.hok e
  obtain⟨w',hw,lB⟩:=jD.some_of (v:=v) (o:=valueAt vs k) (by rw[l];exact rel.val k)
  exact wpAny_getItem_of (CV ry) dd.mapOf hw (h w' _ (I.tok _) lB)
 ·subst ey
  cases(show u=Value.ref b from ry)
  obtain⟨z,hd,xs,rel,dd⟩:=CY I.hok e
  obtain⟨w',hw,lB⟩:=jD.some_of (v:=v) (o:=(atKey xs k).map (·.2)) (by rw[l];exact rel.val k)
  obtain⟨p,hp,hp2⟩:=Option.map_eq_some_iff.mp hw
  refine wpAny_getItem_heap (tupleKind_room_in1 hu) (yw I.hok eb) dd hp ?_
  rw[hp2]
  exact h w' _ (I.tok _) lB
theorem BO {h':Heap} {t':Nat} {ob:HO} (I:Inv X pins σ H s) (mu:Ec (H a)) (hs:Heap.SameBut a s.heap h') (he:∃q,h'.get? a=some q) (new:cZ X.prog X.w (upd H a ob) h' a ob):
  Inv X pins σ (upd H a ob) {s with heap:=h',toks:=t'}:=
 I.write (x:=a) (e:=a) mu (.inl rfl) (fun b q hb z=>(hs.2 b hb).trans z) he new
theorem LH {P:Program} {w:World} {H':Hp} {h':Heap} {kvs:List (Key×V)} {vs:List (Key×Value)} (z:kvs.length≤sizeLine) (hd:(a == sysModules)=false) (rel:KV kvs vs) (dd:h'.DictOf (dY P w) a vs):
  cZ P w H' h' a (.dK kvs):=⟨z,hd,vs,rel,dd⟩
theorem EG {H':Hp} {Q:Unit→Shared→Prop} (hu:A.units+1<cLine) (I:Inv X pins σ H s) (g:yx H a y v H') (ry:RelV y u) (rv:RelV v r) (h:∀s',Inv X pins σ H' s'→Q () s'):
  wpAny (model X.prog X.w) A (setItem (.ref a) u r) Q E s:=by
 rcases g with⟨kvs,k,e,ey,l,eH⟩ | ⟨kvs,k,b,e,ey,eb,l,eH⟩
 ·subst ey eH
  obtain⟨z,hd,vs,rel,dd⟩:=Ph I.hok e
  have hz:vs.length≤sizeLine:=by rw[←rel.length];exact z
  have hl:(putK kvs k v).length≤sizeLine:=by have:=oS kvs k v;omega
  refine wpAny_setItem_pairs (hsz:=hz) (CV ry) dd fun h' EH hs=>h _ ?_
  have he:∃q,h'.get? a=some q:=let ⟨q,_,_,hq,_⟩:=EH;⟨q,hq⟩
  exact BO I (by rw[e];exact True.intro) hs he (LH hl hd (rel.put k rv) EH)
 ·subst ey eH
  cases(show u=Value.ref b from ry)
  obtain⟨z,hd,xs,rel,dd⟩:=Pj I.hok e
  have hz:xs.length≤sizeLine:=by rw[←Paired.length rel];exact z
  have hl:(putK kvs k v).length≤sizeLine:=by have:=oS kvs k v;omega
  refine wpAny_setItem_heap (hsz:=hz) (tupleKind_room_in1 hu) (yw I.hok eb) dd fun h' EH hs=>h _ ?_
  obtain⟨q,es,ep,hq,h2,h3,h4,_,h5⟩:=EH
  refine BO I (by rw[e];exact True.intro) hs ⟨q,hq⟩ ⟨hl,hd,_,(rel.put k eb rv).keeps fun c ys ec=>?_,q,es,ep,hq,h2,h3,h4,h5⟩
  rw[bz (iM ec e (fun z=>nomatch z))]
  exact ec
end
def LI (i:Expr):Prop:=∀ov iv,subscripted i false ov iv=operate [ov,iv] (getItem ov iv)
theorem Kx {prog:Program} {w:World} {A:Around} {E:Value→Shared→Prop} {s:Shared} {env:Env} {value slice:Expr} {pos:Pos} {T id:String} {Q:Value→Shared→Prop}
  (hl:typeLookup (.type T) "__getitem__"=pure (some (.builtin id))) (hs:LI slice)
  (h:wpAny (model prog w) A (eval value env) (fun o s₁=>wpAny (model prog w) A (eval slice env) (fun i s₂=>s₂.TypeIs o T∧wpAny (model prog w) A (getItem o i) Q E s₂) E s₁) E s):
  wpAny (model prog w) A (eval (.Subscript value slice pos) env) Q E s:=by
 refine Subscript_ (wpAny_mono h (fun o s₁ h₁=>wpAny_mono h₁ (fun i s₂ h₂=>?_) fun _ _ x=>x) fun _ _ x=>x)
 obtain⟨hT,h₂⟩:=h₂
 unfold subscriptTail
 refine wpAny_bind ?_
 rw[getitemInPython_of_ne hT.not_modules]
 refine wpAny_bind (wpAny_specialOf hT hl ?_)
 have fin:wpAny (model prog w) A (subscripted slice false o i) (fun r s₃=>wpAny (model prog w) A (letTemporaryGo value o r >>= fun _=>pure r) Q E s₃) E s₂:=by
  rw[hs o i]
  exact wpAny_operating (wpAny_mono h₂ (fun r s₃ h₃=>wpAny_bind (wpAny_letTemporaryGo (wpAny_pure h₃))) fun _ _ x=>x)
 first
  | exact wpAny_pure (wpAny_bind fin)
  | exact wpAny_bind (wpAny_pure (wpAny_bind fin))
  | exact wpAny_bind fin
theorem AA {X:Cx} {pins:List (Addr×Obj)} {σ:St} {H:Hp} {s:Shared} {a:Addr} {y:V} {o:Option V} (I:Inv X pins σ H s) (g:CZ H a y o):s.TypeIs (.ref a) "dict":=by
 rcases g with⟨kvs,k,e,_,_⟩ | ⟨kvs,k,b,e,_,_,_⟩
 ·obtain⟨_,_,vs,_,dd⟩:=CW I.hok e
  exact dd.typeIs
 ·obtain⟨_,_,xs,_,dd⟩:=CY I.hok e
  exact dd.typeIs
def Pk (td ty:TE):TE:=fun σ H Q=>td σ H fun x H1=>ty σ H1 fun y H2=>∃a v,x=.ref a∧CZ H2 a y (some v)∧Q v H2
def Pm (td ty tv:TE):TS:=fun D σ H=>tv σ H fun v H1=>td σ H1 fun x H2=>ty σ H2 fun y H3=>∃a H4,x=.ref a∧yx H3 a y v H4∧D.nx σ H4
section
variable {X:Cx} {o i e value:Expr} {pos pos' tpos:Pos} {td ty tv:TE}
theorem BP (hu:X.A.units+1<cLine) (ho:PE X o td) (hi:PE X i ty) (hs:LI i):PE X (.Subscript o i pos) (Pk td ty):=by
 intro pins s σ H Q I h
 refine Kx PySem.F.slot_dict_getitem.lookup hs (bf (ho pins s σ H _ I h) fun u s1 ⟨x,H1,I1,rx,q1⟩=>bf (hi pins s1 σ H1 _ I1 q1) fun iv s2 ⟨y,H2,I2,ry,a,v,ex,g,q2⟩=>?_)
 subst ex
 obtain rfl:u=Value.ref a:=rx
 exact⟨AA I2 g,EF hu I2 g ry fun w' s3 I3 lB=>⟨v,H2,I3,lB,q2⟩⟩
theorem Ky (hu:X.A.units+1<cLine) (ho:PE X o td) (hi:PE X i ty) (hv:PE X value tv) (hs:swapsWith value (some (.Subscript o i pos')) pos.line X.env=pure false):
  PS X (.Assign [.Subscript o i pos'] value pos) (Pm td ty tv):=by
 intro pins s σ H D I h
 refine wpAny_Assign_Subscript (bf (hv pins s σ H _ I h) fun r s1 ⟨v,H1,I1,rv,q1⟩=>bf (ho pins s1 σ H1 _ I1 q1) fun u s2 ⟨x,H2,I2,rx,q2⟩=>bf (hi pins s2 σ H2 _ I2 q2) fun iv s3 ⟨y,H3,I3,ry,a,H4,ex,g,q3⟩=>?_) hs
 subst ex
 obtain rfl:u=Value.ref a:=rx
 exact EG hu I3 g ry rv fun s4 I4=>⟨σ,H4,I4,q3⟩
end
theorem GL {P:Program} {w:World} {H:Hp} (h:Heap) (hb:sysModules<h.objs.size):cZ P w H (h.push {cls:=.type "dict",data:=.dict #[]}) h.objs.size (.dT []):=
 ⟨Nat.zero_le _,beq_eq_false_iff_ne.mpr (Ne.symm (Nat.ne_of_lt hb)),[],.nil,_, #[],0,Heap.get?_push_size _ rfl,⟨rfl,rfl,rfl⟩,rfl,rfl,List.nodup_nil⟩
def LJ:TE:=fun _ H Q=>∀p,H p=none→Q (.ref p) (upd H p (.dT []))
section
variable {X:Cx} {pos:Pos}
theorem GN:PE X (.Dict [] [] pos) LJ:=fun pins s σ H Q I h=>
 wpAny_Dict_empty ⟨.ref s.heap.objs.size,_,I.laid (a:=s.heap.objs.size) (o:=.dT []) (t':=s.toks) (fun _ _ q=>Heap.get?_push_of_some _ q) (Nat.le_refl _) (GL s.heap I.big),rfl,h _ (I.hok.fresh (Nat.le_refl _))⟩
end
structure M2 (X:Cx) (o:Expr) (m:Str) (apos:Pos) (e f:Expr) (cpos:Pos):Prop where
 base:attributeBase o m X.env (eval o X.env)=eval o X.env
 few:((backTo cpos (starEach [e,f] X.env)).all (fun x=> !x.1)&&(backToKw cpos (keywordEach [] X.env)).all (fun x=>x.1.isSome)
  &&decide (([e,f]:List Expr).length+([]:List Keyword).length+(if([]:List Keyword).isEmpty then 0 else 1)<30))=true
 line:(apos.endLine == cpos.line)=true
 trees:backTo cpos (starEach [e,f] X.env)=[(false,eval e X.env),(false,eval f X.env)]
section
variable {X:Cx} {pins:List (Addr×Obj)} {σ:List (Option V)} {H H':Hp} {s:Shared} {h':Heap}
theorem Inv.GO {t':Nat} {ch:List Addr} {p:Addr} {o:HO} (I:Inv X pins σ H s) (hf:∀b∈ch,iO X pins H b)
  (k:∀b u,b ∉ ch→s.heap.get? b=some u→h'.get? b=some u) (hp:s.heap.objs.size≤p) (new:cZ X.prog X.w (upd H p o) h' p o):
  Inv X pins σ (upd H p o) {s with heap:=h',toks:=t'}:=by
 have hn:H p=none:=I.hok.fresh hp
 have vY:∀b u,H b=some u→b ∉ ch:=fun b u e z=>by have q:=(hf b z).1;rw[e] at q;cases q
 have old:∀b u,s.heap.get? b=some u→b≠p:=fun b u e=>Nat.ne_of_lt (Nat.lt_of_lt_of_le (Heap.lt_size e) hp)
 have uC:∀b u,H b=some u→upd H p o b=some u:=fun b u e=>by rw[bz (bj e hn)];exact e
 refine I.step (g':=s.gens) (d':=s.drawn) (ch:=ch) (fun b hb=>?_) (fun b o _ _ hc e _=>k b o hc e) (fun b o _ _ hc e _=>⟨o.slots,k b o hc e⟩) (fun b o _ e n=>by rw[bz (old b o e)];exact n)
  (fun b o hc e=>⟨o,k b o hc e⟩) (fun b xs e=>uC b _ e) (fun b _ _ e=>uC b _ e) (fun b ps e=>⟨#[],by rw[uC b _ e];simp⟩) (fun m hm=>?_) (fun b u e=>?_) I.bare
 ·obtain⟨f0,f1,f2,f3,f4,f5⟩:=hf b hb
  exact⟨f3,f1,f4,f5⟩
 ·obtain⟨ob,es,ep,ho,r⟩:=hm
  exact⟨ob,es,ep,k _ ob (fun z=>(hf _ z).2.1 rfl) ho,r⟩
 ·by_cases hb:b=p
  ·subst hb;rw[ag] at e;cases e;exact new
  ·rw[bz hb] at e
   refine(I.hok b u e).stay (fun c v hc q=>k c v ?_ q) (fun c q=>uC c _ q) fun c xs q=>uC c _ q
   rcases hc with z | z
   ·rw[z];exact vY b u e
   ·exact vY c _ z
end
def EI (K:PySem.W.Frag) (a:Addr):It:=
 ⟨fun i H=>∃xs x,cf K H a xs∧xs[i]? =some x,
  fun i H x H'=>∃y p,(∀xs,cf K H a xs→xs[i]? =some y)∧H p=none∧x=.ref p∧H'=upd H p (.tup [.int i,y]),
  fun i H=>∃xs,cf K H a xs∧xs.length≤i⟩
theorem EJ {P:Program} {w:World} {K:PySem.W.Frag} {elts:List Expr} {x1} {tpos:Pos} (a e it:Addr) (hne:e≠it):
  Turn P w K (.Tuple elts x1 tpos) (EI K a) [e,it] e (fun i h=>(∃old,IsEnum h e it i old)∧h.IsListIter it a i) where
 mem:=by simp
 obj:=fun i h st b hb=>by
  obtain⟨⟨old,st1⟩,st2⟩:=st
  rcases List.mem_cons.mp hb with z | z
  ·subst z;exact⟨_,st1,fun v z=>by cases z⟩
  ·have z':b=it:=by simpa using z
   subst z'
   obtain⟨o,e,c,d⟩:=st2
   exact⟨o,e,fun v z=>by rw[d] at z;cases z⟩
 keep:=fun i h h' st k=>by
  obtain⟨⟨old,st1⟩,st2⟩:=st
  exact⟨⟨old,k e (by simp) _ st1⟩,st2.at fun o q=>k it (by simp) o q⟩
 item:=by
  intro X hP hw hK hc i pins s σ H E I hf st hg
  subst hP hw hK
  obtain⟨⟨old,st1⟩,st2⟩:=st
  obtain⟨xs,x,hq,hx⟩:=hg
  obtain⟨its,rv,p,hz⟩:=I.list hq
  obtain⟨u,hu,ru⟩:=rv.get hx
  refine wpAny_pyNext_enum_item st1 st2 p.isList (x:=u) (by simpa using hu) hne fun h1 eo ZD ht hsz kk=>?_
  have nn:H s.heap.objs.size=none:=I.hok.fresh (Nat.le_refl _)
  have I1:Inv X pins σ (upd H s.heap.objs.size (.tup [.int i,x])) {s with heap:=h1,toks:=s.toks+1}:=
   I.GO (ch:=[e,it]) hf (fun b o hb q=>kk b o (fun z=>hb (by simp[z])) (fun z=>hb (by simp[z])) q) (Nat.le_refl _)
    ⟨⟨by show 2≤sizeLine;decide,_,ht,rfl⟩,[.int i s.toks,u],.cons ⟨_,rfl⟩ (.cons ru .nil),⟨_,ht,rfl,_,rfl⟩⟩
  have le:e<s.heap.objs.size:=Heap.lt_size st1
  have li:it<s.heap.objs.size:=by obtain⟨o,q,_⟩:=id st2;exact Heap.lt_size q
  refine⟨_,rfl,wpAny_letOwnedTupleGo_enum eo fun h2 e2 sb=>?_⟩
  obtain⟨f0,f1,f2,f3,f4,f5⟩:=hf e (by simp)
  have I2:=I1.turned (h':=h2) (t':=s.toks+1) (it:=e) (fun b o hb q=>(sb.2 b hb).trans q) (by rw[bz (Nat.ne_of_lt le)];exact f0) f1 f3 f4 f5
  refine⟨.ref s.heap.objs.size,_,I2,rfl,⟨x,s.heap.objs.size,fun ys hy=>by rw[I.tU hy hq];exact hx,nn,rfl,rfl⟩,⟨⟨u,by simpa using e2⟩,ZD.at fun o q=>(sb.2 it (Ne.symm hne)).trans q⟩,fun b hb=>?_⟩
  rcases List.mem_cons.mp hb with z | z
  ·subst z;rw[bz (Nat.ne_of_lt le)];exact f0
  ·have z':b=it:=by simpa using z
   subst z';rw[bz (Nat.ne_of_lt li)];exact(hf b (by simp)).1
 done:=by
  intro X hP hw hK hc i pins s σ H E I hf st hg
  subst hP hw hK
  obtain⟨⟨old,st1⟩,st2⟩:=st
  obtain⟨xs,hq,hx⟩:=hg
  obtain⟨its,rv,p,hz⟩:=I.list hq
  obtain⟨f0,f1,f2,f3,f4,f5⟩:=hf it (by simp)
  have hl:=rv.length
  exact wpAny_pyNext_enum_end (I.ok.hd hc) st1 st2 p.isList (by simp;omega) fun h' eb=>⟨rfl,I.turned (t':=s.toks) (fun b o hb e=>eb b o hb e) f0 f1 f3 f4 f5⟩
 self:=fun _ _ _ _ _ st h=>by
  obtain⟨⟨old,st1⟩,st2⟩:=st
  exact wpAny_pyIter_enum st1 h
def Pn (K:PySem.W.Frag) (ta:TA):TI:=fun σ H R=>ta σ H fun vs H1=>∃a,vs=[.ref a]∧(∃xs,cf K H1 a xs)∧R (EI K a) H1
theorem Kz {X:Cx} {elts:List Expr} {x1} {tpos:Pos} {a:Expr} {ta:TA} {p pos:Pos} (hg:Gl X "enumerate") (hm:X.mg "enumerate"=none) (ha:PA X [a] ta) (hs:starEach [a] X.env=[(false,eval a X.env)]:=by rfl):
  PI X (.Tuple elts x1 tpos) (.Call (.Name "enumerate" p) [a] [] pos) (Pn X.K ta):=by
 intro pins s σ H R I h
 refine Call_ (km I hg hm boot_enumerate (PyProof.Rows.callWith_type1 (bf (ha pos pins s σ H _ I h) fun us s1 ⟨vs,H1,I1,r1,q1⟩=>?_) hs rfl))
 obtain⟨l,e,⟨xs,hq⟩,q⟩:=q1
 subst e
 cases r1 with
 | cons r rr=>
  cases rr
  cases r
  obtain⟨its,rv,pl,hz⟩:=I1.list hq
  refine call_enumerate_list pl.isList fun h' he hit hsz kk=>?_
  have I2:Inv X pins σ H1 {s1 with heap:=h'}:=I1.kept (t':=s1.toks) kk
  refine wpAny_pyIter_enum he ?_
  refine⟨s1.heap.objs.size+1,[s1.heap.objs.size+1,s1.heap.objs.size],_,_,H1,rfl,I2,EJ l _ _ (Nat.succ_ne_self _),⟨⟨_,by simpa using he⟩,hit⟩,fun b hb=>?_,q⟩
  rcases List.mem_cons.mp hb with z | z
  ·subst z;exact I1.oR (Nat.le_succ _) (I1.hok.fresh (Nat.le_succ _))
  ·have z':b=s1.heap.objs.size:=by simpa using z
   subst z';exact I1.oR (Nat.le_refl _) (I1.hok.fresh (Nat.le_refl _))
theorem GP {K:PySem.W.Frag} {a:Addr} {xs:List V} {g:TG} {tb:TS} {D:Ends} {σ:St} {H:Hp} (Pv:Nat→St→Hp→Prop) (h0:Pv 0 σ H) (hl:∀i σ H,i≤xs.length→Pv i σ H→cf K H a xs)
  (hs:∀i x p σ H,xs[i]? =some x→Pv i σ H→H p=none→g (.ref p) σ (upd H p (.tup [.int i,x])) fun σ2 H2=>tb {D with nx:=Pv (i+1),ct:=Pv (i+1),bk:=D.nx} σ2 H2) (hd:∀σ H,Pv xs.length σ H→D.nx σ H):
  ∃W:Nat→Nat→St→Hp→Prop,(∃m,W 0 m σ H)∧∀i m σ H,W i m σ H→
   ((EI K a).stop i H∧D.nx σ H)∨((EI K a).go i H∧∃N:St→Hp→Prop,(∀σ' H',N σ' H'→∃m',m'<m∧W (i+1) m' σ' H')∧∀x H',(EI K a).BE i H x H'→g x σ H' fun σ2 H2=>tb {D with nx:=N,ct:=N,bk:=D.nx} σ2 H2):=by
 refine⟨fun i m σ H=>m=xs.length-i∧i≤xs.length∧Pv i σ H,⟨xs.length,by simp,Nat.zero_le _,h0⟩,?_⟩
 rintro i m σ H ⟨rfl,hi,p⟩
 have q:=hl i σ H hi p
 by_cases hlt:i<xs.length
 ·refine .inr ⟨⟨xs,xs[i],q,by simp[hlt]⟩,Pv (i+1),fun σ' H' p'=>⟨xs.length-(i+1),by omega,rfl,hlt,p'⟩,fun x H' y=>?_⟩
  obtain⟨z,pa,hz,hn,e1,e2⟩:=y
  subst e1 e2
  exact hs i z pa σ H (hz xs q) p hn
 ·have e:i=xs.length:=by omega
  subst e
  exact .inl ⟨⟨xs,q,Nat.le_refl _⟩,hd σ H p⟩
def eE (env:Env):List (Str×NameKind)→List (Str×Addr)→List (Str×Addr)
 | [],cs=>cs
 | (n,k)::r,cs=>eE env r (if k == .free then(n,(env.cells.lookup n).getD 0)::cs else cs)
theorem uD {env:Env}:∀(names:List (Str×NameKind)) (cs:List (Str×Addr)),(∀y∈names,y.2=.free→∃c,env.cells.lookup y.1=some c)→
  (forIn names cs fun(x:Str×NameKind) (r:List (Str×Addr))=>(match x with
   | (name,kind)=>if(kind == NameKind.free)=true then(cellOf env name >>= fun a=>pure (ForInStep.yield ((name,a)::r)):Sem (ForInStep (List (Str×Addr)))) else pure (ForInStep.yield r)))=pure (eE env names cs)
 | [],cs,_=>rfl
 | (n,k)::r,cs,h=>by
  have ih:=fun cs'=>uD r cs' fun y hy=>h y (List.mem_cons_of_mem _ hy)
  rw[List.forIn_cons]
  by_cases hk:k=.free
  ·subst hk
   obtain⟨c,hc⟩:=h (n,.free) List.mem_cons_self rfl
   have e:cellOf env n=pure c:=by unfold cellOf;rw[hc]
   simp only[beq_self_eq_true,if_true,e,pure_bind]
   rw[ih]
   show _=pure (eE env r (if(NameKind.free == NameKind.free)=true then _ else _))
   rw[hc];rfl
  ·have hb:(k == NameKind.free)=false:=by simpa using hk
   simp only[hb,Bool.false_eq_true,if_false,pure_bind]
   rw[ih]
   show _=pure (eE env r (if(k == NameKind.free)=true then _ else _))
   rw[hb];rfl
theorem jg {env:Env} {scope:Scope} (h:∀y∈scope.names,y.2=.free→∃c,env.cells.lookup y.1=some c):closureFor scope env=pure (eE env scope.names []):=by
 unfold closureFor
 have e:=uD (env:=env) scope.names [] h
 show((forIn scope.names [] _:Sem (List (Str×Addr))) >>= fun cs=>pure cs)=_
 rw[bind_pure]
 refine Eq.trans ?_ e
 first
  | rfl
  | (congr 1;funext x r;obtain⟨n,k⟩:=x;dsimp only;split<;>simp)
theorem yy {env:Env} {x:Str} {c:Addr}:∀(names:List (Str×NameKind)) (cs:List (Str×Addr)),(x,c)∈eE env names cs→(x,c)∈cs∨((x,NameKind.free)∈names∧c=(env.cells.lookup x).getD 0)
 | [],cs,h=>.inl h
 | (n,k)::r,cs,h=>by
  have h':(x,c)∈eE env r (if(k == NameKind.free)=true then(n,(env.cells.lookup n).getD 0)::cs else cs):=h
  rcases yy r _ h' with z | ⟨z1,z2⟩
  ·by_cases hk:k=.free
   ·subst hk
    simp only[beq_self_eq_true,if_true,List.mem_cons] at z
    rcases z with z | z
    ·cases z;exact .inr ⟨List.mem_cons_self,rfl⟩
    ·exact .inl z
   ·have hb:(k == NameKind.free)=false:=by simpa using hk
    rw[hb] at z
    exact .inl z
  ·exact .inr ⟨List.mem_cons_of_mem _ z1,z2⟩
theorem wy {env:Env} {p:Str×Addr}:∀(names:List (Str×NameKind)) (cs:List (Str×Addr)),p∈cs→p∈eE env names cs
 | [],cs,h=>h
 | (n,k)::r,cs,h=>by
  show p∈eE env r (if(k == NameKind.free)=true then(n,(env.cells.lookup n).getD 0)::cs else cs)
  refine wy r _ ?_
  split
  ·exact List.mem_cons_of_mem _ h
  ·exact h
theorem yz {env:Env} {x:Str}:∀(names:List (Str×NameKind)) (cs:List (Str×Addr)),(x,NameKind.free)∈names→(x,(env.cells.lookup x).getD 0)∈eE env names cs
 | [],_,h=>by cases h
 | (n,k)::r,cs,h=>by
  show _∈eE env r (if(k == NameKind.free)=true then(n,(env.cells.lookup n).getD 0)::cs else cs)
  rcases List.mem_cons.mp h with z | z
  ·cases z
   exact wy r _ (by simp)
  ·exact yz r _ z
theorem pe {α β:Type} [BEq α] [LawfulBEq α] {x:α} {c:β}:∀{l:List (α×β)},l.lookup x=some c→(x,c)∈l
 | [],h=>by simp at h
 | (n,k)::r,h=>by
  rw[List.lookup_cons] at h
  by_cases e:x=n
  ·subst e;simp at h;subst h;exact List.mem_cons_self
  ·have:(x == n)=false:=by simpa using e
   rw[this] at h
   exact List.mem_cons_of_mem _ (pe h)
theorem pg {α β:Type} [BEq α] [LawfulBEq α] {x:α} {c:β}:∀{l:List (α×β)},(x,c)∈l→∃c',l.lookup x=some c'
 | [],h=>by cases h
 | (n,k)::r,h=>by
  rw[List.lookup_cons]
  by_cases e:x=n
  ·subst e;simp
  ·have q:(x == n)=false:=by simpa using e
   rw[q]
   rcases List.mem_cons.mp h with z | z
   ·cases z;exact absurd rfl e
   ·exact pg z
theorem fD {env:Env} {x:Str} {k':NameKind}:∀{names:List (Str×NameKind)},
  (names.map fun(n,k)=>if(k == NameKind.free&&env.scope.kind == .function&&env.kindOf n == some .cell) then(n,NameKind.cell) else(n,k)).lookup x=some k'→
  (x,k')∈names∨(k'=.cell∧(x,NameKind.free)∈names)
 | [],h=>by simp at h
 | (n,k)::r,h=>by
  rw[List.map_cons,List.lookup_cons] at h
  dsimp only at h
  by_cases e:x=n
  ·subst e
   by_cases hc:(k == NameKind.free&&env.scope.kind == .function&&env.kindOf x == some .cell)=true
   ·rw[if_pos hc] at h
    simp at h
    have hk:k=.free:=by
     simp only[Bool.and_eq_true,beq_iff_eq] at hc
     exact hc.1.1
    subst hk
    exact .inr ⟨h.symm,List.mem_cons_self⟩
   ·rw[if_neg hc] at h
    simp at h
    subst h
    exact .inl List.mem_cons_self
  ·have q:(x == (if(k == NameKind.free&&env.scope.kind == .function&&env.kindOf n == some .cell)=true then(n,NameKind.cell) else(n,k)).1)=false:=by
    split<;>simpa using e
   rw[q] at h
   rcases fD h with z | ⟨z1,z2⟩
   ·exact .inl (List.mem_cons_of_mem _ z)
   ·exact .inr ⟨z1,List.mem_cons_of_mem _ z2⟩
structure bO (X:Cx) (scope:Scope) (own bX:List Str) (cS:List Nat):Prop where
 cell:∀y∈scope.names,y.2≠.cell
 kind:scope.kind=.function
 names:∀y∈scope.names,y.2=.local→scope.names.lookup y.1=some .local
 free:∀y∈scope.names,y.2=.free→X.env.scope.names.lookup y.1=some .cell∨X.env.scope.names.lookup y.1=some .free
 ZE:cS.length=bX.length
 ZF:∀(i j:Nat),cS[i]? =some j→X.N[j]? =bX[i]?
 ZG:∀x∈bX,(x,NameKind.free)∈scope.names∧scope.names.lookup x=some .free
def gw (X:Cx) (own bX:List Str) (scope:Scope) (C:Addr) (s₃:Shared) (H₃:Hp) (fp:List Addr):Cx:=
 {X with N:=own++bX,s₀:=s₃,H₀:=H₃,env:=compEnvC scope (eE X.env scope.names []) C X.env,outer:=X.stack,stack:=X.stack,ex:=fp,fn:=fun _=>false,pn:=[],xe:=fun _ _=>False}
def uE (own:List Str) (cS:List Nat) (σ:St):St:=List.replicate own.length none++cS.map fun j=>(σ[j]?).join
section
variable {X:Cx} {pins:List (Addr×Obj)} {σ:List (Option V)} {H:Hp} {s:Shared} {scope:Scope} {own bX:List Str} {cS:List Nat}
theorem bO.cells (sc:bO X scope own bX cS) (ok:X.Ok):∀y∈scope.names,y.2=.free→∃c,X.env.cells.lookup y.1=some c:=fun y hy hf=>by
 rcases sc.free y hy hf with z | z
 ·exact ok.has y.1 (.inl z)
 ·exact ok.has y.1 (.inr z)
theorem bO.look (sc:bO X scope own bX cS) (ok:X.Ok) {x:Str} {c:Addr} (h:(eE X.env scope.names []).lookup x=some c):X.env.cells.lookup x=some c∧(x,NameKind.free)∈scope.names:=by
 rcases yy _ _ (pe h) with z | ⟨z1,z2⟩
 ·cases z
 ·obtain⟨c',hc⟩:=sc.cells ok (x,.free) z1 rfl
  have hc':X.env.cells.lookup x=some c':=hc
  rw[hc'] at z2
  have z3:c=c':=z2
  subst z3
  exact⟨hc',z1⟩
theorem bO.Jf (sc:bO X scope own bX cS) (ok:X.Ok) {x:Str} (h:(x,NameKind.free)∈scope.names):∃c,(eE X.env scope.names []).lookup x=some c∧X.env.cells.lookup x=some c:=by
 obtain⟨c,hc⟩:=pg (yz (env:=X.env) scope.names [] h)
 exact⟨c,hc,(sc.look ok hc).1⟩
theorem Inv.block {fp:List Addr} {h₄:Heap} {tk:Nat} (I:Inv X pins σ H s) (sc:bO X scope own bX cS) (hfp:∀b∈fp,iO X pins H b) (hfl:∀b∈fp,b<s.heap.objs.size)
  (k:∀b o,s.heap.get? b=some o→h₄.get? b=some o) (hn:h₄.Ns s.heap.objs.size fun _=>none):
  Inv (gw X own bX scope s.heap.objs.size s H fp) [] (uE own cS σ) H {s with heap:=h₄,toks:=tk}:=by
 have ok:=I.ok
 refine⟨⟨ok.mod,by show(relabel scope X.env).kind=_;exact sc.kind,ok.glob,ok.blt,Nat.le_refl _,?_,?_,fun x c h=>(nomatch h),ok.hd,ok.frames,.inl rfl,?_,fun b o e=>I.bs b o e,Nat.le_trans ok.tD I.sz,?_,?_,I.stack,I.sF⟩,rfl,I.bare,Un.kept k,?_,?_,I.fresh,?_,fun p hp=>(nomatch hp),I.hok.kept k,?_⟩
 ·intro x y c e1 e2
  exact ok.inj x y c (sc.look ok e1).1 (sc.look ok e2).1
 ·intro x h
  have mem:(x,NameKind.free)∈scope.names:=by
   rcases h with h | h
   ·rcases fD h with z | ⟨_,z⟩
    ·exact absurd rfl (sc.cell _ z)
    ·exact z
   ·rcases fD h with z | ⟨z,_⟩
    ·exact z
    ·cases z
  obtain⟨c,hc,_⟩:=sc.Jf ok mem
  exact⟨c,hc⟩
 ·intro b hb
  obtain⟨f0,f1,f2,f3,f4,f5⟩:=hfp b hb
  exact⟨Nat.ne_of_lt (hfl b hb),fun x c e=>f4 x c (sc.look ok e).1⟩
 ·intro b o e hb
  rcases(hfp b hb).2.2.2.1 with z | z
  ·exact ok.vm b o e z
  ·exact absurd (Nat.lt_of_lt_of_le (Heap.lt_size e) (Nat.le_trans ok.tD z)) (Nat.lt_irrefl _)
 ·intro b hb hfs
  obtain⟨f0,f1,f2,_⟩:=hfp b hb
  rcases List.mem_cons.mp (I.oZ b hfs) with z | z
  ·exact f1 z
  ·exact f2 z
 ·refine⟨_,hn,fun i x v e1 e2 e3=>?_⟩
  have e1':(own++bX)[i]? =some x:=e1
  have e2':(List.replicate own.length none++cS.map fun j=>(σ[j]?).join)[i]? =some (some v):=e2
  by_cases hi:i<own.length
  ·rw[List.getElem?_append_left (by simpa using hi)] at e2'
   rw[List.getElem?_replicate] at e2'
   split at e2'<;>cases e2'
  ·rw[List.getElem?_append_right (by simp;omega),List.length_replicate] at e2'
   rw[List.getElem?_append_right (by omega)] at e1'
   rw[List.getElem?_map] at e2'
   cases ej:cS[i-own.length]? with
   | none=>rw[ej] at e2';cases e2'
   | some j=>
    rw[ej] at e2'
    have C_:(σ[j]?).join=some v:=by simpa using e2'
    have e4:σ[j]? =some (some v):=by
     cases q:σ[j]? with
     | none=>rw[q] at C_;cases C_
     | some o=>rw[q] at C_;simpa using C_
    have e5:=(sc.ZF _ j ej).trans e1'
    obtain⟨hm,hlk⟩:=sc.ZG x (List.mem_of_getElem? e1')
    obtain⟨m,hnL,hl⟩:=I.loc
    have hv:Bz X.env.scope x:=by
     rcases sc.free (x,.free) hm rfl with z | z
     ·exact .inr (.inl z)
     ·exact .inr (.inr z)
    obtain⟨u,r,lk⟩:=hl j x v e5 e4 hv
    refine⟨u,r,.inr ?_⟩
    obtain⟨c,hc,hc'⟩:=sc.Jf ok hm
    have LK:h₄.IsCell c (some u):=by
     rcases lk with⟨z,_⟩ | ⟨_,c',hx,⟨o,ho,hd⟩⟩
     ·exfalso
      have z':X.env.scope.names.lookup x=some .local:=z
      rcases sc.free (x,.free) hm rfl with q | q
      ·rw[show X.env.scope.names.lookup x=some .cell from q] at z';cases z'
      ·rw[show X.env.scope.names.lookup x=some .free from q] at z';cases z'
     ·rw[hc'] at hx;cases hx
      exact⟨o,k _ o ho,hd⟩
    refine⟨?_,c,hc,LK⟩
    have e3':Bz (relabel scope X.env) x:=e3
    rcases e3' with z | z | z
    ·exfalso
     rcases fD z with q | ⟨q,_⟩
     ·have:=sc.names _ q rfl
      rw[show scope.names.lookup x=some .local from this] at hlk
      cases hlk
     ·cases q
    ·exact .inl z
    ·exact .inr z
 ·intro x c e
  obtain⟨v,o,ho,hd⟩:=I.cell x c (sc.look ok e).1
  exact⟨v,o,k _ o ho,hd⟩
 ·intro x c e
  exact I.hV x c (sc.look ok e).1
 ·show(List.replicate own.length none++cS.map fun j=>(σ[j]?).join).length=(own++bX).length
  simp[sc.ZE]
end
theorem pX {prog:Program} {w:World} {A:Around} {R:Result→Shared→Prop} {s:Shared} {elt target iter:Expr} {ifs:List Expr} {scope:Scope} {pos:Pos} {it acc:Value} {env:Env} (I:Nat→Shared→Prop)
  (turn:∀n s,I n s→wpAny (model prog w) A (pyNext it) (fun r s₁=>match r with
   | none=>R (.ok .next) s₁
   | some v=>wpAny (model prog w) A (letOwnedTupleGo target it v) (fun _ s₁'=>wpAny (model prog w) A (assign target env v) (fun _ s₂=>
     wpAny (model prog w) A (forIn ifs true fun c r=>if r=true then do let ok ←isTrue c env (eval c env);pure (ForInStep.yield ok) else pure (ForInStep.yield r)) (fun ok s₃=>
      if ok=true then wpAny (model prog w) A (eval elt env) (fun x s₄=>
       wpAny (model prog w) A (call (.builtin "list.append") [acc,x]) (fun _ s₅=>∃m,m<n∧I m s₅) (fun _ _=>False) s₄) (fun _ _=>False) s₃
      else ∃m,m<n∧I m s₃) (fun _ _=>False) s₂) (fun _ _=>False) s₁') (fun _ _=>False) s₁) (fun _ _=>False) s)
  (n:Nat) (h:I n s):
  codeAny (model prog w) A (.compLoop (.ListComp elt [⟨target,iter,ifs,0⟩] scope pos) 0 it acc env) R s:=by
 refine codeAny_loop rfl I (fun n s hI=>?_) n h
 show wpAny _ A ((compTurn (.ListComp elt [⟨target,iter,ifs,0⟩] scope pos) 0 it acc env).onRaise (fun x=>do noteFrame x env;theTreesLotGoes x)) _ _ s
 refine wpAny_noted ?_
 rw[compTurn_list]
 refine wpAny_bind (wpAny_standAt (wpAny_bind (wpAny_mono (turn n s hI) (fun r s₁ h₁=>?_) fun _ _ h'=>h'.elim)))
 cases r with
 | none=>exact wpAny_pure h₁
 | some v=>
  refine wpAny_bind (wpAny_mono h₁ (fun _ s₁' h₁'=>?_) fun _ _ h'=>h'.elim)
  refine wpAny_bind (wpAny_mono h₁' (fun _ s₂ h₂=>wpAny_bind (wpAny_mono h₂ (fun ok s₃ h₃=>?_) fun _ _ h'=>h'.elim)) fun _ _ h'=>h'.elim)
  cases ok with
  | false=>exact wpAny_pure ⟨rfl,h₃⟩
  | true=>
   exact wpAny_bind (wpAny_bind (wpAny_mono h₃ (fun x s₄ h₄=>wpAny_bind (wpAny_mono h₄ (fun _ s₅ h₅=>wpAny_pure (wpAny_pure ⟨rfl,h₅⟩)) fun _ _ h'=>h'.elim)) fun _ _ h'=>h'.elim))
def pY (X:Cx) (ifs:List Expr) (t:TT):Prop:=
 ∀(pins:List (Addr×Obj)) (s:Shared) (σ:St) (H:Hp) (Q:Bool→Hp→Prop),Inv X pins σ H s→t σ H Q→
  wpAny (model X.prog X.w) X.A (forIn ifs true fun c r=>if r=true then do let ok ←isTrue c X.env (eval c X.env);pure (ForInStep.yield ok) else pure (ForInStep.yield r)) (TP X pins σ Q) X.xe s
def Po:TT:=fun _ H Q=>Q true H
theorem gQ {X:Cx}:pY X [] Po:=fun _ _ _ H _ I h=>wpAny_tests_nil ⟨H,I,h⟩
theorem GQ {X:Cx} {c:Expr} {t:TT} (h:PT X c t):pY X [c] t:=fun pins s σ H Q I hq=>wpAny_tests_one (h pins s σ H Q I hq)
def pZ (J:It) (g:TG) (tt:TT) (te:TE) (D:Addr) (σ:St) (H:Hp) (R:Hp→Prop):Prop:=
 ∃W:Nat→Nat→St→Hp→Prop,(∃m,W 0 m σ H)∧∀i m σ H,W i m σ H→(J.stop i H∧R H)∨(J.go i H∧∃N:St→Hp→Prop,(∀σ' H',N σ' H'→∃m',m'<m∧W (i+1) m' σ' H')∧
  ∀x H',J.BE i H x H'→g x σ H' fun σ2 H2=>tt σ2 H2 fun b H3=>if b=true then te σ2 H3 fun y H4=>∃ys,H4 D=some (.lst ys)∧ys.length<sizeLine∧N σ2 (upd H4 D (.lst (ys++[y]))) else N σ2 H3)
section
variable {X:Cx} {scope:Scope} {own bX:List Str} {cS:List Nat} {elt tg iter:Expr} {ifs:List Expr} {pos:Pos} {g:TG} {tt:TT} {te:TE}
theorem uF {pins:List (Addr×Obj)} {σ:St} {H:Hp} {s:Shared} {J:It} {fp:List Addr} {it:Addr} {tn:Nat→Heap→Prop} {R:Addr→Hp→Prop} {RR:Value→Addr→Result→Shared→Prop} {E:Value→Shared→Prop}
  (sc:bO X scope own bX cS) (hc:X.calm=true)
  (hg:∀C s₃ H₃ fp,PG (gw X own bX scope C s₃ H₃ fp) tg g) (ht:∀C s₃ H₃ fp,pY (gw X own bX scope C s₃ H₃ fp) ifs tt) (he:∀C s₃ H₃ fp,PE (gw X own bX scope C s₃ H₃ fp) elt te)
  (I:Inv X pins σ H s) (T:Turn X.prog X.w X.K tg J fp it tn) (st:tn 0 s.heap) (hfp:∀b∈fp,iO X pins H b)
  (h:∀D,H D=none→pZ J g tt te D (uE own cS σ) (upd H D (.lst [])) (R D))
  (hRR:∀D C H' s' m,Inv X pins σ H' s'→s.heap.objs.size≤C→s'.heap.Ns C m→H' C=none→R D H'→RR (.ref D) C (.ok .next) s'):
  wpAny (model X.prog X.w) X.A (newList []) (fun acc s₃=>wpAny (model X.prog X.w) X.A (newFunctionEnv scope X.env.globals (eE X.env scope.names []) [] X.env.qual none .none (some X.env)) (fun cenv s₄=>
   codeAny (model X.prog X.w) X.A (.compStart (.ListComp elt [⟨tg,iter,ifs,0⟩] scope pos) 0 (.ref it) acc {cenv with scope:=relabel scope X.env}) (RR acc cenv.locals) s₄) E s₃) E s:=by
 refine wpAny_newObj_type (wpAny_newFunctionEnv sc.cell (by intro y hy;simp at hy) (fun h₁ hns₁ hsb₁=>?_) sc.kind)
 dsimp only at hns₁ hsb₁ ⊢
 have hD:=I.fresh
 have I3:Inv X pins σ (upd H s.heap.objs.size (.lst [])) {s with heap:=s.heap.push {cls:=.type "list",dict:=none,data:=.seq ([]:List Value).toArray}}:=I.CT (its:=[]) (t':=s.toks) .nil (Nat.zero_le _)
 have hsz:(s.heap.push {cls:=.type "list",dict:=none,data:=.seq ([]:List Value).toArray}).objs.size=s.heap.objs.size+1:=Heap.size_push ..
 generalize hs3:({s with heap:=s.heap.push {cls:=.type "list",dict:=none,data:=.seq ([]:List Value).toArray}}:Shared)=s₃ at I3
 have hh3:s.heap.push {cls:=.type "list",dict:=none,data:=.seq ([]:List Value).toArray}=s₃.heap:=by rw[←hs3]
 rw[hh3] at hns₁ hsb₁ hsz ⊢
 have hfl:∀b∈fp,b<s.heap.objs.size:=fun b hb=>by
  obtain⟨o,e,_⟩:=T.obj 0 _ st b hb
  exact Heap.lt_size e
 have my:∀b∈fp,iO X pins (upd H s.heap.objs.size (.lst [])) b:=fun b hb=>by
  obtain⟨f0,f⟩:=hfp b hb
  exact⟨by rw[bz (Nat.ne_of_lt (hfl b hb))];exact f0,f⟩
 have GR:∀b∈fp,b<s₃.heap.objs.size:=fun b hb=>by rw[hsz];exact Nat.lt_succ_of_lt (hfl b hb)
 have k4:∀b o,s₃.heap.get? b=some o→h₁.get? b=some o:=fun b o e=>(hsb₁.2 b (Nat.ne_of_lt (Heap.lt_size e))).trans (Heap.get?_push_of_some _ e)
 have k3:∀b o,s.heap.get? b=some o→s₃.heap.get? b=some o:=fun b o e=>by rw[←hh3];exact Heap.get?_push_of_some _ e
 have hnone:(fun x:Str=>List.lookup x ([]:List (Str×Value)).reverse)=fun _=>none:=by funext x;rfl
 have C0:h₁.Ns s₃.heap.objs.size fun _=>none:=by
  have q:=hns₁
  first
   | exact q
   | (rw[hnone] at q;exact q)
 have I4:=I3.block (own:=own) (tk:=s.toks+([]:List (Str×Value)).length) sc my GR k4 C0
 have yA:tn 0 h₁:=T.keep _ _ _ st fun b hb o e=>k4 b o (k3 b o e)
 generalize hX:gw X own bX scope s₃.heap.objs.size s₃ (upd H s.heap.objs.size (.lst [])) fp=X' at I4
 have BQ:X'.prog=X.prog:=by rw[←hX];rfl
 have BR:X'.w=X.w:=by rw[←hX];rfl
 have LL:X'.K=X.K:=by rw[←hX];rfl
 have Jg:X'.A=X.A:=by rw[←hX];rfl
 have EK:X'.calm=true:=by rw[←hX];exact hc
 have LM:X'.xe=fun _ _=>False:=by rw[←hX];rfl
 have Jh:X'.env=compEnvC scope (eE X.env scope.names []) s₃.heap.objs.size X.env:=by rw[←hX];rfl
 have hg':PG X' tg g:=by rw[←hX];exact hg _ _ _ _
 have ht':pY X' ifs tt:=by rw[←hX];exact ht _ _ _ _
 have he':PE X' elt te:=by rw[←hX];exact he _ _ _ _
 have LN:∀{H':Hp} {s':Shared} {σ':St},Inv X' [] σ' H' s'→Inv X pins σ H' s'∧(∃m,s'.heap.Ns s₃.heap.objs.size m)∧H' s₃.heap.objs.size=none:=by
  intro H' s' σ' I'
  subst hX
  refine⟨I3.call' (ch:=fp) I'.os I'.base I'.hok I'.bare fun b hb=>?_,let ⟨m,hn,_⟩:=I'.loc;⟨m,hn⟩,I'.free⟩
  obtain⟨f0,f1,f2,f3,f4,f5⟩:=my b hb
  exact⟨f3,f1,f4,f5⟩
 have stat:∀{H':Hp},(∀b∈fp,H' b=none)→∀b∈fp,iO X' [] H' b:=by
  intro H' hn b hb
  subst hX
  obtain⟨a1,a2⟩:=I4.ok.Ee b hb
  exact⟨hn b hb,a1,I4.ok.tS b hb,.inl hb,a2,fun p hp=>by cases hp⟩
 obtain⟨W,⟨m0,w0⟩,turn⟩:=h s.heap.objs.size hD
 have loop:codeAny (model X.prog X.w) X.A (.compLoop (.ListComp elt [⟨tg,iter,ifs,0⟩] scope pos) 0 (.ref it) (.ref s.heap.objs.size) X'.env) (RR (.ref s.heap.objs.size) s₃.heap.objs.size)
   {s₃ with heap:=h₁,toks:=s.toks+([]:List (Str×Value)).length}:=by
  refine pX (fun n s'=>∃i σ' H',Inv X' [] σ' H' s'∧tn i s'.heap∧(∀b∈fp,H' b=none)∧W i n σ' H') ?_ m0 ⟨0,_,_,I4,yA,fun b hb=>(my b hb).1,w0⟩
  rintro n s5 ⟨i,σ5,H5,I5,uy,wa,w5⟩
  rw[←BQ,←BR,←Jg]
  have uG:∀{α:Type} {t:Sem α} {Q:α→Shared→Prop} {s:Shared},wpAny (model X'.prog X'.w) X'.A t Q X'.xe s→wpAny (model X'.prog X'.w) X'.A t Q (fun _ _=>False) s:=fun h=>by rw[LM] at h;exact h
  have T':Turn X'.prog X'.w X'.K tg J fp it tn:=by rw[BQ,BR,LL];exact T
  rcases turn i n σ5 H5 w5 with⟨stop,q⟩ | ⟨go,N,hN,step⟩
  ·refine bf (T'.done X' rfl rfl rfl EK i [] s5 σ5 H5 _ I5 (stat wa) uy stop) fun r s6 ⟨hr,I6⟩=>?_
   subst hr
   obtain⟨J1,⟨m,J2⟩,J3⟩:=LN I6
   exact hRR _ _ H5 s6 m J1 (by rw[hsz];exact Nat.le_succ _) J2 J3 q
  ·refine bf (T'.item X' rfl rfl rfl EK i [] s5 σ5 H5 _ I5 (stat wa) uy go) fun r s6 ⟨u,hr,h6⟩=>?_
   subst hr
   refine bf h6 fun _ s7 ⟨x,H7,I7,r7,y7,yB,Ji⟩=>?_
   have LO:=I7.pinned (stat Ji) (T'.obj _ _ yB)
   have again:∀{s9:Shared} {σ9:St} {H9:Hp},Inv X' ([]++o6 fp s7.heap) σ9 H9 s9→N σ9 H9→∃m,m<n∧∃i σ' H',Inv X' [] σ' H' s9∧tn i s9.heap∧(∀b∈fp,H' b=none)∧W i m σ' H':=fun {s9 σ9 H9} I9 n9=>by
    obtain⟨m',hm,w9⟩:=hN σ9 H9 n9
    refine⟨m',hm,i+1,σ9,H9,I9.mq,T'.keep _ _ _ yB fun b hb o e=>(I9.pin (b,o) (List.mem_append_right _ (List.mem_append_right _ (h_ hb e)))).1,fun b hb=>?_,w9⟩
    obtain⟨o,e,d⟩:=T'.obj _ _ yB b hb
    exact(I9.pin (b,o) (List.mem_append_right _ (List.mem_append_right _ (h_ hb e)))).2.1
   refine bf (uG (hg' _ s7 σ5 H7 x u _ LO r7 (step x H7 y7))) fun _ s8 ⟨σ8,H8,I8,q8⟩=>?_
   refine bf (uG (ht' _ s8 σ8 H8 _ I8 q8)) fun b s9 ⟨H9,I9,q9⟩=>?_
   cases b with
   | false=>exact again I9 (by simpa using q9)
   | true=>
    rw[if_pos rfl] at q9
    refine bf (uG (he' _ s9 σ8 H9 _ I9 q9)) fun y tF ⟨v,BS,LP,r10,dF⟩=>?_
    obtain⟨ys,e10,z10,n10⟩:=dF
    refine bf (uG (dg _ tF σ8 BS (.ref s.heap.objs.size) [v] (.ref s.heap.objs.size) [y] (fun _ H'=>H'=upd BS s.heap.objs.size (.lst (ys++[v]))) LP rfl (.cons r10 .nil) ⟨_,ys,v,rfl,rfl,e10,z10,rfl⟩)) fun u yC ⟨v',Q_,LQ,_,BU⟩=>?_
    subst BU
    exact again LQ n10
 rw[Jh] at loop
 have e4:({s with heap:=h₁,toks:=s.toks+([]:List (Str×Value)).length}:Shared)={s₃ with heap:=h₁,toks:=s.toks+([]:List (Str×Value)).length}:=by rw[←hs3]
 rw[e4]
 exact codeAny_compStart_list loop (T.self _ 0 _ _ _ yA loop)
end
def C1 (own:List Str) (cS:List Nat) (wi:TI) (g:TG) (tt:TT) (te:TE):TE:=fun σ H Q=>wi σ H fun J H1=>∀D,H1 D=none→pZ J g tt te D (uE own cS σ) (upd H1 D (.lst [])) fun H'=>Q (.ref D) H'
section
variable {X:Cx} {scope:Scope} {own bX:List Str} {cS:List Nat} {elt tg iter:Expr} {ifs:List Expr} {pos:Pos} {wi:TI} {g:TG} {tt:TT} {te:TE}
theorem pj (sc:bO X scope own bX cS) (hc:X.calm=true) (hi:PI X tg iter wi)
  (hg:∀C s₃ H₃ fp,PG (gw X own bX scope C s₃ H₃ fp) tg g) (ht:∀C s₃ H₃ fp,pY (gw X own bX scope C s₃ H₃ fp) ifs tt) (he:∀C s₃ H₃ fp,PE (gw X own bX scope C s₃ H₃ fp) elt te)
  (hs:∀x,foldedSetIterable iter X.env x=pure x:=by intro _;rfl):PE X (.ListComp elt [⟨tg,iter,ifs,0⟩] scope pos) (C1 own cS wi g tt te):=by
 intro pins s σ H Q I h
 rw[eval_ListComp]
 refine wpAny_comprehension_free (use:=none) rfl hs (jg (sc.cells I.ok)) sc.kind sc.names (bf (hi pins s σ H _ I h) fun v s1 h1=>bf h1 fun itv s2 h2=>?_)
 obtain⟨it,fp,tn,J,H2,e,I2,T,st2,f2,q⟩:=h2
 subst e
 refine uF (RR:=fun acc C=>compPost (model X.prog X.w) X.A X.xe none (EP X pins σ Q) acc C) (R:=fun D H'=>Q (.ref D) H') sc hc hg ht he I2 T st2 f2 q ?_
 intro D C H' s' m I' hC hn hf hq
 refine⟨m,hn,fun h' sb=>?_⟩
 obtain⟨f0,f1,f2,f3,f4,f5⟩:=I2.oR (H':=H') hC hf
 exact⟨.ref D,H',I'.turned (t':=s'.toks) (it:=C) (fun b o hb e=>(sb.2 b hb).trans e) f0 f1 f3 f4 f5,rfl,hq⟩
theorem p_ {i:Nat} {y:Str} {py spos:Pos} (sc:bO X scope own bX cS) (hc:X.calm=true) (hi:PI X tg iter wi)
  (hg:∀C s₃ H₃ fp,PG (gw X own bX scope C s₃ H₃ fp) tg g) (ht:∀C s₃ H₃ fp,pY (gw X own bX scope C s₃ H₃ fp) ifs tt) (he:∀C s₃ H₃ fp,PE (gw X own bX scope C s₃ H₃ fp) elt te)
  (hN:X.N.Nodup) (hi':X.N[i]? =some y) (hx:X.env.scope.names.lookup y=some .local)
  (hsw:swapsWith (.ListComp elt [⟨tg,iter,ifs,0⟩] scope pos) (some (.Name y py)) spos.line X.env=pure true:=by rfl)
  (hs:∀x,foldedSetIterable iter X.env x=pure x:=by intro _;rfl):PS X (.Assign [.Name y py] (.ListComp elt [⟨tg,iter,ifs,0⟩] scope pos) spos) (pU (C1 own cS wi g tt te) (c_ i)):=by
 intro pins s σ H D I h
 rw[exec_Assign_Name_used _ _ _ _ hsw]
 refine wpAny_bind (wpAny_standAt (wpAny_bind ?_))
 show wpAny _ X.A (do let _ ←comprehension (.ListComp elt [⟨tg,iter,ifs,0⟩] scope pos) scope X.env _ (newList []) false (eval iter X.env) (some (assign (.Name y py) X.env))) _ _ s
 refine wpAny_bind (wpAny_mono (wpAny_comprehension_free (use:=some (assign (.Name y py) X.env)) (Q:=fun _ s'=>SP X pins D .next s') rfl hs (jg (sc.cells I.ok)) sc.kind sc.names
  (bf (hi pins s σ H _ I h) fun v s1 h1=>bf h1 fun itv s2 h2=>?_)) (fun _ s' hq=>wpAny_pure (wpAny_pure hq)) fun _ _ e=>e)
 obtain⟨it,fp,tn,J,H2,e,I2,T,st2,f2,q⟩:=h2
 subst e
 refine uF (RR:=fun acc C=>compPost (model X.prog X.w) X.A X.xe (some (assign (.Name y py) X.env)) (fun _ s'=>SP X pins D .next s') acc C) (R:=fun E H'=>D.nx (σ.set i (some (.ref E))) H') sc hc hg ht he I2 T st2 f2 q ?_
 intro E C H' s' m I' hC hn hf hq
 show wpAny _ X.A (assign (.Name y py) X.env (.ref E)) _ _ _
 obtain⟨f0,f1,f2,f3,f4,f5⟩:=I2.oR (H':=H') hC hf
 refine wpAny_assign_Name (qP I' hN hi' (.inl hx) (v:=.ref E) (u:=.ref E) rfl (fun s3 I3 ⟨a,sb,ha⟩=>?_) (.inr hx))
 have LR:C≠a:=by
  rcases ha with z | z
  ·rw[z];exact f1
  ·exact(f4 y a z).symm
 refine⟨m,hn.sameBut sb LR,fun h' LS=>?_⟩
 exact⟨_,H',I3.turned (t':=s3.toks) (it:=C) (fun b o hb e=>(LS.2 b hb).trans e) f0 f1 f3 f4 f5,hq⟩
end
theorem p3 {lo:Int} {n:Nat} {g:TG} {tt:TT} {te:TE} {D:Addr} {σ:St} {H:Hp} {R:Hp→Prop} (Pv:Nat→St→Hp→Prop) (h0:Pv 0 σ H)
  (hs:∀i σ H,i<n→Pv i σ H→g (.int (lo+i)) σ H fun σ2 H2=>tt σ2 H2 fun b H3=>if b=true then te σ2 H3 fun y H4=>∃ys,H4 D=some (.lst ys)∧ys.length<sizeLine∧Pv (i+1) σ2 (upd H4 D (.lst (ys++[y]))) else Pv (i+1) σ2 H3)
  (hd:∀σ H,Pv n σ H→R H):pZ (v7 lo n) g tt te D σ H R:=by
 refine⟨fun i m σ H=>m=n-i∧i≤n∧Pv i σ H,⟨n,by simp,Nat.zero_le _,h0⟩,?_⟩
 rintro i m σ H ⟨rfl,hi,p⟩
 by_cases hlt:i<n
 ·refine .inr ⟨hlt,Pv (i+1),fun σ' H' p'=>⟨n-(i+1),by omega,rfl,hlt,p'⟩,fun x H' y=>?_⟩
  obtain⟨e,y⟩:=y
  subst e y
  exact hs i σ _ hlt p
 ·have e:i=n:=by omega
  subst e
  exact .inl ⟨Nat.le_refl _,hd σ H p⟩
theorem qU {K:PySem.W.Frag} {a:Addr} {xs:List V} {g:TG} {tt:TT} {te:TE} {D:Addr} {σ:St} {H:Hp} {R:Hp→Prop} (Pv:Nat→St→Hp→Prop) (h0:Pv 0 σ H) (hl:∀i σ H,i≤xs.length→Pv i σ H→cf K H a xs)
  (hs:∀i x σ H,xs[i]? =some x→Pv i σ H→g x σ H fun σ2 H2=>tt σ2 H2 fun b H3=>if b=true then te σ2 H3 fun y H4=>∃ys,H4 D=some (.lst ys)∧ys.length<sizeLine∧Pv (i+1) σ2 (upd H4 D (.lst (ys++[y]))) else Pv (i+1) σ2 H3)
  (hd:∀σ H,Pv xs.length σ H→R H):pZ (BF K a) g tt te D σ H R:=by
 refine⟨fun i m σ H=>m=xs.length-i∧i≤xs.length∧Pv i σ H,⟨xs.length,by simp,Nat.zero_le _,h0⟩,?_⟩
 rintro i m σ H ⟨rfl,hi,p⟩
 have q:=hl i σ H hi p
 by_cases hlt:i<xs.length
 ·refine .inr ⟨⟨xs,xs[i],q,by simp[hlt]⟩,Pv (i+1),fun σ' H' p'=>⟨xs.length-(i+1),by omega,rfl,hlt,p'⟩,fun x H' y=>?_⟩
  obtain⟨e,y⟩:=y
  subst e
  exact hs i x σ _ (y xs q) p
 ·have e:i=xs.length:=by omega
  subst e
  exact .inl ⟨⟨xs,q,Nat.le_refl _⟩,hd σ H p⟩
theorem yD {K:PySem.W.Frag} {a:Addr} {xs:List V} {g:TG} {tt:TT} {te:TE} {D:Addr} {σ:St} {H:Hp} {R:Hp→Prop} (Pv:Nat→St→Hp→Prop) (h0:Pv 0 σ H) (hl:∀i σ H,i≤xs.length→Pv i σ H→cp K H a xs)
  (hs:∀i x σ H,xs[i]? =some x→Pv i σ H→g x σ H fun σ2 H2=>tt σ2 H2 fun b H3=>if b=true then te σ2 H3 fun y H4=>∃ys,H4 D=some (.lst ys)∧ys.length<sizeLine∧Pv (i+1) σ2 (upd H4 D (.lst (ys++[y]))) else Pv (i+1) σ2 H3)
  (hd:∀σ H,Pv xs.length σ H→R H):pZ (Lh K a) g tt te D σ H R:=by
 refine⟨fun i m σ H=>m=xs.length-i∧i≤xs.length∧Pv i σ H,⟨xs.length,by simp,Nat.zero_le _,h0⟩,?_⟩
 rintro i m σ H ⟨rfl,hi,p⟩
 have q:=hl i σ H hi p
 by_cases hlt:i<xs.length
 ·refine .inr ⟨⟨xs,xs[i],q,by simp[hlt]⟩,Pv (i+1),fun σ' H' p'=>⟨xs.length-(i+1),by omega,rfl,hlt,p'⟩,fun x H' y=>?_⟩
  obtain⟨e,y⟩:=y
  subst e
  exact hs i x σ _ (y xs q) p
 ·have e:i=xs.length:=by omega
  subst e
  exact .inl ⟨⟨xs,q,Nat.le_refl _⟩,hd σ H p⟩
section
variable {X:Cx}
def Pp (i j:Int):Prop:=0<j∧j.natAbs.log2<9000
theorem mz:cW X (binaryOp .FloorDiv) (rI Pp fun i j=>.int (i / j)):=IY fun i j _ _ _ _ _ hc q=>by
 obtain⟨h0,h1⟩:=hc
 refine floordiv_int (by omega) ?_ (.inl (PyProof.noPylong_of_log2 h1))
 rw[Int.fdiv_eq_ediv_of_nonneg _ (by omega)]
 exact q
theorem BV:cW X (binaryOp .Add) (fun x y H Q=>∃(a b:Addr) (ys:List V),x=.ref a∧y=.ref b∧cp X.K H a []∧cp X.K H b ys∧Q (.ref b) H):=by
 intro pins s σ H x y v u Q I rx ry h
 obtain⟨a,b,ys,rfl,rfl,ha,hb,q⟩:=h
 cases rx
 cases ry
 obtain⟨its,r1,p1,_⟩:=I.tuple ha
 obtain⟨its2,r2,p2,_⟩:=I.tuple hb
 cases r1
 obtain⟨⟨cls,dd,data,sl⟩,ho,hc,n,hd⟩:=id p1
 obtain⟨⟨cls2,dd2,data2,sl2⟩,ho2,hc2,n2,hd2⟩:=id p2
 simp only at hc hd hc2 hd2
 subst hc hd hc2 hd2
 exact concat_meets ⟨_,ho,rfl⟩ ⟨_,ho2,rfl⟩ noFill_tuple_add seq_tuple_add PySem.F.slot_tuple_add PySem.F.entry_tuple_add (PySem.F.args_tuple_add_2 _ _)
  (tuple_addW0 a b #[] its2.toArray n n2 dd dd2 sl sl2 rfl) ⟨ho,ho2,⟨.ref b,H,I,rfl,q⟩⟩
def Jj (K:PySem.W.Frag):R2:=fun x y H Q=>∃(a b:Addr) (xs ys:List V),x=.ref a∧y=.ref b∧cp K H a xs∧cp K H b ys∧ys≠[]∧xs.length+ys.length≤sizeLine∧
 (xs=[]→Q (.ref b) H)∧(xs≠[]→∀p,H p=none→Q (.ref p) (upd H p (.tup (xs++ys))))
theorem KA:cW X (binaryOp .Add) (Jj X.K):=by
 intro pins s σ H x y v u Q I rx ry h
 obtain⟨a,b,xs,ys,rfl,rfl,ha,hb,hy,hz,q1,q2⟩:=h
 by_cases hx:xs=[]
 ·subst hx
  exact BV pins s σ H _ _ v u Q I rx ry ⟨a,b,ys,rfl,rfl,ha,hb,q1 rfl⟩
 ·exact BK pins s σ H _ _ v u Q I rx ry ⟨a,b,xs,ys,rfl,rfl,ha,hb,hx,hz,fun z=>absurd z hy,fun _=>q2 hx⟩
end
def wz (scope esc:Scope) (N own bX:List Str) (cS:List Nat):Bool:=
 scope.names.all (fun y=>y.2 != .cell)&&scope.kind == .function&&scope.names.all (fun y=>y.2 != .local||scope.names.lookup y.1 == some .local)
 &&scope.names.all (fun y=>y.2 != .free||(esc.names.lookup y.1 == some .cell||esc.names.lookup y.1 == some .free))
 &&cS.length == bX.length&&(List.range cS.length).all (fun i=>(cS[i]?).bind (fun j=>N[j]?) == bX[i]?)
 &&bX.all (fun x=>scope.names.contains (x,NameKind.free)&&scope.names.lookup x == some .free)
theorem bO.mk' {X:Cx} {scope esc:Scope} {N own bX:List Str} {cS:List Nat} (hs:X.env.scope=esc) (hN:X.N=N) (h:wz scope esc N own bX cS=true):bO X scope own bX cS:=by
 unfold wz at h
 simp only[Bool.and_eq_true,List.all_eq_true,bne_iff_ne,beq_iff_eq,Bool.or_eq_true,List.contains_iff_mem] at h
 obtain⟨⟨⟨⟨⟨⟨h1,h2⟩,h3⟩,h4⟩,h5⟩,h6⟩,h7⟩:=h
 refine⟨h1,h2,fun y hy hl=>?_,fun y hy hf=>?_,h5,fun i j e=>?_,fun x hx=>h7 x hx⟩
 ·rcases h3 y hy with z | z
  ·exact absurd hl z
  ·exact z
 ·rw[hs]
  rcases h4 y hy with z | z
  ·exact absurd hf z
  ·exact z
 ·have hi:i<cS.length:=(List.getElem?_eq_some_iff.mp e).1
  have q:=h6 i (List.mem_range.mpr hi)
  rw[e] at q
  rw[hN]
  exact q
def KB (d:Addr) (H H':Hp):Prop:=∀b o,H b=some o→b≠d→H' b=some o
theorem KB.refl (d:Addr) (H:Hp):KB d H H:=fun _ _ h _=>h
theorem KB.trans {d:Addr} {H H1 H2:Hp} (a:KB d H H1) (b:KB d H1 H2):KB d H H2:=fun c o h n=>b c o (a c o h n) n
theorem KB.write {d:Addr} {H:Hp} {o:HO}:KB d H (upd H d o):=fun b o h n=>by rw[bz n];exact h
theorem Same.kb {d:Addr} {H H':Hp} (s:Same H H'):KB d H H':=fun b o h _=>s b o h
theorem Same.new {H:Hp} {p:Addr} {o:HO} (h:H p=none):Same H (upd H p o):=fun b u e=>by rw[bz (bj e h)];exact e
theorem Same.kbn {d:Addr} {H H1 H2:Hp} (s:Same H H1) (h:H d=none) (k:KB d H1 H2):Same H H2:=fun b o e=>k b o (s b o e) (bj e h)
theorem KB.seq {K:PySem.W.Frag} {d:Addr} {H H':Hp} {a:Addr} {xs:List V} (e:KB d H H') (n:a≠d) (h:cf K H a xs):cf K H' a xs:=by
 rcases h with(h | ⟨o,h⟩) | h
 ·exact .inl (.inl (e _ _ h n))
 ·exact .inl (.inr ⟨o,e _ _ h n⟩)
 ·exact .inr h
theorem Same.iP {K:PySem.W.Frag} {H H':Hp} {a:Addr} {xs:List V} (e:Same H H') (h:cp K H a xs):cp K H' a xs:=by
 rcases h with(h | ⟨o,h⟩) | h
 ·exact .inl (.inl (e _ _ h))
 ·exact .inl (.inr ⟨o,e _ _ h⟩)
 ·exact .inr h
def eX (H H':Hp):Prop:=∀b xs,H b=some (.tup xs)→H' b=some (.tup xs)
theorem eX.trans {H H1 H2:Hp} (a:eX H H1) (b:eX H1 H2):eX H H2:=fun c o h=>b c o (a c o h)
theorem Same.kt {H H':Hp} (s:Same H H'):eX H H':=fun b xs h=>s b _ h
theorem eX.lst {H:Hp} {d:Addr} {xs:List V} {o:HO} (h:H d=some (.lst xs)):eX H (upd H d o):=fun b ys e=>by
 rw[bz (iM e h (fun z=>nomatch z))];exact e
theorem eX.kb {d:Addr} {xs:List V} {H H':Hp} (h:H d=some (.lst xs)) (k:KB d H H'):eX H H':=fun b ys e=>k b _ e (iM e h (fun z=>nomatch z))
theorem gx {α β:Type} {F:α→β→Prop}:∀{xs ys:List α} {us ws:List β},Paired F xs us→Paired F ys ws→Paired F (xs++ys) (us++ws)
 | _,_,_,_,.nil,s=>s
 | _,_,_,_,.cons r t,s=>.cons r (gx t s)
end L2
namespace L2
open PySem
theorem cO:bootBuiltins "len"=some (.builtin "len"):=by decide+kernel
theorem EL:bootBuiltins "min"=some (.builtin "min"):=by decide+kernel
theorem gy:bootBuiltins "isinstance"=some (.builtin "isinstance"):=by decide+kernel
theorem wA:bootBuiltins "sorted"=some (.builtin "sorted"):=by decide+kernel
theorem LU:bootBuiltins "all"=some (.builtin "all"):=by decide+kernel
theorem KC:bootBuiltins "list"=some (.type "list"):=by decide+kernel
theorem yE:bootBuiltins "tuple"=some (.type "tuple"):=by decide+kernel
theorem pA:bootBuiltins "int"=some (.type "int"):=by decide+kernel
theorem EM:bootBuiltins "str"=some (.type "str"):=by decide+kernel
theorem LV:bootBuiltins "set"=some (.type "set"):=by decide+kernel
theorem AB:bootBuiltins "reversed"=some (.type "reversed"):=by decide+kernel
end L2
namespace L2
open PySem PySem.Spec PyProof.Rows
def S9 (K:PySem.W.Frag):List V→Hp→VK→Prop:=fun xs H Q=>∃x n,xs=[x]∧GC K x H n∧Q (.int n) H
section
variable {X:Cx}
theorem bP (K:PySem.W.Frag) (hK:X.K=K:=by rfl):fO X (.builtin "len") (S9 K):=by subst hK;exact GD
theorem bF (K:PySem.W.Frag) (hK:X.K=K:=by rfl):BM X (GH K):=by subst hK;exact Ks
theorem aS (K:PySem.W.Frag) (hK:X.K=K:=by rfl):BM X (Ly K):=by subst hK;exact Lz
theorem GS (K:PySem.W.Frag) (hK:X.K=K:=by rfl):Jb X (LB K):=by subst hK;exact Kt
theorem yF (K:PySem.W.Frag) (hK:X.K=K:=by rfl):cW X (binaryOp .Add) (Jj K):=by subst hK;exact KA
theorem pB (K:PySem.W.Frag) (hK:X.K=K:=by rfl):cW X (compareOp .In) (Jc K false):=by subst hK;exact Ey
theorem EN (K:PySem.W.Frag) (hK:X.K=K:=by rfl):cW X (compareOp .NotIn) (Jc K true):=by subst hK;exact yq
def LW (_ j:Int):Prop:=0<j
theorem cpos {i j:Int} (h:0<j):LW i j:=h
theorem cH:cW X (binaryOp .Mod) (rI LW fun i j=>.int (i % j)):=Ll
end
end L2
namespace L2
theorem yG {t u:TS} {D:Ends} {σ:St} {H:Hp} (Pv:St→Hp→Prop) (h1:∀σ H,Pv σ H→u D σ H) (h2:(∀σ H,Pv σ H→u D σ H)→t {D with nx:=u D} σ H):tV t u D σ H:=h2 h1
end L2
namespace L2
open PySem PySem.Spec PyProof.Rows
inductive Dt where
 | non | bl (b:Bool) | int (i:Int) | str (x:Str) | tup (xs:List Dt) | lst (xs:List Dt)
mutual
def Dt.beq:Dt→Dt→Bool
 | .non,.non=>true
 | .bl a,.bl b=>a == b
 | .bl a,.int b=>(if a then 1 else 0) == b
 | .int a,.bl b=>a == (if b then 1 else 0)
 | .int a,.int b=>a == b
 | .str a,.str b=>a == b
 | .tup xs,.tup ys=>Dt.dH xs ys
 | .lst xs,.lst ys=>Dt.dH xs ys
 | _,_=>false
def Dt.dH:List Dt→List Dt→Bool
 | [],[]=>true
 | x::xs,y::ys=>x.beq y&&Dt.dH xs ys
 | _,_=>false
end
mutual
def Dt.dep:Dt→Nat
 | .tup xs=>Dt.deps xs+1
 | .lst xs=>Dt.deps xs+1
 | _=>0
def Dt.deps:List Dt→Nat
 | []=>0
 | x::xs=>max x.dep (Dt.deps xs)
end
mutual
def aA (K:PySem.W.Frag) (H:Hp):V→Dt→Prop
 | x,.non=>x=.non
 | x,.bl b=>x=.bl b
 | x,.int i=>x=.int i
 | x,.str z=>x=.str z
 | x,.tup ds=>∃a xs,x=.ref a∧cp K H a xs∧aL K H xs ds
 | x,.lst ds=>∃a xs,x=.ref a∧cf K H a xs∧aL K H xs ds
def aL (K:PySem.W.Frag) (H:Hp):List V→List Dt→Prop
 | [],[]=>True
 | x::xs,d::ds=>aA K H x d∧aL K H xs ds
 | _,_=>False
end
theorem Dt.beq_refl (d:Dt):d.beq d=true:=by
 induction d using Dt.rec (motive_2:=fun xs=>Dt.dH xs xs=true) with
 | non=>simp[Dt.beq]
 | bl b=>simp[Dt.beq]
 | int b=>simp[Dt.beq]
 | str b=>simp[Dt.beq]
 | tup xs ih=>simp[Dt.beq,ih]
 | lst xs ih=>simp[Dt.beq,ih]
 | nil=>simp[Dt.dH]
 | cons x xs h1 h2=>simp[Dt.dH,h1,h2]
theorem aL.length {K:PySem.W.Frag} {H:Hp}:∀{xs:List V} {ds:List Dt},aL K H xs ds→xs.length=ds.length
 | [],[],_=>rfl
 | [],_::_,h=>by simp[aL] at h
 | _::_,[],h=>by simp[aL] at h
 | x::xs,d::ds,h=>by
  rw[aL] at h
  rw[List.length_cons,List.length_cons,aL.length h.2]
theorem aL.get {K:PySem.W.Frag} {H:Hp}:∀{xs:List V} {ds:List Dt} {i:Nat} {x:V},aL K H xs ds→xs[i]? =some x→∃d,ds[i]? =some d∧aA K H x d
 | [],_,_,_,_,e=>by simp at e
 | _::_,[],_,_,h,_=>by simp[aL] at h
 | x::xs,d::ds,0,y,h,e=>by
  rw[aL] at h
  simp at e;subst e
  exact⟨d,rfl,h.1⟩
 | x::xs,d::ds,i+1,y,h,e=>by
  rw[aL] at h
  obtain⟨d',h1,h2⟩:=aL.get (i:=i) (x:=y) h.2 (by simpa using e)
  exact⟨d',by simpa using h1,h2⟩
theorem Dt.gi {d:Dt}:∀{ds:List Dt},d∈ds→d.dep≤Dt.deps ds
 | [],h=>by cases h
 | x::xs,h=>by
  rw[Dt.deps]
  rcases List.mem_cons.mp h with rfl | h
  ·exact Nat.le_max_left ..
  ·exact Nat.le_trans (Dt.gi h) (Nat.le_max_right ..)
def xW (xs ys:List Dt) (j:Nat):Bool:=match xs[j]?,ys[j]? with
 | some x,some y=>x.beq y
 | _,_=>false
theorem vq (n:Nat) (e:Nat→Bool):(List.range (n+1)).all e=(e 0&&(List.range n).all fun j=>e (j+1)):=by
 rw[List.range_succ_eq_map,List.all_cons,List.all_map];rfl
theorem jI:∀(xs ys:List Dt),xs.length=ys.length→(List.range xs.length).all (xW xs ys)=Dt.dH xs ys
 | [],[],_=>by simp[Dt.dH]
 | x::xs,y::ys,h=>by
  have h':xs.length=ys.length:=by simpa using h
  rw[List.length_cons,vq,Dt.dH,←jI xs ys h']
  rfl
theorem jJ:∀(xs ys:List Dt),xs.length≠ys.length→Dt.dH xs ys=false
 | [],[],h=>absurd rfl h
 | [],_::_,_=>by simp[Dt.dH]
 | _::_,[],_=>by simp[Dt.dH]
 | x::xs,y::ys,h=>by
  have h':xs.length≠ys.length:=fun z=>h (by simp[z])
  rw[Dt.dH,jJ xs ys h',Bool.and_false]
section
variable {X:Cx} {pins:List (Addr×Obj)} {σ:St} {H:Hp} {s:Shared}
theorem pC {a:Addr} {xs ys:List V} (I:Inv X pins σ H s) (h1:cf X.K H a xs) (h2:cp X.K H a ys):False:=by
 obtain⟨its,_,p,_⟩:=I.list h1
 obtain⟨its2,_,q,_⟩:=I.tuple h2
 exact SeqAt.ne_of_list_tuple p.isList (show s.heap.IsTuple a its2.toArray from q) rfl
theorem vt (I:Inv X pins σ H s) (d:Dt):∀(x:V) (d':Dt),aA X.K H x d→aA X.K H x d'→d=d':=by
 induction d using Dt.rec (motive_2:=fun ds=>∀(xs:List V) (ds':List Dt),aL X.K H xs ds→aL X.K H xs ds'→ds=ds') with
 | non=>intro x d' h h';cases d'<;>simp_all [aA]
 | bl b=>intro x d' h h';cases d'<;>simp_all [aA]
 | int b=>intro x d' h h';cases d'<;>simp_all [aA]
 | str b=>intro x d' h h';cases d'<;>simp_all [aA]
 | tup ds ih=>
  intro x d' h h'
  rw[aA] at h
  obtain⟨a,xs,rfl,hq,hd⟩:=h
  cases d' with
  | tup ds'=>
   rw[aA] at h'
   obtain⟨a',xs',e,hq',hd'⟩:=h'
   cases e
   rw[I.vZ hq' hq] at hd'
   rw[ih xs ds' hd hd']
  | lst ds'=>
   rw[aA] at h'
   obtain⟨a',xs',e,hq',hd'⟩:=h'
   cases e
   exact(pC I hq' hq).elim
  | _=>simp[aA] at h'
 | lst ds ih=>
  intro x d' h h'
  rw[aA] at h
  obtain⟨a,xs,rfl,hq,hd⟩:=h
  cases d' with
  | lst ds'=>
   rw[aA] at h'
   obtain⟨a',xs',e,hq',hd'⟩:=h'
   cases e
   rw[I.tU hq' hq] at hd'
   rw[ih xs ds' hd hd']
  | tup ds'=>
   rw[aA] at h'
   obtain⟨a',xs',e,hq',hd'⟩:=h'
   cases e
   exact(pC I hq hq').elim
  | _=>simp[aA] at h'
 | nil=>
  rename_i xs ds' h h'
  cases xs with
  | nil=>cases ds' with
   | nil=>rfl
   | cons _ _=>simp[aL] at h'
  | cons _ _=>simp[aL] at h
 | cons d ds h1 h2=>
  rename_i xs ds' h h'
  cases xs with
  | nil=>simp[aL] at h
  | cons x xs=>cases ds' with
   | nil=>simp[aL] at h'
   | cons d' ds'=>
    rw[aL] at h h'
    rw[h1 x d' h.1 h'.1,h2 xs ds' h.2 h'.2]
theorem mB {A:Around} {xs ys:List V} {ds ds':List Dt} {its its2:List Value} (r1:Vals xs its) (r2:Vals ys its2) (h1:aL X.K H xs ds) (h2:aL X.K H ys ds')
  (ih:∀d∈ds,∀(d':Dt) (x y:V) (u v:Value),aA X.K H x d→aA X.K H y d'→RelV x u→RelV y v→SeqAt.EqAt A s u v (d.beq d')):
  ∀j (a:j<its.toArray.size) (b:j<its2.toArray.size),SeqAt.EqAt A s its.toArray[j] its2.toArray[j] (xW ds ds' j):=fun j a b=>by
 have a':j<its.length:=by simpa using a
 have b':j<its2.length:=by simpa using b
 have la:=r1.length
 have lb:=r2.length
 have ex:xs[j]? =some (xs[j]'(by omega)):=List.getElem?_eq_getElem (by omega)
 have ey:ys[j]? =some (ys[j]'(by omega)):=List.getElem?_eq_getElem (by omega)
 obtain⟨u,eu,ru⟩:=r1.get ex
 obtain⟨v,ev,rv⟩:=r2.get ey
 obtain⟨d,ed,hd⟩:=h1.get ex
 obtain⟨d',ed',hd'⟩:=h2.get ey
 have e1:its.toArray[j]=u:=by
  rw[List.getElem?_eq_getElem a'] at eu
  simpa using Option.some.inj eu
 have e2:its2.toArray[j]=v:=by
  rw[List.getElem?_eq_getElem b'] at ev
  simpa using Option.some.inj ev
 rw[e1,e2]
 have e3:xW ds ds' j=d.beq d':=by unfold xW;rw[ed,ed']
 rw[e3]
 exact ih d (List.mem_of_getElem? ed) d' _ _ u v hd hd' ru rv
theorem yH {A:Around} {a b:Addr} {xs ys:List V} {ds ds':List Dt} (I:Inv X pins σ H s) (q1:cf X.K H a xs) (q2:cf X.K H b ys) (h1:aL X.K H xs ds) (h2:aL X.K H ys ds') (hu:A.units<cLine)
  (ih:∀d∈ds,∀(d':Dt) (x y:V) (u v:Value),aA X.K H x d→aA X.K H y d'→RelV x u→RelV y v→SeqAt.EqAt A.in1 s u v (d.beq d')):SeqAt.RcAt A s (.ref a) (.ref b) (Dt.dH ds ds'):=by
 obtain⟨its,r1,p1,_⟩:=I.list q1
 obtain⟨its2,r2,p2,_⟩:=I.list q2
 have l1:=r1.length
 have l2:=r2.length
 have l3:=h1.length
 have l4:=h2.length
 by_cases hl:ds.length=ds'.length
 ·have:=SeqAt.RcAt.lists p1.isList p2.isList (by simp;omega) hu (mB r1 r2 h1 h2 ih)
  rw[show its.toArray.size=ds.length by simp;omega,jI ds ds' hl] at this
  exact this
 ·rw[jJ ds ds' hl]
  exact SeqAt.RcAt.lists_lengths p1.isList p2.isList (by simp;omega) hu
theorem qV {A:Around} {a b:Addr} {xs ys:List V} {ds ds':List Dt} (I:Inv X pins σ H s) (q1:cp X.K H a xs) (q2:cp X.K H b ys) (h1:aL X.K H xs ds) (h2:aL X.K H ys ds') (hu:A.units<cLine)
  (ih:∀d∈ds,∀(d':Dt) (x y:V) (u v:Value),aA X.K H x d→aA X.K H y d'→RelV x u→RelV y v→SeqAt.EqAt A.in1 s u v (d.beq d')):SeqAt.RcAt A s (.ref a) (.ref b) (Dt.dH ds ds'):=by
 obtain⟨its,r1,p1,_⟩:=I.tuple q1
 obtain⟨its2,r2,p2,_⟩:=I.tuple q2
 have l1:=r1.length
 have l2:=r2.length
 have l3:=h1.length
 have l4:=h2.length
 have:=SeqAt.RcAt.tuples (show s.heap.IsTuple a its.toArray from p1) (show s.heap.IsTuple b its2.toArray from p2) hu (mB r1 r2 h1 h2 ih)
 by_cases hl:ds.length=ds'.length
 ·rw[show min its.toArray.size its2.toArray.size=ds.length by simp;omega,jI ds ds' hl,show(its.toArray.size == its2.toArray.size)=true by simp;omega,Bool.and_true] at this
  exact this
 ·rw[show(its.toArray.size == its2.toArray.size)=false by simp;omega,Bool.and_false] at this
  rw[jJ ds ds' hl]
  exact this
theorem jK (I:Inv X pins σ H s) (d:Dt):∀(A:Around) (d':Dt) (x y:V) (u v:Value),A.units+d.dep<cLine→aA X.K H x d→aA X.K H y d'→RelV x u→RelV y v→SeqAt.EqAt A s u v (d.beq d'):=by
 have flat:∀{A:Around} {d d':Dt} {x y:V} {u v:Value},jZ x=true→jZ y=true→o9 x y=d.beq d'→RelV x u→RelV y v→SeqAt.EqAt A s u v (d.beq d'):=fun fx fy e ru rv=>e▸Eu ru rv fx fy
 have BW:∀{a:Addr} {xs:List V},cf X.K H a xs→∃its:Array Value,s.heap.IsList a its:=fun q=>let ⟨its,_,p,_⟩:=I.list q;⟨_,p.isList⟩
 have BX:∀{a:Addr} {xs:List V},cp X.K H a xs→∃its:Array Value,s.heap.IsTuple a its:=fun q=>let ⟨its,_,p,_⟩:=I.tuple q;⟨_,p⟩
 have refs:∀{A:Around} {a b:Addr} {d d':Dt},aA X.K H (.ref a) d→aA X.K H (.ref b) d'→SeqAt.RcAt A s (.ref a) (.ref b) (d.beq d')→SeqAt.EqAt A s (.ref a) (.ref b) (d.beq d'):=by
  intro A a b d d' h h' r
  by_cases e:a=b
  ·subst e
   rw[←vt I d _ _ h h',Dt.beq_refl]
   exact SeqAt.EqAt.same _
  ·exact SeqAt.EqAt.of_refs e r
 induction d using Dt.rec (motive_2:=fun ds=>∀d∈ds,∀(A:Around) (d':Dt) (x y:V) (u v:Value),A.units+d.dep<cLine→aA X.K H x d→aA X.K H y d'→RelV x u→RelV y v→SeqAt.EqAt A s u v (d.beq d')) with
 | non=>
  intro A d' x y u v hu h h' ru rv
  rw[aA] at h
  subst h
  have hu':A.units<cLine:=by omega
  cases d' with
  | tup ds'=>
   rw[aA] at h';obtain⟨b,ys,rfl,q,_⟩:=h'
   cases ru;cases rv
   obtain⟨its,p⟩:=BX q
   exact SeqAt.EqAt.none_tuple p hu'
  | lst ds'=>
   rw[aA] at h';obtain⟨b,ys,rfl,q,_⟩:=h'
   cases ru;cases rv
   obtain⟨its,p⟩:=BW q
   exact SeqAt.EqAt.none_list p hu'
  | _=>rw[aA] at h';subst h';exact flat rfl rfl (by simp[Dt.beq,o9]) ru rv
 | bl b0=>
  intro A d' x y u v hu h h' ru rv
  rw[aA] at h
  subst h
  have hu':A.units<cLine:=by omega
  cases d' with
  | tup ds'=>
   rw[aA] at h';obtain⟨b,ys,rfl,q,_⟩:=h'
   cases ru;cases rv
   obtain⟨its,p⟩:=BX q
   exact SeqAt.EqAt.bool_tuple _ p hu'
  | lst ds'=>
   rw[aA] at h';obtain⟨b,ys,rfl,q,_⟩:=h'
   cases ru;cases rv
   obtain⟨its,p⟩:=BW q
   exact SeqAt.EqAt.bool_list _ p hu'
  | _=>rw[aA] at h';subst h';exact flat rfl rfl (by simp[Dt.beq,o9]) ru rv
 | int i0=>
  intro A d' x y u v hu h h' ru rv
  rw[aA] at h
  subst h
  have hu':A.units<cLine:=by omega
  cases d' with
  | tup ds'=>
   rw[aA] at h';obtain⟨b,ys,rfl,q,_⟩:=h'
   obtain⟨t,rfl⟩:=ru;cases rv
   obtain⟨its,p⟩:=BX q
   exact SeqAt.EqAt.int_tuple _ _ p hu'
  | lst ds'=>
   rw[aA] at h';obtain⟨b,ys,rfl,q,_⟩:=h'
   obtain⟨t,rfl⟩:=ru;cases rv
   obtain⟨its,p⟩:=BW q
   exact SeqAt.EqAt.int_list _ _ p hu'
  | _=>rw[aA] at h';subst h';exact flat rfl rfl (by simp[Dt.beq,o9]) ru rv
 | str z0=>
  intro A d' x y u v hu h h' ru rv
  rw[aA] at h
  subst h
  have hu':A.units<cLine:=by omega
  cases d' with
  | tup ds'=>
   rw[aA] at h';obtain⟨b,ys,rfl,q,_⟩:=h'
   obtain⟨t,rfl⟩:=ru;cases rv
   obtain⟨its,p⟩:=BX q
   exact SeqAt.EqAt.str_tuple _ _ p hu'
  | lst ds'=>
   rw[aA] at h';obtain⟨b,ys,rfl,q,_⟩:=h'
   obtain⟨t,rfl⟩:=ru;cases rv
   obtain⟨its,p⟩:=BW q
   exact SeqAt.EqAt.str_list _ _ p hu'
  | _=>rw[aA] at h';subst h';exact flat rfl rfl (by simp[Dt.beq,o9]) ru rv
 | tup ds ih=>
  intro A d' x y u v hu h h' ru rv
  have hD:=h
  have hD':=h'
  rw[aA] at h
  obtain⟨a,xs,rfl,q,hd⟩:=h
  cases ru
  obtain⟨its,p⟩:=BX q
  have hu':A.units<cLine:=by omega
  cases d' with
  | non=>rw[aA] at h';subst h';cases rv;exact SeqAt.EqAt.tuple_none p hu'
  | bl b=>rw[aA] at h';subst h';cases rv;exact SeqAt.EqAt.tuple_bool _ p hu'
  | int b=>rw[aA] at h';subst h';obtain⟨t,rfl⟩:=rv;exact SeqAt.EqAt.tuple_int _ _ p hu'
  | str b=>rw[aA] at h';subst h';obtain⟨t,rfl⟩:=rv;exact SeqAt.EqAt.tuple_str _ _ p hu'
  | lst ds'=>
   rw[aA] at h';obtain⟨b,ys,rfl,q',_⟩:=h'
   cases rv
   obtain⟨its2,p2⟩:=BW q'
   exact SeqAt.EqAt.tuple_list p p2 hu'
  | tup ds'=>
   rw[aA] at h';obtain⟨b,ys,rfl,q',hd'⟩:=h'
   cases rv
   refine refs hD hD' ?_
   have:=qV (A:=A) I q q' hd hd' hu' fun d hm d' x y u v h1 h2 r1 r2=>ih d hm A.in1 d' x y u v (by
    have:=Dt.gi hm
    rw[Dt.dep] at hu
    show A.units+1+d.dep<cLine
    omega) h1 h2 r1 r2
   simpa[Dt.beq] using this
 | lst ds ih=>
  intro A d' x y u v hu h h' ru rv
  have hD:=h
  have hD':=h'
  rw[aA] at h
  obtain⟨a,xs,rfl,q,hd⟩:=h
  cases ru
  obtain⟨its,p⟩:=BW q
  have hu':A.units<cLine:=by omega
  cases d' with
  | non=>rw[aA] at h';subst h';cases rv;exact SeqAt.EqAt.list_none p hu'
  | bl b=>rw[aA] at h';subst h';cases rv;exact SeqAt.EqAt.list_bool _ p hu'
  | int b=>rw[aA] at h';subst h';obtain⟨t,rfl⟩:=rv;exact SeqAt.EqAt.list_int _ _ p hu'
  | str b=>rw[aA] at h';subst h';obtain⟨t,rfl⟩:=rv;exact SeqAt.EqAt.list_str _ _ p hu'
  | tup ds'=>
   rw[aA] at h';obtain⟨b,ys,rfl,q',_⟩:=h'
   cases rv
   obtain⟨its2,p2⟩:=BX q'
   exact SeqAt.EqAt.list_tuple p p2 hu'
  | lst ds'=>
   rw[aA] at h';obtain⟨b,ys,rfl,q',hd'⟩:=h'
   cases rv
   refine refs hD hD' ?_
   have:=yH (A:=A) I q q' hd hd' hu' fun d hm d' x y u v h1 h2 r1 r2=>ih d hm A.in1 d' x y u v (by
    have:=Dt.gi hm
    rw[Dt.dep] at hu
    show A.units+1+d.dep<cLine
    omega) h1 h2 r1 r2
   simpa[Dt.beq] using this
 | nil=>
  rename_i d hd A d' x y u v a1 a2 a3 a4 a5
  cases hd
 | cons d ds h1 h2=>
  rename_i d0 hd A d' x y u v a1 a2 a3 a4 a5
  rcases List.mem_cons.mp hd with e | hd
  ·subst e;exact h1 A d' x y u v a1 a2 a3 a4 a5
  ·exact h2 d0 hd A d' x y u v a1 a2 a3 a4 a5
def Dt.LX:Dt→Bool
 | .tup _=>true
 | .lst _=>true
 | _=>false
def GU (K:PySem.W.Frag) (neg:Bool):R2:=fun x y H Q=>∃d d':Dt,aA K H x d∧aA K H y d'∧d.LX=true∧d'.LX=true∧d.dep≤40∧Q (.bl (if neg then !d.beq d' else d.beq d')) H
theorem yI (K:PySem.W.Frag) (hu:X.A.units+64<cLine) (hK:X.K=K:=by rfl):cW X (compareOp .Eq) (GU K false):=by
 subst hK
 intro pins s σ H x y v u Q I rx ry h
 obtain⟨d,d',h,h',sq,LY,hd,q⟩:=h
 have hA:∀e:Dt,e.dep≤40→X.A.in1.units+e.dep<cLine:=fun e he=>by show X.A.units+1+e.dep<cLine;omega
 have hu':X.A.units<cLine:=by omega
 cases d with
 | tup ds=>
  rw[aA] at h
  obtain⟨a,xs,rfl,q1,hd1⟩:=h
  cases rx
  have ih:∀d∈ds,∀(d':Dt) (x y:V) (u v:Value),aA X.K H x d→aA X.K H y d'→RelV x u→RelV y v→SeqAt.EqAt X.A.in1 s u v (d.beq d'):=fun d hm d' x y u v h1 h2 r1 r2=>
   jK I d X.A.in1 d' x y u v (hA d (by have:=Dt.gi hm;rw[Dt.dep] at hd;omega)) h1 h2 r1 r2
  cases d' with
  | tup ds'=>
   rw[aA] at h'
   obtain⟨b,ys,rfl,q2,hd2⟩:=h'
   cases ry
   exact qV I q1 q2 hd1 hd2 hu' ih _ _ _ _ ⟨.bl _,H,I,rfl,by simpa[Dt.beq] using q⟩
  | lst ds'=>
   rw[aA] at h'
   obtain⟨b,ys,rfl,q2,hd2⟩:=h'
   cases ry
   obtain⟨its,_,p,_⟩:=I.tuple q1
   obtain⟨its2,_,p2,_⟩:=I.list q2
   exact SeqAt.RcAt.tuple_list (show s.heap.IsTuple a its.toArray from p) p2.isList hu' _ _ _ _ ⟨.bl _,H,I,rfl,by simpa[Dt.beq] using q⟩
  | _=>cases LY
 | lst ds=>
  rw[aA] at h
  obtain⟨a,xs,rfl,q1,hd1⟩:=h
  cases rx
  have ih:∀d∈ds,∀(d':Dt) (x y:V) (u v:Value),aA X.K H x d→aA X.K H y d'→RelV x u→RelV y v→SeqAt.EqAt X.A.in1 s u v (d.beq d'):=fun d hm d' x y u v h1 h2 r1 r2=>
   jK I d X.A.in1 d' x y u v (hA d (by have:=Dt.gi hm;rw[Dt.dep] at hd;omega)) h1 h2 r1 r2
  cases d' with
  | lst ds'=>
   rw[aA] at h'
   obtain⟨b,ys,rfl,q2,hd2⟩:=h'
   cases ry
   exact yH I q1 q2 hd1 hd2 hu' ih _ _ _ _ ⟨.bl _,H,I,rfl,by simpa[Dt.beq] using q⟩
  | tup ds'=>
   rw[aA] at h'
   obtain⟨b,ys,rfl,q2,hd2⟩:=h'
   cases ry
   obtain⟨its,_,p,_⟩:=I.list q1
   obtain⟨its2,_,p2,_⟩:=I.tuple q2
   exact SeqAt.RcAt.list_tuple p.isList (show s.heap.IsTuple b its2.toArray from p2) hu' _ _ _ _ ⟨.bl _,H,I,rfl,by simpa[Dt.beq] using q⟩
  | _=>cases LY
 | _=>cases sq
theorem LZ (K:PySem.W.Frag) (hu:X.A.units+64<cLine) (hK:X.K=K:=by rfl):cW X (compareOp .NotEq) (fun x y H Q=>GU K true x y H Q∧∃d d':Dt,aA K H x d∧aA K H y d'∧((∃ds ds',d=.tup ds∧d'=.tup ds')∨∃ds ds',d=.lst ds∧d'=.lst ds')):=by
 subst hK
 intro pins s σ H x y v u Q I rx ry h
 obtain⟨⟨d,d',h,h',sq,LY,hd,q⟩,e,e',g,g',hk⟩:=h
 have e1:=vt I d x e h g
 have e2:=vt I d' y e' h' g'
 subst e1 e2
 have hA:∀e:Dt,e.dep≤40→X.A.in1.units+e.dep<cLine:=fun e he=>by show X.A.units+1+e.dep<cLine;omega
 have hu':X.A.units<cLine:=by omega
 rcases hk with⟨ds,ds',rfl,rfl⟩ | ⟨ds,ds',rfl,rfl⟩
 ·rw[aA] at h h'
  obtain⟨a,xs,rfl,q1,h1⟩:=h
  obtain⟨b,ys,rfl,q2,h2⟩:=h'
  cases rx
  cases ry
  have ih:∀d∈ds,∀(d':Dt) (x y:V) (u v:Value),aA X.K H x d→aA X.K H y d'→RelV x u→RelV y v→SeqAt.EqAt X.A.in1 s u v (d.beq d'):=fun d hm d' x y u v h1 h2 r1 r2=>
   jK I d X.A.in1 d' x y u v (hA d (by have:=Dt.gi hm;rw[Dt.dep] at hd;omega)) h1 h2 r1 r2
  obtain⟨its,r1,p1,_⟩:=I.tuple q1
  obtain⟨its2,r2,p2,_⟩:=I.tuple q2
  have l1:=r1.length
  have l2:=r2.length
  have l3:=h1.length
  have l4:=h2.length
  have z:=SeqAt.RcNeAt.tuples (show s.heap.IsTuple a its.toArray from p1) (show s.heap.IsTuple b its2.toArray from p2) hu' (mB r1 r2 h1 h2 ih)
  have fin:SeqAt.RcNeAt X.A s (.ref a) (.ref b) (!Dt.dH ds ds'):=by
   by_cases hl:ds.length=ds'.length
   ·rw[show min its.toArray.size its2.toArray.size=ds.length by simp;omega,jI ds ds' hl,show(its.toArray.size == its2.toArray.size)=true by simp;omega,Bool.and_true] at z
    exact z
   ·rw[show(its.toArray.size == its2.toArray.size)=false by simp;omega,Bool.and_false] at z
    rw[jJ ds ds' hl]
    exact z
  exact fin _ _ _ _ ⟨.bl _,H,I,rfl,by simpa[Dt.beq] using q⟩
 ·rw[aA] at h h'
  obtain⟨a,xs,rfl,q1,h1⟩:=h
  obtain⟨b,ys,rfl,q2,h2⟩:=h'
  cases rx
  cases ry
  have ih:∀d∈ds,∀(d':Dt) (x y:V) (u v:Value),aA X.K H x d→aA X.K H y d'→RelV x u→RelV y v→SeqAt.EqAt X.A.in1 s u v (d.beq d'):=fun d hm d' x y u v h1 h2 r1 r2=>
   jK I d X.A.in1 d' x y u v (hA d (by have:=Dt.gi hm;rw[Dt.dep] at hd;omega)) h1 h2 r1 r2
  obtain⟨its,r1,p1,_⟩:=I.list q1
  obtain⟨its2,r2,p2,_⟩:=I.list q2
  have l1:=r1.length
  have l2:=r2.length
  have l3:=h1.length
  have l4:=h2.length
  have fin:SeqAt.RcNeAt X.A s (.ref a) (.ref b) (!Dt.dH ds ds'):=by
   by_cases hl:ds.length=ds'.length
   ·have z:=SeqAt.RcNeAt.lists p1.isList p2.isList (by simp;omega) hu' (mB r1 r2 h1 h2 ih)
    rw[show its.toArray.size=ds.length by simp;omega,jI ds ds' hl] at z
    exact z
   ·rw[jJ ds ds' hl]
    exact SeqAt.RcNeAt.lists_lengths p1.isList p2.isList (by simp;omega) hu'
  exact fin _ _ _ _ ⟨.bl _,H,I,rfl,by simpa[Dt.beq] using q⟩
end
section
variable {X:Cx}
def L_ (K:PySem.W.Frag):List V→Hp→VK→Prop:=fun xs H Q=>∃(p:Addr) (ys:List V),xs=[.ref p]∧((cf K H p ys∧∀l,H l=none→Q (.ref l) (upd H l (.tup ys)))∨(cp K H p ys∧Q (.ref p) H))
theorem tG (K:PySem.W.Frag) (hK:X.K=K:=by rfl):fO X (.type "tuple") (L_ K):=by subst hK;exact xA
end
end L2
namespace L2
open PySem
theorem dI {i j:Int} (h:i=j):decide (V.int i=V.int j)=true:=by rw[h];simp
theorem EO {i j:Int} (h:i≠j):decide (V.int i=V.int j)=false:=by simp[h]
end L2
namespace L2
open PySem PySem.Spec PyProof.Rows
theorem p4 {ys:List Str}:∀{us:List Value},Vals (ys.map V.str) us→StrsAre us ys:=by
 induction ys with
 | nil=>intro us r;cases r;exact .nil
 | cons y ys ih=>
  intro us r
  rw[List.map_cons] at r
  cases r with
  | cons a b=>
   obtain⟨t,rfl⟩:=a
   exact .cons y t (ih b)
theorem qW:∀{us:List Value} {ys:List Str},StrsAre us ys→Vals (ys.map V.str) us
 | _,_,.nil=>.nil
 | _,_,.cons y t r=>.cons ⟨t,rfl⟩ (qW r)
theorem GV (sep:Str) (ys:List Str) (h:(ys.map (·.length)).sum+ys.length*sep.length≤16777216):(Txt.join sep ys).length≤sizeLine:=by
 have hok:=joinOk_of h
 unfold JoinOk at hok
 rw[Bool.not_eq_true'] at hok
 have e:ys=(ys.map fun y=>(y,(0:Tok))).map (·.1):=by rw[List.map_map];exact(List.map_id ys).symm
 rw[e] at hok ⊢
 exact joinFit_length hok
section
variable {X:Cx}
def rJoin (K:PySem.W.Frag):V→List V→Hp→VK→Prop:=fun x vs H Q=>∃(sep:Str) (a:Addr) (ys:List Str),x=.str sep∧vs=[.ref a]∧cf K H a (ys.map V.str)∧(ys.map (·.length)).sum+ys.length*sep.length≤16777216∧∀z:Str,z.length≤sizeLine→z=Txt.join sep ys→Q (.str z) H
theorem yJ (K:PySem.W.Frag) (hK:X.K=K:=by rfl):yr X "str.join" (rJoin K):=by
 subst hK
 intro pins s σ H x vs v us Q I rx rv h
 obtain⟨sep,a,ys,rfl,rfl,hq,hz,q⟩:=h
 obtain⟨t,rfl⟩:=rx
 obtain⟨u,rfl,ru⟩:=rv.one
 cases ru
 obtain⟨its,r,p,_⟩:=I.list hq
 exact join_list p.isList (show StrsAre its.toArray.toList ys from p4 r) hz fun t' k=>⟨.str _,H,I.tok k,⟨t',rfl⟩,q _ (GV sep ys hz) rfl⟩
def L4 (K:PySem.W.Frag):List V→Hp→VK→Prop:=fun xs H Q=>∃(a:Addr) (ss:List Str),xs=[.ref a]∧cf K H a (ss.map V.str)∧ss.length<64∧
 ∀(p:Addr) (ss':List Str),H p=none→ss'.Perm ss→PyProof.Rows.sortedS ss'=true→Q (.ref p) (upd H p (.lst (ss'.map V.str)))
theorem AE (K:PySem.W.Frag) (hK:X.K=K:=by rfl):fO X (.builtin "sorted") (L4 K):=by
 subst hK
 intro pins s σ H xs us Q I r h
 obtain⟨a,ss,rfl,hq,hl,q⟩:=h
 obtain⟨u,rfl,ru⟩:=vals1 r
 cases ru
 obtain⟨its,rv,p,hz⟩:=I.list hq
 have hlen:=rv.length
 rw[List.length_map] at hlen
 refine sorted_strs p.isList (p4 rv) (by omega) fun out ss' a1 a2 a3=>?_
 obtain⟨e,he⟩:=sortedAll_at s.heap its out
 have hp:s.heap.objs.size≤s.heap.objs.size+1:=Nat.le_succ _
 refine⟨.ref (s.heap.objs.size+1),upd H (s.heap.objs.size+1) (.lst (ss'.map V.str)),?_,rfl,q _ ss' (I.hok.fresh hp) a2 a3⟩
 refine I.laid (t':=s.toks) (h':=sortedAll s.heap its out) (fun _ _=>sortedAll_old) hp ⟨?_,out.toList,e,qW a1,?_⟩
 ·rw[List.length_map,a2.length_eq]
  rw[List.length_map] at hz
  exact hz
 ·rw[he]
  first
   | done
   | rfl
def S':V→Option Int→Option Int→Hp→VK→Prop:=fun x lo hi H Q=>∃z:Str,x=.str z∧z.length≤sizeLine∧Q (.str (Txt.slice z lo hi)) H
theorem tH {v:Value} {o:Option Int} (p:IsPart v o):∃l:Option (Int×Tok),v=partValue l∧l.map (·.1)=o:=by
 cases p with
 | none=>exact⟨none,rfl,rfl⟩
 | int i t=>exact⟨some (i,t),rfl,rfl⟩
theorem eY:Jb X S':=by
 intro pins s σ H x v vl vu lo hi sl Q I rx hs pl pu h
 obtain⟨z,rfl,hz,q⟩:=h
 obtain⟨t,rfl⟩:=rx
 obtain⟨l,rfl,hl⟩:=tH pl
 obtain⟨u,rfl,hu⟩:=tH pu
 subst hl hu
 obtain⟨o,ho,hc,hd⟩:=hs
 refine⟨"str",_,PySem.F.slot_str_getitem.lookup,typeIs_str _ _ _,wpAny_getItem_str_slice (l:=l) (u:=u) (st:=none) ⟨o,ho,hc,hd⟩ rfl ?_⟩
 exact post_val_or_str ⟨Nat.le_trans (Txt.slice_le z _ _) hz,fun t' k=>⟨.str _,H,I.tok k,⟨t',rfl⟩,q⟩⟩
structure vv (K:PySem.W.Frag) (P:Params) (a:Addr) (tab:List (Str×Option V)):Prop where
 ex:∃(es:Array DictEntry) (n:Nat),K.lookup a=some ⟨.type "dict",none,.dict es n, #[]⟩∧PySem.W.KeysLit P es.toList∧∀x r,(x,r)∈tab→jD r (findBy Value.isStrOf es x)
 lo:(a == sysModules)=false
def KD (tab:List (Str×Option V)) (ty tx:TE):TE:=fun σ H Q=>ty σ H fun y H1=>tx σ H1 fun z H2=>∃x r,y=.str x∧(x,r)∈tab∧Q (r.getD z) H2
theorem ER {x:Str} {p apos cpos:Pos} {e f:Expr} {ty tx:TE} {a:Addr} {tab:List (Str×Option V)} (D:vv X.K X.w.params a tab) (hg:Gl X x) (hm:X.mg x=some (.ref a)) (he:PE X e ty) (hf:PE X f tx)
  (m:M2 X (.Name x p) "get" apos e f cpos:=by exact⟨rfl,rfl,rfl,rfl⟩) (hdb:(x == ("__debug__":Str))=false:=by decide):PE X (.Call (.Attribute (.Name x p) "get" apos) [e,f] [] cpos) (KD tab ty tx):=by
 intro pins s σ H Q I h
 obtain⟨es,n,hl,hk,ht⟩:=D.ex
 refine wpAny_Call_method m.base m.few m.line PySem.F.plainAttrs_dict PySem.F.slot_dict_get PySem.F.type_dict_get (jF I hg hm ?_ hdb)
 have hm0:=PySem.W.mapOf_K (prog:=X.prog) I.ja hl hk
 refine⟨hm0.typeIs,hm0.noDict,?_⟩
 rw[m.trees]
 refine Calls.callWith_builtin rfl (Calls.evalArgs_plain (Calls.spliced_cons (bf (he pins s σ H _ I h) fun iv s2 ⟨y,H2,I2,ry,q2⟩=>
  Calls.spliced_cons (bf (hf pins s2 σ H2 _ I2 q2) fun fv s3 ⟨z,H3,I3,rz,x',r,ey,hmem,q3⟩=>Calls.spliced_nil ?_))))
 subst ey
 obtain⟨t,rfl⟩:=ry
 have Q0:=PySem.W.mapOf_K (prog:=X.prog) I3.ja hl hk
 refine call_meetsIn PySem.F.slot_dict_get Q0.typeIs PySem.F.entry_dict_get (PySem.F.args_dict_get_3 _ _ _) (meets_dict_get_default (strKind X.prog X.w) a (strKind_is X.prog X.w x' t) D.lo fv) ⟨_,Q0,?_⟩
 refine⟨r.getD z,H3,I3.tok _,?_,q3⟩
 have:=ht x' r hmem
 cases r with
 | none=>
  rw[this.none_of]
  exact rz
 | some v=>
  obtain⟨u,eu,ru⟩:=this.some_of
  rw[eu]
  exact ru
theorem pD {K:PySem.W.Frag} {H:Hp} {a:Addr} {xs:List V} {us:List Value} {n:Nat} (h:K.lookup a=some ⟨.type "tuple",none,.seq us.toArray n, #[]⟩) (r:Vals xs us) (hz:xs.length≤sizeLine):cp K H a xs:=
 .inr ⟨_,us.toArray,n,h,rfl,rfl,by rw[List.size_toArray,←r.length];exact hz,by simpa using r⟩
end
mutual
def Dt.bG:Dt→Bool
 | .lst _=>false
 | .tup xs=>Dt.eG xs
 | _=>true
def Dt.eG:List Dt→Bool
 | []=>true
 | x::xs=>x.bG&&Dt.eG xs
end
def fm (K:PySem.W.Frag) (H H':Hp):Prop:=∀a xs,cp K H a xs→cp K H' a xs
theorem fm.trans {K:PySem.W.Frag} {H H1 H2:Hp} (a:fm K H H1) (b:fm K H1 H2):fm K H H2:=fun c o h=>b c o (a c o h)
theorem Same.kts {K:PySem.W.Frag} {H H':Hp} (s:Same H H'):fm K H H':=fun _ _ h=>s.iP h
theorem KB.kts {K:PySem.W.Frag} {d:Addr} {xs:List V} {H H':Hp} (h:H d=some (.lst xs)) (k:KB d H H'):fm K H H':=fun a ys e=>by
 rcases e with(e | ⟨o,e⟩) | e
 ·exact .inl (.inl (k _ _ e (iM e h (fun z=>nomatch z))))
 ·exact .inl (.inr ⟨o,k _ _ e (iM e h (fun z=>nomatch z))⟩)
 ·exact .inr e
theorem aJ {K:PySem.W.Frag} {H H':Hp} (k:fm K H H') (d:Dt):∀x:V,d.bG=true→aA K H x d→aA K H' x d:=by
 induction d using Dt.rec (motive_2:=fun ds=>∀xs:List V,Dt.eG ds=true→aL K H xs ds→aL K H' xs ds) with
 | non=>intro x _ h;simpa[aA] using h
 | bl b=>intro x _ h;simpa[aA] using h
 | int b=>intro x _ h;simpa[aA] using h
 | str b=>intro x _ h;simpa[aA] using h
 | tup ds ih=>
  intro x hn h
  rw[aA] at h ⊢
  rw[Dt.bG] at hn
  obtain⟨a,xs,e,q,hd⟩:=h
  exact⟨a,xs,e,k _ _ q,ih xs hn hd⟩
 | lst ds ih=>intro x hn;simp[Dt.bG] at hn
 | nil=>
  rename_i xs hn h
  cases xs with
  | nil=>simp[aL]
  | cons _ _=>simp[aL] at h
 | cons d ds h1 h2=>
  rename_i xs hn h
  rw[Dt.eG,Bool.and_eq_true] at hn
  cases xs with
  | nil=>simp[aL] at h
  | cons x xs=>
   rw[aL] at h ⊢
   exact⟨h1 x hn.1 h.1,h2 xs hn.2 h.2⟩
theorem cz {K:PySem.W.Frag} {H H':Hp} (k:fm K H H'):∀(ds:List Dt) (xs:List V),Dt.eG ds=true→aL K H xs ds→aL K H' xs ds
 | [],xs,_,h=>by
  cases xs with
  | nil=>simp[aL]
  | cons _ _=>simp[aL] at h
 | d::ds,xs,hn,h=>by
  rw[Dt.eG,Bool.and_eq_true] at hn
  cases xs with
  | nil=>simp[aL] at h
  | cons x xs=>
   rw[aL] at h ⊢
   exact⟨aJ k d x hn.1 h.1,cz k ds xs hn.2 h.2⟩
theorem mf {K:PySem.W.Frag} {H:Hp} {i:Int}:aA K H (.int i) (.int i):=by rw[aA]
theorem bJ {K:PySem.W.Frag} {H:Hp} {z:Str}:aA K H (.str z) (.str z):=by rw[aA]
theorem cy {K:PySem.W.Frag} {H:Hp} {a:Addr} {xs:List V} {ds:List Dt} (h:cp K H a xs) (d:aL K H xs ds):aA K H (.ref a) (.tup ds):=by rw[aA];exact⟨a,xs,rfl,h,d⟩
theorem BZ {K:PySem.W.Frag} {H:Hp} {a:Addr} {xs:List V} {ds:List Dt} (h:cf K H a xs) (d:aL K H xs ds):aA K H (.ref a) (.lst ds):=by rw[aA];exact⟨a,xs,rfl,h,d⟩
theorem bB {K:PySem.W.Frag} {H:Hp}:aL K H [] []:=by simp[aL]
theorem aF {K:PySem.W.Frag} {H:Hp} {x:V} {xs:List V} {d:Dt} {ds:List Dt} (h:aA K H x d) (t:aL K H xs ds):aL K H (x::xs) (d::ds):=by rw[aL];exact⟨h,t⟩
theorem p5 {K:PySem.W.Frag} {H:Hp}:∀{xs ys:List V} {ds es:List Dt},aL K H xs ds→aL K H ys es→aL K H (xs++ys) (ds++es)
 | [],_,[],_,_,h=>h
 | [],_,_::_,_,h,_=>by simp[aL] at h
 | _::_,_,[],_,h,_=>by simp[aL] at h
 | x::xs,_,d::ds,_,h,g=>by
  rw[aL] at h
  exact aF h.1 (p5 h.2 g)
theorem wB {K:PySem.W.Frag} {H:Hp}:∀(ys:List Str),aL K H (ys.map V.str) (ys.map Dt.str)
 | []=>bB
 | y::ys=>aF bJ (wB ys)
theorem yK:∀(ds es:List Dt),Dt.eG (ds++es)=(Dt.eG ds&&Dt.eG es)
 | [],es=>by simp[Dt.eG]
 | d::ds,es=>by rw[List.cons_append,Dt.eG,Dt.eG,yK ds es,Bool.and_assoc]
theorem vw {ns:List Str} {i:Nat} {x:V} (h:(ns.map V.str)[i]? =some x):∃f,x=.str f∧ns[i]? =some f:=by
 rw[List.getElem?_map] at h
 cases e:ns[i]? with
 | none=>rw[e] at h;cases h
 | some f=>rw[e] at h;exact⟨f,(Option.some.inj h).symm,rfl⟩
end L2
namespace L2
theorem ES {v:V} {i:Nat} {u:TS} {D:Ends} {σ:St} {H:Hp} (h:u D (σ.set i (some v)) H):tV (pU (tC v) (c_ i)) u D σ H:=h
end L2
namespace L2
open PySem
def jz (d e:Addr) (H H':Hp):Prop:=∀b o,H b=some o→b≠d→b≠e→H' b=some o
theorem jz.trans {d e:Addr} {H H1 H2:Hp} (a:jz d e H H1) (b:jz d e H1 H2):jz d e H H2:=fun c o h n m=>b c o (a c o h n m) n m
theorem KB.l {d e:Addr} {H H':Hp} (k:KB d H H'):jz d e H H':=fun b o h n _=>k b o h n
theorem KB.r {d e:Addr} {H H':Hp} (k:KB e H H'):jz d e H H':=fun b o h _ n=>k b o h n
theorem Same.kb2 {d e:Addr} {H H':Hp} (s:Same H H'):jz d e H H':=fun b o h _ _=>s b o h
theorem jz.kts {K:PySem.W.Frag} {d e:Addr} {xs ys:List V} {H H':Hp} (hd:H d=some (.lst xs)) (he:H e=some (.lst ys)) (k:jz d e H H'):fm K H H':=fun a zs z=>by
 rcases z with(z | ⟨o,z⟩) | z
 ·exact .inl (.inl (k _ _ z (iM z hd (fun z=>nomatch z)) (iM z he (fun z=>nomatch z))))
 ·exact .inl (.inr ⟨o,k _ _ z (iM z hd (fun z=>nomatch z)) (iM z he (fun z=>nomatch z))⟩)
 ·exact .inr z
theorem jz.seq {K:PySem.W.Frag} {d e:Addr} {H H':Hp} {a:Addr} {xs:List V} (k:jz d e H H') (n:a≠d) (m:a≠e) (h:cf K H a xs):cf K H' a xs:=by
 rcases h with(h | ⟨o,h⟩) | h
 ·exact .inl (.inl (k _ _ h n m))
 ·exact .inl (.inr ⟨o,k _ _ h n m⟩)
 ·exact .inr h
theorem a_.none {P:Program} {w:World} {K:PySem.W.Frag} {mg:Str→Option Value} {base:Heap} {CX:qA} {k:Nat} {f:Addr} {fd:FuncData} {ps:List Str} {sp:Sp} (h:∀vs H Q E,¬sp vs H Q E):a_ P w K mg base CX k f fd ps sp:=
 ⟨fun vs H Q E q=>(h _ _ _ _ q).elim,fun A outer s H args us vs Q E _ _ _ _ hs=>(h _ _ _ _ hs).elim⟩
end L2
namespace L2
open PySem PySem.Spec PyProof.Rows
theorem GW:typeLookup (.type "list_reverseiterator") "__len__"=pure none:=by rw[typeLookup_type,builtinLookup_eq_fast];kernel_rfl
theorem KG:typeLookup (.type "list_reverseiterator") "__length_hint__"=pure (some (.builtin "list_reverseiterator.__length_hint__")):=by rw[typeLookup_type,builtinLookup_eq_fast];kernel_rfl
section
variable {prog:Program} {w:World} {A:Around} {s:Shared} {R:Result→Shared→Prop}
theorem C2 {I l S:Addr} {its:Array Value} {res:Value} {c0:Nat} (hh:A.handled=none) (hlI:l≠I) (hSI:S≠I) (hSl:S≠l) (hit:s.heap.IsRevIter I l ((its.size:Int)-1)) (hl:s.heap.IsList l its) (hz:its.size≤sizeLine)
  (hS:s.heap.get? S=some {cls:=.type "list",data:=.seq #[] c0})
  (hR:∀h' tk acc c,(∀b o,b≠S→b≠I→s.heap.get? b=some o→h'.get? b=some o)→h'.get? S=some {cls:=.type "list",dict:=none,data:=.seq acc c,slots:= #[]}→ItemsOf (fun i v=>its[its.size-1-i]? =some v) acc its.size→
   R (.ok (.ret res)) {s with heap:=h',toks:=tk}):
  wpAny (model prog w) A.in1 (Builtin.List.listExtendWith (.ref S) (.ref I) res) (fun fin s'=>match fin with | .done f=>R (.ok f) s' | .again c'=>c'.quiet=true∧codeAny (model prog w) A c' R s') (fun e s'=>R (.error e) s') s:=by
 have hSf:S ∉ [I,l]:=fun hm=>by
  rcases List.mem_cons.mp hm with z | z
  ·exact hSI z
  ·exact hSl (List.mem_singleton.mp z)
 have W:=(Walks.listRev (prog:=prog) (w:=w) (A:=A.in1) hh I l hlI its).toS
 unfold Builtin.List.listExtendWith
 (refine wpAny_bind (wpAny_typeOf hit.typeIs ?_))
 have g1:Builtin.List.listSameRef (.ref S) (.ref I)=false:=by simp[Builtin.List.listSameRef,hSI]
 rw[if_neg (by rw[g1];decide)];refine wpAny_bind (wpAny_pyIter_revIter hit ?_)
 (refine wpAny_bind (wpAny_holding ?_));unfold Builtin.List.listLengthHint
 refine wpAny_bind (wpAny_specialOf hit.typeIs GW ?_)
 show wpAny _ A.in1 (specialOf (Value.ref I) (Str.ofString "__length_hint__") >>= _) _ _ s
 refine wpAny_bind (wpAny_specialOf hit.typeIs KG ?_)
 generalize hid:("list_reverseiterator.__length_hint__":String)=id0
 wp_delta
 rw[show splitId id0=some ("list_reverseiterator","__length_hint__") from by subst hid;decide+kernel];subst hid
 refine wpAny_bind (wpAny_isInstance (T:="list_reverseiterator") (b:=true) hit.typeIs (by rw[isSubtype_type];kernel_rfl) ?_)
 (refine wpAny_pure ?_);rw[if_neg (by decide)]
 refine wpAny_pure ⟨plainId_quiet F.plain_extend_loop _,codeAny_extend_loopS W hz S hSf res its.size 0 s _ c0 rfl (Nat.zero_le _) ⟨Nat.zero_le _,by simpa using hit,hl⟩ hS (ItemsOf.nil _) fun s' acc c hm hS' ha=>?_⟩
 rw[Moved.eq_with hm]
 refine hR s'.heap s'.toks acc c (fun b o hb hb' e=>hm.heap b o (fun z=>?_) e) hS' ha
 rcases List.mem_cons.mp z with z | z
 ·exact hb z
 ·exact hb' (List.mem_singleton.mp z)
end
section
variable {prog:Program} {w:World} {A:Around} {E:Value→Shared→Prop} {s:Shared}
theorem xB {Q:Value→Shared→Prop} {I l:Addr} {its:Array Value} (hh:A.handled=none) (hlI:l≠I) (hit:s.heap.IsRevIter I l ((its.size:Int)-1)) (hl:s.heap.IsList l its) (hz:its.size≤sizeLine)
  (hQ:∀h' tk acc c,(∀b o,b≠I→s.heap.get? b=some o→h'.get? b=some o)→h'.get? s.heap.objs.size=some {cls:=.type "list",dict:=none,data:=.seq acc c,slots:= #[]}→ItemsOf (fun i v=>its[its.size-1-i]? =some v) acc its.size→
   Q (.ref s.heap.objs.size) {s with heap:=h',toks:=tk}):wpAny (model prog w) A (call (.type "list") [.ref I]) Q E s:=by
 have bI:I<s.heap.objs.size:=by obtain⟨o,e,_⟩:=hit;exact Heap.lt_size e
 have bl:l<s.heap.objs.size:=by obtain⟨o,e,_⟩:=hl;exact Heap.lt_size e
 refine callType_codes (Q₁:=fun obj s1=>obj=.ref s.heap.objs.size∧s1={s with heap:=s.heap.push {cls:=.type "list",data:=.seq #[]}}) F.called_list (F.typeCall_list_1 _) F.entry_list_init (code_list_new _ ⟨rfl,rfl⟩) fun obj s1 e1=>?_
 obtain⟨rfl,rfl⟩:=e1
 have hS:(s.heap.push {cls:=.type "list",data:=.seq #[]}).get? s.heap.objs.size=some {cls:=.type "list",data:=.seq #[]}:=Heap.get?_push_size _ rfl
 have old:∀b o,s.heap.get? b=some o→b≠s.heap.objs.size:=fun b o e=>Nat.ne_of_lt (Heap.lt_size e)
 refine⟨⟨_,hS,rfl⟩,F.args_list_init_2 _ _,?_⟩
 show wpAny _ _ (do let old ←Builtin.List.listItems (.ref s.heap.objs.size);Builtin.List.listUpdate (.ref s.heap.objs.size) (fun _=> #[]);letGo old.toList.reverse;Builtin.List.listExtendWith (.ref s.heap.objs.size) (.ref I) .none) _ _ _
 (refine wpAny_bind ?_);unfold Builtin.List.listItems;refine wpAny_bind (wpAny_seqItems hS rfl (wpAny_pure ?_))
 show wpAny _ _ (updateSeq s.heap.objs.size (fun _=> #[]) >>= fun _=>letGo (#[]:Array Value).toList.reverse >>= fun _=>Builtin.List.listExtendWith (.ref s.heap.objs.size) (.ref I) .none) _ _ _
 refine wpAny_bind (wpAny_updateSeq hS rfl ?_)
 have hS2:=Heap.get?_update_self (Obj.mapSeq (fun _=>(#[]:Array Value))) hS rfl
 have oth:∀b o,s.heap.get? b=some o→((s.heap.push {cls:=.type "list",data:=.seq #[]}).update s.heap.objs.size (Obj.mapSeq (fun _=>(#[]:Array Value)))).get? b=some o:=
  fun b o e=>(Heap.get?_update_other _ _ (Ne.symm (old b o e))).trans (Heap.get?_push_of_some _ e)
 (refine wpAny_bind (wpAny_letGo ?_));refine C2 (A:=A.in1) hh hlI (Nat.ne_of_gt bI) (Nat.ne_of_gt bl) (hit.at fun o e=>oth _ o e) (hl.at fun o e=>oth _ o e) hz hS2 fun h' tk acc c k e a=>?_
 exact⟨rfl,hQ h' tk acc c (fun b o hb e=>k b o (old b o e) hb (oth b o e)) e a⟩
end
theorem vx {α β:Type} {r:α→β→Prop} {xs:List α} {ys:List β} (h:Paired r xs ys):Paired r xs.reverse ys.reverse:=by
 induction h with
 | nil=>exact .nil
 | cons a _ ih=>rw[List.reverse_cons,List.reverse_cons];exact gx ih (.cons a .nil)
theorem ET {its:List Value} {acc:Array Value} (h:ItemsOf (fun i v=>its.toArray[its.toArray.size-1-i]? =some v) acc its.toArray.size):acc.toList=its.reverse:=by
 obtain⟨hs,hv⟩:=h
 simp only[List.size_toArray,List.getElem?_toArray] at hs hv
 apply List.ext_getElem?
 intro j
 by_cases hj:j<its.length
 ·have e1:acc[j]? =some acc[j]:=Array.getElem?_eq_getElem (by omega)
  have e2:=hv j _ e1
  rw[List.getElem?_reverse hj,e2,Array.getElem?_toList,e1]
 ·rw[List.getElem?_eq_none (by rw[Array.length_toList];omega),List.getElem?_eq_none (by rw[List.length_reverse];omega)]
section
variable {X:Cx}
def ZH (K:PySem.W.Frag) (ta:TA):TE:=fun σ H Q=>ta σ H fun vs H1=>∃(a:Addr) (xs:List V),vs=[.ref a]∧cf K H1 a xs∧∀l,H1 l=none→Q (.ref l) (upd H1 l (.lst xs.reverse))
theorem C3 (K:PySem.W.Frag) {a:Expr} {ta:TA} {p p' pos pos':Pos} (hc:X.calm=true) (hg:Gl X "list") (hm:X.mg "list"=none) (hg':Gl X "reversed") (hm':X.mg "reversed"=none) (ha:PA X [a] ta) (hK:X.K=K:=by rfl)
  (hs:starEach [a] X.env=[(false,eval a X.env)]:=by rfl):PE X (.Call (.Name "list" p) [.Call (.Name "reversed" p') [a] [] pos'] [] pos) (ZH K ta):=by
 subst hK
 intro pins s σ H Q I h
 refine wpAny_Call_Name_kw (km I hg hm KC ?_)
 refine PyProof.Rows.callWith_type1 ?_ rfl rfl
 rw[show starEach [.Call (.Name "reversed" p') [a] [] pos'] X.env=[(false,eval (.Call (.Name "reversed" p') [a] [] pos') X.env)] from rfl]
 show wpAny _ _ (spliced [(false,eval (.Call (.Name "reversed" p') [a] [] pos') X.env)]) _ _ s
 refine Calls.spliced_cons ?_
 refine Call_ (km I hg' hm' AB (PyProof.Rows.callWith_type1 (bf (ha pos' pins s σ H _ I h) fun us s1 ⟨vs,H1,I1,r1,q1⟩=>?_) hs rfl))
 obtain⟨l,xs,e,hq,q⟩:=q1
 subst e
 cases r1 with
 | cons r rr=>
  cases rr
  cases r
  obtain⟨its,rv,pl,hz⟩:=I1.list hq
  have hl:=rv.length
  refine call_reversed_list pl.isList (Calls.spliced_nil ?_)
  have bl:l<s1.heap.objs.size:=by obtain⟨o,e,_⟩:=pl.isList;exact Heap.lt_size e
  refine xB (I1.ok.hd hc) (I:=s1.heap.objs.size) (its:=its.toArray) (Nat.ne_of_lt bl) ⟨_,Heap.get?_push_size _ rfl,rfl,rfl⟩ (pl.isList.push _) (by simp only[List.size_toArray];omega) fun h' tk acc c k e it=>?_
  have ei:=ET it
  have kp:∀b u,s1.heap.get? b=some u→h'.get? b=some u:=fun b u e=>k b u (Nat.ne_of_lt (Heap.lt_size e)) (Heap.get?_push_of_some _ e)
  rw[Heap.size_push] at e
  have hp:s1.heap.objs.size≤s1.heap.objs.size+1:=Nat.le_succ _
  refine⟨.ref (s1.heap.objs.size+1),_,I1.laid (t':=tk) kp hp (show cZ X.prog X.w _ h' _ (.lst xs.reverse) from⟨by rw[List.length_reverse];exact hz,acc.toList,c,by rw[ei];exact vx rv,e⟩),?_,q _ (I1.hok.fresh hp)⟩
  show RelV (.ref _) _
  rw[show(s1.heap.push (revObj l ((its.toArray.size:Int)-1))).objs.size=s1.heap.objs.size+1 from Heap.size_push ..]
  rfl
def Ta (K:PySem.W.Frag):List V→Hp→VK→Prop:=fun xs H Q=>∃(a:Addr) (bs:List Bool),xs=[.ref a]∧cf K H a (bs.map V.bl)∧Q (.bl (bs.all id)) H
theorem C4 {bs:List Bool} {its:List Value} (r:Vals (bs.map V.bl) its):its=bs.map Value.bool:=by
 induction bs generalizing its with
 | nil=>cases r;rfl
 | cons b bs ih=>
  cases r with
  | cons r1 r2=>
   rw[List.map_cons,ih r2]
   exact congrArg (· ::_) r1
theorem EU (K:PySem.W.Frag) (hc:X.calm=true) (hK:X.K=K:=by rfl):fO X (.builtin "all") (Ta K):=by
 subst hK
 intro pins s σ H xs us Q I r h
 obtain⟨a,bs,rfl,hq,q⟩:=h
 obtain⟨u,rfl,ru⟩:=vals1 r
 cases ru
 obtain⟨its,rv,p,_⟩:=I.list hq
 have e:=C4 rv
 have bl:a<s.heap.objs.size:=by obtain⟨o,e,_⟩:=p.isList;exact Heap.lt_size e
 refine call_all_walk ?_
 refine wpAny_pyIter_list p.isList ?_
 refine⟨s.heap.objs.size,_,_,_,_,_,fun i=>(bs.getD i false),rfl,Walks.list (A:=X.A.in1) (I.ok.hd hc) _ a (Nat.ne_of_lt bl) its.toArray,⟨⟨_,Heap.get?_push_size _ rfl,rfl,rfl⟩,p.isList.push _⟩,?_,fun h' tk k=>?_⟩
 ·intro i v s' Q' E' hv hQ'
  have:v=.bool (bs.getD i false):=by
   rw[List.getElem?_toArray,e,List.getElem?_map] at hv
   rw[List.getD_eq_getElem?_getD]
   cases eb:bs[i]? with
   | none=>rw[eb] at hv;cases hv
   | some b=>rw[eb] at hv;exact(Option.some.inj hv).symm
  rw[this]
  exact wpAny_truthy_bool hQ'
 ·refine⟨.bl (bs.all id),H,I.kept fun b o eo=>k b o (fun z=>Nat.ne_of_lt (Heap.lt_size eo) (List.mem_singleton.mp z)) (Heap.get?_push_of_some _ eo),?_,q⟩
  have hl:its.toArray.size=bs.length:=by simp[e]
  have ea:∀cs:List Bool,(List.range cs.length).all (fun i=>cs.getD i false)=cs.all id:=fun cs=>by
   induction cs with
   | nil=>rfl
   | cons c cs ih=>
    rw[List.length_cons,List.range_succ_eq_map,List.all_cons,List.all_map,List.all_cons,←ih]
    rfl
  show _=Value.bool _
  rw[hl,ea]
theorem uH:∀{vs:List Value} {ss:List Str},vs.length=ss.length→(∀(i:Nat) (v:Value) (x:Str),vs[i]? =some v→ss[i]? =some x→∃t,v=.str x t)→StrsAre vs ss
 | [],[],_,_=>.nil
 | [],_::_,h,_=>by cases h
 | _::_,[],h,_=>by cases h
 | v::vs,x::ss,h,k=>by
  obtain⟨t,rfl⟩:=k 0 v x rfl rfl
  exact .cons x t (uH (Nat.succ.inj h) fun i v y e1 e2=>k (i+1) v y e1 e2)
end
theorem KH (t:SetTable) (es:Array (Int×Value)) (h:Int) (x:Value):(layNew t es h x).2.1.led=t.led:=by
 unfold layNew
 split
 ·unfold SetTable.put SetTable.orStandIn SetTable.standIn
  dsimp only
  repeat' split
  all_goals rfl
 ·rfl
theorem EV (t:SetTable) (es:Array (Int×Value)) (n:Nat):(relayAll t es n).2.1.led=t.led:=by
 unfold relayAll
 split
 ·rename_i q r e
  unfold SetTable.relaid SetTable.laid at e
  dsimp only
  split
  ·simp only[Option.bind_eq_bind,Option.bind_eq_some_iff,Option.pure_def,Option.some.injEq,Prod.mk.injEq] at e
   obtain⟨_,_,e1,_⟩:=e
   rw[←e1]
  ·rfl
 ·rfl
theorem AF {t:SetTable} (es:Array (Int×Value)) (n:Nat) (hp:t.plain=false):(relayAll t es n).2.1.plain=false:=by
 unfold relayAll
 split
 ·rename_i q r e
  unfold SetTable.relaid SetTable.laid at e
  dsimp only
  split
  ·simp only[Option.bind_eq_bind,Option.bind_eq_some_iff,Option.pure_def,Option.some.injEq,Prod.mk.injEq] at e
   obtain⟨_,_,e1,_⟩:=e
   rw[←e1]
   exact hp
  ·rfl
 ·rfl
structure dJ (P:Program) (w:World) (h:Heap) (a:Addr) (es:Array (Int×Value)) (ep:Nat) (t:SetTable) (ks:List Str):Prop where
 obj:∃o,h.get? a=some o∧o.ExactSet∧o.data=.set es ep t
 elems:ElemsOf (strKind P w) es.toList
 small:es.size<scanBound
 fits:t.fits es.size=true
 led:t.led= !w.params.followText "set-order"
 plain:es.size≠0→t.plain=false
 vals:StrsAre (es.toList.map (·.2)) ks
 once:ks.Nodup
theorem dJ.at {P:Program} {w:World} {h h':Heap} {a:Addr} {es:Array (Int×Value)} {ep:Nat} {t:SetTable} {ks:List Str} (s:dJ P w h a es ep t ks) (k:∀o,h.get? a=some o→h'.get? a=some o):dJ P w h' a es ep t ks:=by
 obtain⟨o,e,r⟩:=s.obj
 exact⟨⟨o,k o e,r⟩,s.elems,s.small,s.fits,s.led,s.plain,s.vals,s.once⟩
theorem dJ.len {P:Program} {w:World} {h:Heap} {a:Addr} {es:Array (Int×Value)} {ep:Nat} {t:SetTable} {ks:List Str} (s:dJ P w h a es ep t ks):es.size=ks.length:=by
 have:=s.vals.length
 rw[List.length_map,Array.length_toList] at this
 exact this
theorem oh {vs us:List Value} (p:vs.Perm us):∀{ks:List Str},StrsAre us ks→∃ks',StrsAre vs ks'∧ks'.Perm ks:=by
 induction p with
 | nil=>intro ks h;cases h;exact⟨[],.nil,.refl _⟩
 | cons x _ ih=>
  intro ks h
  cases h with
  | cons y tk r=>
   obtain⟨k',a,b⟩:=ih r
   exact⟨y::k',.cons y tk a,b.cons y⟩
 | swap x y l=>
  intro ks h
  cases h with
  | cons a ta r=>
   cases r with
   | cons b tb r=>exact⟨b::a::_,.cons b tb (.cons a ta r),.swap a b _⟩
 | trans _ _ ih1 ih2=>
  intro ks h
  obtain⟨k1,a1,b1⟩:=ih2 h
  obtain⟨k2,a2,b2⟩:=ih1 a1
  exact⟨k2,a2,b2.trans b1⟩
theorem GX {us vs:List Value} {ks ls:List Str} (h1:StrsAre us ks) (h2:StrsAre vs ls):StrsAre (us++vs) (ks++ls):=by
 induction h1 with
 | nil=>exact h2
 | cons x tk _ ih=>exact .cons x tk ih
theorem GY {us:List Value} {ks:List Str} (h:StrsAre us ks) {x:Str}:x∈ks↔∃tk,Value.str x tk∈us:=by
 induction h with
 | nil=>simp
 | cons y tk _ ih=>
  constructor
  ·intro m
   rcases List.mem_cons.mp m with e | m
   ·exact⟨tk,by rw[e];exact List.mem_cons_self⟩
   ·obtain⟨t',m'⟩:=ih.mp m
    exact⟨t',List.mem_cons_of_mem _ m'⟩
  ·rintro⟨t',m⟩
   rcases List.mem_cons.mp m with e | m
   ·injection e with e1 _
    rw[e1];exact List.mem_cons_self
   ·exact List.mem_cons_of_mem _ (ih.mpr ⟨t',m⟩)
section
variable {P:Program} {w:World} {A:Around} {E:Value→Shared→Prop} {s:Shared}
theorem GZ {a:Addr} {es:Array (Int×Value)} {ep:Nat} {t:SetTable} {ks:List Str} {x:Str} {tk:Tok} {Q:Bool→Shared→Prop} (S:dJ P w s.heap a es ep t ks) (room:ks.length+1<scanBound)
  (hold:x∈ks→Q false s)
  (hnew:x ∉ ks→∀h' es' ep' t' ks',Heap.SameBut a s.heap h'→dJ P w h' a es' ep' t' ks'→(∀y,y∈ks'↔y∈ks∨y=x)→ks'.length=ks.length+1→Q true {s with heap:=h'}):
  wpAny (model P w) A (setAddHashed a (.str x tk) (hashStr w x)) Q E s:=by
 obtain⟨o,ho,hex,hd⟩:=S.obj
 have Q3:=S.len
 have Q4:(strKind P w).is x (.str x tk)=true:=strKind_is P w x tk
 have L5:(Value.str x tk).scannable=true:=rfl
 have hhash:hashStr w x=(strKind P w).hash x:=rfl
 rw[hhash]
 unfold setAddHashed setAddHashedIn
 refine wpAny_holding (wpAny_bind (wpAny_setState_of ho hd S.fits ?_))
 dsimp only
 rw[byScan_of L5 S.small S.elems,if_pos rfl]
 unfold setAddByScan
 refine wpAny_bind (wpAny_bind (wpAny_rule (wpAny_bind (wpAny_setScan_of Q4 ho hd S.fits S.elems ?_))))
 have L6:x∈ks↔∃e∈es.toList,(strKind P w).is x e.2=true:=by
  rw[GY S.vals]
  constructor
  ·rintro⟨t',m⟩
   obtain⟨e,he,e2⟩:=List.mem_map.mp m
   exact⟨e,he,by rw[e2];exact strKind_is P w x t'⟩
  ·rintro⟨e,he,hi⟩
   obtain⟨t',e2⟩:=Value.isStrOf_shape (x:=x) (v:=e.2) hi
   exact⟨t',by rw[←e2];exact List.mem_map.mpr ⟨e,he,rfl⟩⟩
 cases hr:List.findIdx? (fun e=>(strKind P w).is x e.2) es.toList with
 | some j=>
  dsimp only
  obtain⟨hj,hpj,_⟩:=List.findIdx?_eq_some_iff_getElem.mp hr
  exact wpAny_pure (wpAny_pure (hold (L6.mpr ⟨_,List.getElem_mem hj,hpj⟩)))
 | none=>
  dsimp only
  have nk:x ∉ ks:=fun m=>by
   obtain⟨e,he,hp⟩:=L6.mp m
   have:=List.findIdx?_eq_none_iff.mp hr e he
   rw[hp] at this
   cases this
  have hperm:=layNew_perm t es ((strKind P w).hash x) (.str x tk)
  have hfits:=layNew_fits t es ((strKind P w).hash x) (.str x tk)
  have C5:=KH t es ((strKind P w).hash x) (.str x tk)
  generalize layNew t es ((strKind P w).hash x) (.str x tk)=L at hperm hfits C5 ⊢
  obtain⟨es1,t1,wasDummy,gave⟩:=L
  dsimp only at hperm hfits C5 ⊢
  rw[Array.toList_push] at hperm
  have el1:ElemsOf (strKind P w) es1.toList:=(S.elems.push Q4 L5).perm hperm
  have sz1:es1.size=es.size+1:=by rw[←Array.length_toList,hperm.length_eq,List.length_append,Array.length_toList];rfl
  have Q5:es1.size<scanBound:=by omega
  obtain⟨wC,v1,p1⟩:=oh (hperm.map (·.2)) (ks:=ks++[x]) (by rw[List.map_append];exact GX S.vals (.cons x tk .nil))
  have Q6:wC.Nodup:=p1.nodup_iff.mpr (List.nodup_append.mpr ⟨S.once,by simp,fun y hy z hz=>by rw[List.mem_singleton.mp hz];exact fun e=>nk (e▸hy)⟩)
  have L7:∀y,y∈wC↔y∈ks∨y=x:=fun y=>by rw[p1.mem_iff,List.mem_append,List.mem_singleton]
  have kx:wC.length=ks.length+1:=by rw[p1.length_eq,List.length_append];rfl
  have fin:∀t2:SetTable,t2.fits es1.size=true→t2.led=t.led→t2.plain=false→
    wpAny (model P w) A (do
     storeSet a es1 t2
     if(!wasDummy&&t2.tooFull)=true then do
       (match (relayAll t2 es1 (SetTable.grown es1.size)).2.2 with | true=>rule "set.scan.the-table-gave-way" | false=>pure ())
       storeSet a (relayAll t2 es1 (SetTable.grown es1.size)).1 (relayAll t2 es1 (SetTable.grown es1.size)).2.1
       pure (some true)
      else pure (some true)) (fun r s'=>r=some true∧Q true s') E s:=fun t2 f2 l2 p2=>by
   refine wpAny_bind (wpAny_storeSet_of ho hd ?_ (fits_of_scanBound Q5))
   have hg:(s.heap.update a (Obj.putSet es1 t2)).get? a=some {o with data:=.set es1 (ep+1) t2}:=by
    have q:=Heap.get?_update_self (Obj.putSet es1 t2) ho (by rw[putSet_of es1 t2 hd];rfl)
    rw[putSet_of es1 t2 hd] at q
    exact q
   have EW:=Heap.SameBut.update s.heap a (Obj.putSet es1 t2)
   have S1:dJ P w (s.heap.update a (Obj.putSet es1 t2)) a es1 (ep+1) t2 wC:=⟨⟨_,hg,hex,rfl⟩,el1,Q5,f2,by rw[l2];exact S.led,fun _=>p2,v1,Q6⟩
   split
   ·have pr:=relayAll_perm t2 es1 (SetTable.grown es1.size)
    have fr:=relayAll_fits t2 es1 (SetTable.grown es1.size)
    have lr:=EV t2 es1 (SetTable.grown es1.size)
    have L8:=AF es1 (SetTable.grown es1.size) p2
    generalize relayAll t2 es1 (SetTable.grown es1.size)=Rl at pr fr lr L8 ⊢
    obtain⟨es2,t3,gv⟩:=Rl
    dsimp only at pr fr lr L8 ⊢
    have ZI:es2.size=es1.size:=by rw[←Array.length_toList,pr.length_eq,Array.length_toList]
    have Q7:es2.size<scanBound:=by omega
    obtain⟨EY,v2,p2'⟩:=oh (pr.map (·.2)) v1
    refine wpAny_bind ?_
    have rest:wpAny (model P w) A (do storeSet a es2 t3;pure (some true)) (fun r s'=>r=some true∧Q true s') E {s with heap:=s.heap.update a (Obj.putSet es1 t2)}:=by
     refine wpAny_bind (wpAny_storeSet_of hg rfl (wpAny_pure ⟨rfl,?_⟩) (fits_of_scanBound Q7))
     have hg2:=Heap.get?_update_self (Obj.putSet es2 t3) hg (by rw[putSet_of es2 t3 rfl];rfl)
     rw[putSet_of es2 t3 rfl] at hg2
     exact hnew nk _ es2 (ep+1+1) t3 EY (EW.trans (Heap.SameBut.update _ a _)) ⟨⟨_,hg2,hex,rfl⟩,el1.perm pr,Q7,by rw[ZI] at fr ⊢;exact fr,by rw[lr,l2];exact S.led,fun _=>L8,v2,p2'.nodup_iff.mpr Q6⟩
      (fun y=>by rw[p2'.mem_iff];exact L7 y) (by rw[p2'.length_eq];exact kx)
    cases gv
    ·exact wpAny_pure rest
    ·exact wpAny_rule rest
   ·exact wpAny_pure ⟨rfl,hnew nk _ es1 (ep+1) t2 wC EW S1 L7 kx⟩
  refine wpAny_bind ?_
  have rest:wpAny (model P w) A (do
    let byValue ←if t1.plain=true then hashByValue 8 (.str x tk) else pure true
    storeSet a es1 (if byValue=true then t1 else {t1 with plain:=false})
    if(!wasDummy&&(if byValue=true then t1 else {t1 with plain:=false}).tooFull)=true then do
      (match (relayAll (if byValue=true then t1 else {t1 with plain:=false}) es1 (SetTable.grown es1.size)).2.2 with | true=>rule "set.scan.the-table-gave-way" | false=>pure ())
      storeSet a (relayAll (if byValue=true then t1 else {t1 with plain:=false}) es1 (SetTable.grown es1.size)).1 (relayAll (if byValue=true then t1 else {t1 with plain:=false}) es1 (SetTable.grown es1.size)).2.1
      pure (some true)
     else pure (some true)) (fun r s'=>r=some true∧Q true s') E s:=by
   cases hpl:t1.plain with
   | true=>
    rw[if_pos rfl,hashByValue_scannable 8 L5]
    refine wpAny_bind (wpAny_pure ?_)
    exact fin {t1 with plain:=false} (SetTable.fits_plain_off hfits) C5 rfl
   | false=>
    rw[if_neg (by decide)]
    refine wpAny_bind (wpAny_pure ?_)
    exact fin t1 hfits C5 hpl
  have go:∀r s',(r=some true∧Q true s')→wpAny (model P w) A (match r with | some added=>pure added | none=>setAddHashedIn a (.str x tk) ((strKind P w).hash x) 99999) Q E s':=fun r s' ⟨e,q⟩=>by
   subst e
   exact wpAny_pure q
  cases gave
  ·exact wpAny_pure (bf rest go)
  ·exact wpAny_rule (bf rest go)
end
theorem sI {us:List Value} {xs:List Str} (hi:StrsAre us xs):∀(i:Nat) (v:Value),us[i]? =some v→∃x t,xs[i]? =some x∧v=.str x t:=by
 induction hi with
 | nil=>intro i v hv;simp at hv
 | cons y ty _ ih=>
  intro i v hv
  cases i with
  | zero=>
   have e:Value.str y ty=v:=by simpa using hv
   exact⟨y,ty,rfl,e.symm⟩
  | succ i=>exact ih i v (by simpa using hv)
section
variable {P:Program} {w:World} {A:Around} {R:Result→Shared→Prop} {I S:Addr} {fp wr:List Addr} {G:Array GenState→Array GenState→Prop} {n:Nat} {Pv:Nat→Value→Prop} {St:Nat→Shared→Prop}
theorem G_ (W:WalksS P w A.in1 I fp wr G n Pv St) (hSf:S ∉ fp) (xs:List Str) (Q8:xs.length=n) (hval:∀i v,Pv i v→∃x t,xs[i]? =some x∧v=.str x t) (hb:n+1<scanBound):
  ∀(k i:Nat) (s:Shared) (es:Array (Int×Value)) (ep:Nat) (t:SetTable) (ks:List Str),n-i=k→i≤n→St i s→dJ P w s.heap S es ep t ks→(∀y,y∈ks↔y∈xs.take i)→ks.length≤i→
   (∀s' es' ep' t' ks',Moved (S::wr) G s s'→dJ P w s'.heap S es' ep' t' ks'→(∀y,y∈ks'↔y∈xs)→ks'.length≤n→R (.ok (.ret .none)) s')→
   codeAny (model P w) A (.builtin "set.update.loop" ⟨[.ref S,.ref I],[]⟩) R s:=by
 have hSw:S ∉ wr:=fun z=>hSf (W.sub _ z)
 have more:∀b∈wr,b∈S::wr:=fun b z=>List.mem_cons_of_mem _ z
 intro k
 induction k with
 | zero=>
  intro i s es ep t ks hk hi st hS hm hl hR
  have e:i=n:=by omega
  subst e
  refine codeAny_builtin PyProof.Rows.F.entry_set_update_loop ?_
  rw[Around.under_plainId PyProof.Rows.F.plain_set_update_loop]
  show wpAny (model P w) A.in1 (pyNext (.ref I) >>= _) _ _ s
  refine wpAny_bind (W.done s _ _ st fun s' mv=>?_)
  show wpAny (model P w) A.in1 (ret Value.none) _ _ s'
  refine wpAny_pure (hR s' es ep t ks (mv.mono more) (hS.at fun o q=>mv.heap S o hSw q) (fun y=>?_) hl)
  rw[hm y,List.take_of_length_le (by omega)]
 | succ k ih=>
  intro i s es ep t ks hk hi st hS hm hl hR
  have lt:i<n:=by omega
  refine codeAny_builtin PyProof.Rows.F.entry_set_update_loop ?_
  rw[Around.under_plainId PyProof.Rows.F.plain_set_update_loop]
  show wpAny (model P w) A.in1 (pyNext (.ref I) >>= _) _ _ s
  refine wpAny_bind (W.item i s _ _ lt st fun v s' hv st' mv=>?_)
  obtain⟨x,tx,ex,rfl⟩:=hval i v hv
  have hS':dJ P w s'.heap S es ep t ks:=hS.at fun o q=>mv.heap S o hSw q
  have tk1:∀y,y∈xs.take (i+1)↔y∈xs.take i∨y=x:=fun y=>by rw[List.take_add_one,ex];simp
  show wpAny (model P w) A.in1 (holding [Value.str x tx] (setAdd S (.str x tx)) >>= _) _ _ s'
  refine wpAny_bind (wpAny_holding ?_)
  unfold setAdd
  refine wpAny_holding (wpAny_bind ((strKind P w).pyHash (k:=x) (strKind_is _ _ _ _) ?_))
  refine GZ (s:={s' with toks:=s'.toks+1}) hS' (by omega) (fun hx=>?_) (fun hx h' es' ep' t' ks' sb S2 m2 l2=>?_)
  ·refine wpAny_pure ⟨plainId_quiet PyProof.Rows.F.plain_set_update_loop _,ih (i+1) _ es ep t ks (by omega) lt (W.frame _ s' s'.heap _ st' (Nat.le_succ _) fun b _ o q=>q) hS' (fun y=>?_) (by omega) fun s2 es2 jh t2 EY mv2 S2 m2 l2=>?_⟩
   ·rw[hm y,tk1 y]
    constructor
    ·exact .inl
    ·rintro(z | z)
     ·exact z
     ·rw[z];exact(hm x).mp hx
   ·exact hR s2 es2 jh t2 EY (Moved.trans W.gtrans ((mv.mono more).then_heap (Nat.le_succ _) fun b o _ q=>q) mv2) S2 m2 l2
  ·refine wpAny_pure ⟨plainId_quiet PyProof.Rows.F.plain_set_update_loop _,ih (i+1) _ es' ep' t' ks' (by omega) lt (W.frame _ s' h' _ st' (Nat.le_succ _) fun b hb o q=>?_) S2 (fun y=>?_) (by omega) fun s2 es2 jh t2 EY mv2 S2 m2 l2=>?_⟩
   ·exact(sb.2 b (fun z=>hSf (z▸hb))).trans q
   ·rw[m2 y,hm y,tk1 y]
   ·exact hR s2 es2 jh t2 EY (Moved.trans W.gtrans ((mv.mono more).then_heap (Nat.le_succ _) fun b o hb q=>(sb.2 b (fun z=>hb (z▸List.mem_cons_self))).trans q) mv2) S2 m2 l2
end
section
variable {P:Program} {w:World} {A:Around} {E:Value→Shared→Prop} {s:Shared}
abbrev fK (w:World):Obj:={cls:=.type "set",dict:=none,data:=.set #[] 0 (.fresh 0 0 (!w.params.followText "set-order"))}
theorem G' (v:Value) {Q:Value→Shared→Prop} (h:Q (.ref s.heap.objs.size) {s with heap:=s.heap.push (fK w)}):
  codeAny (model P w) A (.call (.builtin "set.__new__") ⟨[.type "set",v],[]⟩) (wants Q E) s:=by
 refine codeAny_of_tree ?_
 show wpAny (model P w) A.in1 (do checkBuiltinCall "set.__new__" ⟨[.type "set",v],[]⟩;again (.builtin "set.__new__" ⟨[.type "set",v],[]⟩)) _ _ s
 refine wpAny_bind (wpAny_of_eq (PySem.F.newCall_set_1 v) (wpAny_pure ⟨plainId_quiet PySem.F.plain_set_new _,codeAny_builtin PySem.F.entry_set_new ?_⟩))
 rw[Around.under_plainId PySem.F.plain_set_new]
 unfold Builtin.«set.__new__» Builtin.Frozenset.newClass
 have hsub:=sub_set_self
 obtain⟨hp,g,d,tk,os⟩:=s
 dsimp only
 wp_walk
 refine wpAny_askSetting (wpAny_pure ?_)
 dsimp only
 simp only[newObj]
 exact wpAny_bind (wpAny_alloc (wpAny_pure (wpAny_pure h)))
theorem EZ (h:Heap):dJ P w (h.push (fK w)) h.objs.size #[] 0 (.fresh 0 0 (!w.params.followText "set-order")) []:=
 ⟨⟨_,Heap.get?_push_size _ rfl,⟨rfl,rfl,rfl⟩,rfl⟩,fun e he=>(by simp at he),by decide,rfl,rfl,fun z=>absurd rfl z,.nil,by simp⟩
theorem yL {l:Addr} {its:Array Value} {xs:List Str} {Q:Value→Shared→Prop} (hh:A.handled=none) (hl:s.heap.IsList l its) (hi:StrsAre its.toList xs) (hb:its.size+1<scanBound)
  (h:∀(h':Heap) (tk:Nat) es ep t ks,dJ P w h' s.heap.objs.size es ep t ks→(∀y,y∈ks↔y∈xs)→ks.length≤its.size→(∀b o,b<s.heap.objs.size→s.heap.get? b=some o→h'.get? b=some o)→Q (.ref s.heap.objs.size) {s with heap:=h',toks:=tk}):
  wpAny (model P w) A (call (.type "set") [.ref l]) Q E s:=by
 obtain⟨c,tl,hmro⟩:=PySem.F.called_set.mro
 have hmade:=PySem.F.called_set.made
 have hsub:=PySem.F.called_set.sub
 refine wpAny_call (codeAny_of_tree ?_)
 show wpAny _ _ (callAny (.type "set") _) _ _ _
 refine wpAny_pure ⟨Code.quiet_builtin _ (by decide+kernel),codeAny_builtin PySem.F.entry_type_call ?_⟩
 rw[Around.under_plain (weight_type_call_type "set" [.ref l] []) rfl]
 have a1:=PySem.F.called_set.notType
 have a2:=PySem.F.called_set.canCreate
 have a3:=PySem.F.typeCall_set_1 (.ref l)
 repeat (any_goals (first | assumption | wp_step))
 refine codeAny_mono (G' (.ref l) (E:=E) (Q:=fun obj s₁=>obj=.ref s.heap.objs.size∧s₁={s with heap:=s.heap.push (fK w)}) ⟨rfl,rfl⟩) fun r s₁ hr=>?_
 cases r with
 | error e=>exact hr
 | ok fl=>
  cases fl with
  | ret obj=>
   obtain⟨rfl,rfl⟩:=hr
   have gS:(s.heap.push (fK w)).get? s.heap.objs.size=some (fK w):=Heap.get?_push_size _ rfl
   have hT:Shared.TypeIs {s with heap:=s.heap.push (fK w)} (.ref s.heap.objs.size) "set":=⟨_,gS,rfl⟩
   have a4:=PySem.F.called_set.init.lookup
   have a5:=PySem.F.called_set.init.bind (.ref s.heap.objs.size)
   repeat (any_goals (first | assumption | wp_step))
   refine codeAny_mono (codeAny_call_builtin (R:=wants (fun r s₂=>r=.none∧∃h' tk es ep t ks,s₂={s with heap:=h',toks:=tk}∧dJ P w h' s.heap.objs.size es ep t ks∧(∀y,y∈ks↔y∈xs)∧ks.length≤its.size∧
     (∀b o,b<s.heap.objs.size→s.heap.get? b=some o→h'.get? b=some o)) E) PySem.F.called_set.init.plain PySem.F.entry_set_init (check_set_init_1 hT ?_)) fun r₂ s₂ hr₂=>?_
   ·obtain⟨ol,hol,hcl,nl,hdl⟩:=hl
    obtain⟨ocls,odict,odata,oslots⟩:=ol
    simp only at hcl hdl
    subst hcl hdl
    have hol':(s.heap.push (fK w)).get? l=some {cls:=.type "list",dict:=odict,data:=.seq its nl,slots:=oslots}:=Heap.get?_push_of_some _ hol
    have b1:=PySem.F.sub_list_set
    have b2:=PySem.F.sub_list_frozenset
    have b3:(Value.type "list" == Value.type "dict")=false:=by decide
    have hl1:(s.heap.push (fK w)).IsList l its:=⟨_,hol',rfl,nl,rfl⟩
    unfold Builtin.«set.__init__» noKeywords Builtin.Frozenset.updateFrom
    generalize hPI:pyIter=PI
    wp_walk
    subst hPI
    refine wpAny_pyIter_list hl1 ?_
    refine wpAny_bind (wpAny_runValue ?_)
    have lS:l<s.heap.objs.size:=Heap.lt_size hol
    have hh3:A.in1.in1.in1.handled=none:=by simp[hh]
    have Jk:l≠(s.heap.push (fK w)).objs.size:=by rw[Heap.size_push];exact Nat.ne_of_lt (Nat.lt_succ_of_lt lS)
    have nf:s.heap.objs.size ∉ [(s.heap.push (fK w)).objs.size,l]:=by
     rw[Heap.size_push]
     simp only[List.mem_cons,List.not_mem_nil,or_false,not_or]
     exact⟨Nat.ne_of_lt (Nat.lt_succ_self _),Nat.ne_of_gt lS⟩
    have Q8:xs.length=its.size:=by rw[←hi.length,Array.length_toList]
    have hval:∀(i:Nat) (v:Value),its[i]? =some v→∃x t,xs[i]? =some x∧v=.str x t:=fun i v hv=>sI hi i v (by rw[Array.getElem?_toList];exact hv)
    refine G_ ((Walks.list hh3 _ l Jk its).toS) nf xs Q8 hval hb (its.size-0) 0 _ #[] 0 _ [] (by omega) (Nat.zero_le _) ⟨⟨_,Heap.get?_push_size _ rfl,rfl,rfl⟩,hl1.push _⟩ ((EZ s.heap).at fun o q=>Heap.get?_push_of_some _ q) (fun y=>by simp) (Nat.le_refl _) ?hR
    case hR=>
     intro s' es' ep' t' ks' hm hS' hmem hlen
     obtain⟨h',g',d',tk',os'⟩:=s'
     have eg:g'=s.gens:=hm.gens
     have ed:d'=s.drawn:=hm.drawn
     have eo:os'=s.os:=hm.os
     subst eg ed eo
     show wpAny _ _ _ _ _ _
     refine wpAny_pure ?_
     show wpAny _ _ (ret Value.none) _ _ _
     refine wpAny_pure ⟨rfl,h',tk',es',ep',t',ks',rfl,hS',hmem,hlen,fun b o hb e=>?_⟩
     refine hm.heap b o ?_ (Heap.get?_push_of_some _ (Heap.get?_push_of_some _ e))
     simp only[List.mem_cons,List.not_mem_nil,or_false,not_or]
     rw[Heap.size_push]
     exact⟨Nat.ne_of_lt hb,Nat.ne_of_lt (Nat.lt_succ_of_lt hb)⟩
   ·cases r₂ with
    | error e=>exact hr₂
    | ok fl₂=>
     cases fl₂ with
     | ret r=>
      obtain⟨rfl,h',tk,es,ep,t,ks,rfl,hS',hm,Q3,hk'⟩:=hr₂
      repeat (any_goals (first | assumption | wp_step))
      exact h _ _ _ _ _ _ hS' hm Q3 hk'
     | _=>exact hr₂.elim
  | _=>exact hr.elim
end
namespace SI
theorem E_:Manifest.owners.lookup (String.ofList ['r', 'o', 't', 'a', 'r', 'e', 't', 'i', '_', 't', 'e', 's'].reverse)=some Manifest.sig_set_iterator:=by kernel_rfl
theorem slot_next:Slot "set_iterator" "__next__" "set_iterator.__next__":=
 .of (owner:="set_iterator") (n:="__next__") (by rw[typeLookup_type,builtinLookup_eq_fast];kernel_rfl) (by decide+kernel) (by decide+kernel) (by decide+kernel)
  (by first | exact .inl (by decide+kernel) | exact .inr (by decide+kernel)) (by rw[isSubtype_type];kernel_rfl)
theorem wD:Slot "set_iterator" "__iter__" "set_iterator.__iter__":=
 .of (owner:="set_iterator") (n:="__iter__") (by rw[typeLookup_type,builtinLookup_eq_fast];kernel_rfl) (by decide+kernel) (by decide+kernel) (by decide+kernel)
  (by first | exact .inl (by decide+kernel) | exact .inr (by decide+kernel)) (by rw[isSubtype_type];kernel_rfl)
theorem entry_next:entryFor table "set_iterator.__next__"=some Builtin.«set_iterator.__next__» :=entryFor_of_tree (by kernel_rfl)
theorem C6:entryFor table "set_iterator.__iter__"=some Builtin.«dict_keyiterator.__iter__» :=
 entryFor_alias (id':="dict_keyiterator.__iter__") (by kernel_rfl) (by first | rfl | decide+kernel | (unfold String.splitOn;simp+decide [String.splitOnAux])) (by decide+kernel) (by kernel_rfl)
theorem args_next (v:Value):argsOk "set_iterator.__next__" ⟨[v],[]⟩:=by
 unfold argsOk;rw[signature?_of (id:="set_iterator.__next__") (n:=['_', '_', 't', 'x', 'e', 'n', '_', '_']) (o:=['r', 'o', 't', 'a', 'r', 'e', 't', 'i', '_', 't', 'e', 's']) (by kernel_rfl) E_];kernel_rfl
theorem E2 (v:Value):argsOk "set_iterator.__iter__" ⟨[v],[]⟩:=by
 unfold argsOk;rw[signature?_of (id:="set_iterator.__iter__") (n:=['_', '_', 'r', 'e', 't', 'i', '_', '_']) (o:=['r', 'o', 't', 'a', 'r', 'e', 't', 'i', '_', 't', 'e', 's']) (by kernel_rfl) E_];kernel_rfl
theorem vy:entryFor table "set.__iter__"=some Builtin.«frozenset.__iter__» :=
 entryFor_alias (id':="frozenset.__iter__") (by kernel_rfl) (by first | rfl | decide+kernel | (unfold String.splitOn;simp+decide [String.splitOnAux])) (by decide+kernel) (by kernel_rfl)
end SI
abbrev mC (h:Heap) (I:Addr) (F:Array Value):Prop:=h.get? I=some {cls:=.type "set_iterator",dict:=none,data:=.fields F,slots:= #[]}
section
variable {P:Program} {w:World} {A:Around} {E:Value→Shared→Prop} {s:Shared}
theorem vz {I:Addr} {F:Array Value} {Q:Value→Shared→Prop} (hI:mC s.heap I F) (h:Q (.ref I) s):wpAny (model P w) A (pyIter (.ref I)) Q E s:=by
 have hT:s.TypeIs (.ref I) "set_iterator":=⟨_,hI,rfl⟩
 refine wpAny_pyIter_slot hT SI.wD (wpAny_call_entry SI.wD hT SI.C6 ?_ (SI.E2 _))
 show wpAny (model P w) _ (ret (.ref I)) _ _ s
 exact wpAny_pure ⟨_,rfl,"set_iterator",_,hT,SI.slot_next.lookup,h⟩
theorem B_ {I a:Addr} {sl i ep':Nat} {es:Array (Int×Value)} {ep:Nat} {t:SetTable} {ks:List Str} {v:Value} {nx:Nat} {Q:Option Value→Shared→Prop} (hI:mC s.heap I #[rawInt sl,rawInt i,.ref a,rawInt es.size,rawInt ep'])
  (S:dJ P w s.heap a es ep t ks) (hn:∀(B:Around) (E':Value→Shared→Prop) (Q':Option (Value×Nat)→Shared→Prop),Q' (some (v,nx)) s→wpAny (model P w) B (setNext a sl i ep') Q' E' s)
  (h:∀h',mC h' I #[rawInt nx,rawInt (i+1:Nat),.ref a,rawInt es.size,rawInt ep']→Heap.SameBut I s.heap h'→Q (some v) {s with heap:=h'}):wpAny (model P w) A (pyNext (.ref I)) Q E s:=by
 have hT:s.TypeIs (.ref I) "set_iterator":=⟨_,hI,rfl⟩
 obtain⟨o,ho,hex,hd⟩:=S.obj
 unfold pyNext
 refine wpAny_bind (wpAny_attempt (wpAny_callSpecial?_slot (name:=Str.ofString "__next__") hT SI.slot_next (wpAny_call_entry SI.slot_next hT SI.entry_next ?_ (SI.args_next _))))
 refine wpAny_bind (wpAny_pure ?_)
 refine wpAny_bind (wpAny_fieldsOf hI rfl ?_)
 refine wpAny_bind (wpAny_setEntries_of ho hd S.fits ?_)
 rw[if_neg (by simp[rawInt])]
 dsimp only[rawInt]
 rw[Int.toNat_natCast,Int.toNat_natCast,Int.toNat_natCast]
 refine wpAny_bind (hn _ _ _ ?_)
 dsimp only
 refine wpAny_bind (wpAny_setField_rec hI (by simp) fun h1 e1 b1=>?_)
 refine wpAny_bind (wpAny_setField_rec e1 (by simp) fun h2 e2 b2=>?_)
 refine wpAny_pure ⟨v,rfl,wpAny_pure (h h2 ?_ (b1.trans b2))⟩
 simpa[rawInt] using e2
theorem B0 {I:Addr} {F:Array Value} {k0:Option Nat} {Q:Option Value→Shared→Prop} (hh:A.handled=none) (hI:mC s.heap I F) (hk:2<F.size) (h:∀h',Heap.ExtBut I s.heap h'→Q none {s with heap:=h'}):
  wpAny (model P w) A.in1 (do setField (.ref I) 2 .none;raiseNew (←newExc (.type "StopIteration") []))
   (fun fin s'=>∃v,fin=Fin.done (Flow.ret v)∧wpAny (model P w) A (pure (some v)) Q E s')
   (fun e s'=>wpAny (model P w) A (do if ←isInstance e (.type "StopIteration") then pure none else throw e) Q E s') s:=by
 refine wpAny_bind (wpAny_setField_rec hI hk fun h1 e1 b1=>?_)
 refine wpAny_bind ?_
 simp only[newExc,newTuple]
 refine wpAny_bind (wpAny_newObj_type ?_ (by size_fits))
 refine wpAny_bind (m:=firstArgMember _ _) (wpAny_of_eq (a:=Value.none) (by first | rfl | (simp only[firstArgMember];rfl)) ?_)
 refine wpAny_newObj_type ?_ (by size_fits)
 simp only[raiseNew]
 refine wpAny_bind (wpAny_handled ?_)
 rw[show A.in1.handled=none from hh]
 refine wpAny_bind (wpAny_pure (wpAny_throw ?_))
 refine wpAny_bind (wpAny_isInstance (T:="StopIteration") (b:=true) ⟨_,Heap.get?_push_size _ rfl,rfl⟩ isSubtype_stop ?_)
 exact wpAny_pure (h _ ((b1.extBut.push _).push _))
theorem E3 {I a:Addr} {sl i ep':Nat} {es:Array (Int×Value)} {ep:Nat} {t:SetTable} {ks:List Str} {Q:Option Value→Shared→Prop} (hh:A.handled=none) (hI:mC s.heap I #[rawInt sl,rawInt i,.ref a,rawInt es.size,rawInt ep'])
  (S:dJ P w s.heap a es ep t ks) (hn:∀(B:Around) (E':Value→Shared→Prop) (Q':Option (Value×Nat)→Shared→Prop),Q' none s→wpAny (model P w) B (setNext a sl i ep') Q' E' s)
  (h:∀h',Heap.ExtBut I s.heap h'→Q none {s with heap:=h'}):wpAny (model P w) A (pyNext (.ref I)) Q E s:=by
 have hT:s.TypeIs (.ref I) "set_iterator":=⟨_,hI,rfl⟩
 obtain⟨o,ho,hex,hd⟩:=S.obj
 unfold pyNext
 refine wpAny_bind (wpAny_attempt (wpAny_callSpecial?_slot (name:=Str.ofString "__next__") hT SI.slot_next (wpAny_call_entry SI.slot_next hT SI.entry_next ?_ (SI.args_next _))))
 refine wpAny_bind (wpAny_pure ?_)
 refine wpAny_bind (wpAny_fieldsOf hI rfl ?_)
 refine wpAny_bind (wpAny_setEntries_of ho hd S.fits ?_)
 rw[if_neg (by simp[rawInt])]
 dsimp only[rawInt]
 rw[Int.toNat_natCast,Int.toNat_natCast,Int.toNat_natCast]
 refine wpAny_bind (hn _ _ _ ?_)
 dsimp only
 exact B0 (k0:=none) hh hI (by simp) h
theorem wF {T:Addr} {xs:Array Value} {B:Around} {E':Value→Shared→Prop} {Q':Option (Array Value)→Shared→Prop} (hT:s.heap.get? T=some {cls:=.type "tuple",data:=.seq xs}) (h:Q' (some xs) s):wpAny (model P w) B (seqItems? (.ref T)) Q' E' s:=by
 unfold seqItems?
 dsimp only
 refine wpAny_bind (wpAny_load hT ?_)
 exact wpAny_pure h
theorem KI {I a T:Addr} {i p:Nat} {es:Array (Int×Value)} {ep:Nat} {t:SetTable} {ks:List Str} {hv:Int} {v:Value} {ord:List Nat} {Q:Option Value→Shared→Prop} (hI:mC s.heap I #[.ref T,rawInt i,.ref a,rawInt es.size,rawInt ep])
  (hT':s.heap.get? T=some {cls:=.type "tuple",data:=.seq (ord.map fun(i:Nat)=>rawInt i).toArray}) (S:dJ P w s.heap a es ep t ks) (hp:ord[i]? =some p) (he:es[p]? =some (hv,v))
  (h:∀h',mC h' I #[.ref T,rawInt (i+1:Nat),.ref a,rawInt es.size,rawInt ep]→Heap.SameBut I s.heap h'→Q (some v) {s with heap:=h'}):wpAny (model P w) A (pyNext (.ref I)) Q E s:=by
 have hT:s.TypeIs (.ref I) "set_iterator":=⟨_,hI,rfl⟩
 obtain⟨o,ho,hex,hd⟩:=S.obj
 unfold pyNext
 refine wpAny_bind (wpAny_attempt (wpAny_callSpecial?_slot (name:=Str.ofString "__next__") hT SI.slot_next (wpAny_call_entry SI.slot_next hT SI.entry_next ?_ (SI.args_next _))))
 refine wpAny_bind (wpAny_pure ?_)
 refine wpAny_bind (wpAny_fieldsOf hI rfl ?_)
 refine wpAny_bind (wpAny_setEntries_of ho hd S.fits ?_)
 rw[if_neg (by simp[rawInt])]
 dsimp only[rawInt]
 refine wpAny_bind (wF hT' ?_)
 dsimp only
 have e1:(ord.map fun(i:Nat)=>rawInt i).toArray[((i:Nat):Int).toNat]? =some (rawInt p):=by
  rw[Int.toNat_natCast,List.getElem?_toArray,List.getElem?_map,hp];rfl
 rw[e1]
 dsimp only[rawInt]
 refine wpAny_bind ?_
 unfold setNextDrawn
 refine wpAny_bind (wpAny_setState_of ho hd S.fits ?_)
 dsimp only
 rw[Int.toNat_natCast,Int.toNat_natCast,if_neg (by simp),he]
 refine wpAny_pure ?_
 refine wpAny_bind (wpAny_setField_rec hI (by simp) fun h1 e1 b1=>?_)
 refine wpAny_pure ⟨v,rfl,wpAny_pure (h h1 ?_ b1)⟩
 simpa[rawInt] using e1
theorem L9 {I a T:Addr} {i:Nat} {es:Array (Int×Value)} {ep:Nat} {t:SetTable} {ks:List Str} {ord:List Nat} {Q:Option Value→Shared→Prop} (hh:A.handled=none) (hI:mC s.heap I #[.ref T,rawInt i,.ref a,rawInt es.size,rawInt ep])
  (hT':s.heap.get? T=some {cls:=.type "tuple",data:=.seq (ord.map fun(i:Nat)=>rawInt i).toArray}) (S:dJ P w s.heap a es ep t ks) (hp:ord[i]? =none)
  (h:∀h',Heap.ExtBut I s.heap h'→Q none {s with heap:=h'}):wpAny (model P w) A (pyNext (.ref I)) Q E s:=by
 have hT:s.TypeIs (.ref I) "set_iterator":=⟨_,hI,rfl⟩
 obtain⟨o,ho,hex,hd⟩:=S.obj
 unfold pyNext
 refine wpAny_bind (wpAny_attempt (wpAny_callSpecial?_slot (name:=Str.ofString "__next__") hT SI.slot_next (wpAny_call_entry SI.slot_next hT SI.entry_next ?_ (SI.args_next _))))
 refine wpAny_bind (wpAny_pure ?_)
 refine wpAny_bind (wpAny_fieldsOf hI rfl ?_)
 refine wpAny_bind (wpAny_setEntries_of ho hd S.fits ?_)
 rw[if_neg (by simp[rawInt])]
 dsimp only[rawInt]
 refine wpAny_bind (wF hT' ?_)
 dsimp only
 have e1:(ord.map fun(i:Nat)=>rawInt i).toArray[((i:Nat):Int).toNat]? =none:=by
  rw[Int.toNat_natCast,List.getElem?_toArray,List.getElem?_map,hp];rfl
 rw[e1]
 dsimp only
 refine wpAny_bind (wpAny_setField_rec hI (by simp) fun h1 e1 b1=>?_)
 exact B0 (s:={s with heap:=h1}) (k0:=none) hh e1 (by simp) fun h2 x=>h h2 (fun c o hc q=>x c o hc (b1.extBut c o hc q))
theorem sJ {a:Addr} {Q:Bool→Shared→Prop} (h:Q (w.params.followText "set-order") s):wpAny (model P w) A setsByText Q E s:=by
 unfold setsByText
 exact wpAny_bind (wpAny_askSetting (wpAny_pure h))
theorem wG {a:Addr} {es:Array (Int×Value)} {ep:Nat} {t:SetTable} {ks:List Str} {sl i:Nat} {Q:Option (Value×Nat)→Shared→Prop} (S:dJ P w s.heap a es ep t ks) (hb:w.params.followText "set-order"=true)
  (h:Q (((pickOrder (w.params.setOrder a ep) es)[i]?).map fun e=>(e.2,sl)) s):wpAny (model P w) A (setNext a sl i ep) Q E s:=by
 obtain⟨o,ho,hex,hd⟩:=S.obj
 unfold setNext
 refine wpAny_bind (wpAny_setState_of ho hd S.fits ?_)
 dsimp only
 refine wpAny_bind (sJ (a:=a) ?_)
 rw[hb,if_pos rfl,if_neg (by simp)]
 refine wpAny_bind ?_
 unfold setWalk
 refine wpAny_bind (wpAny_setState_of ho hd S.fits ?_)
 dsimp only
 refine wpAny_bind (sJ (a:=a) ?_)
 rw[hb,if_pos rfl]
 refine wpAny_bind (wpAny_askSetting (wpAny_pure ?_))
 exact wpAny_pure h
theorem yM {a:Addr} {es:Array (Int×Value)} {ep:Nat} {t:SetTable} {ks:List Str} {sl i:Nat} {Q:Option (Value×Nat)→Shared→Prop} (S:dJ P w s.heap a es ep t ks) (hb:w.params.followText "set-order"=false) (h1:es.size≤1)
  (h:Q (match es[SetTable.below t.place sl]?,t.place[SetTable.below t.place sl]? with | some (_,x),some j=>some (x,j+1) | _,_=>none) s):wpAny (model P w) A (setNext a sl i ep) Q E s:=by
 obtain⟨o,ho,hex,hd⟩:=S.obj
 have hl:t.led=true:=by rw[S.led,hb];rfl
 unfold setNext
 refine wpAny_bind (wpAny_setState_of ho hd S.fits ?_)
 dsimp only
 refine wpAny_bind (sJ (a:=a) ?_)
 rw[hb,if_neg (by decide)]
 refine wpAny_ite_split (fun hab=>?_) (fun _=>?_)
 ·have hab':(!t.plain&&decide (es.size>1))=true:=hab
  simp at hab'
  omega
 refine wpAny_bind ?_
 show wpAny (model P w) A (if(!t.led&& !es.isEmpty)=true then unsupported _ else pure ()) _ _ s
 rw[hl,if_neg (by simp)]
 exact wpAny_pure (wpAny_pure h)
end
theorem wH {α:Type} (f:Nat→Nat):∀(n k:Nat) (l:List α) (out:Array α),l.length=n→(pickOrder.go f n k l out).toList.Perm (out.toList++l)
 | 0,k,l,out,h=>by
  have:l=[]:=List.length_eq_zero_iff.mp h
  subst this
  unfold pickOrder.go
  rw[List.append_nil]
 | n+1,k,l,out,h=>by
  have lt:f k % l.length<l.length:=Nat.mod_lt _ (by omega)
  unfold pickOrder.go
  rw[List.getElem?_eq_getElem lt]
  dsimp only
  refine(wH f n (k+1) _ _ (by rw[List.length_eraseIdx_of_lt lt];omega)).trans ?_
  rw[Array.toList_push,List.append_assoc]
  refine List.Perm.append_left _ ?_
  have e:l=l.take (f k % l.length)++l[f k % l.length]::l.drop (f k % l.length+1):=by rw[←List.drop_eq_getElem_cons lt,List.take_append_drop]
  rw[List.eraseIdx_eq_take_drop_succ]
  conv=>rhs;rw[e]
  show(l[f k % l.length]::(l.take (f k % l.length)++l.drop (f k % l.length+1))).Perm _
  exact List.perm_middle.symm
section
variable {P:Program} {w:World} {A:Around} {E:Value→Shared→Prop}
theorem wI {α:Type}:∀(n:Nat) (l:List α) (s:Shared) (Q:List α→Shared→Prop),l.length=n→(∀ys d',ys.Perm l→Q ys {s with drawn:=d'})→wpAny (model P w) A (drawOrder n l) Q E s
 | 0,l,s,Q,hl,h=>by
  have:l=[]:=List.length_eq_zero_iff.mp hl
  subst this
  unfold drawOrder
  exact wpAny_pure (h [] s.drawn (.refl _))
 | n+1,[],s,Q,hl,h=>by cases hl
 | n+1,x::l,s,Q,hl,h=>by
  unfold drawOrder
  have go:∀i,i<(x::l).length→wpAny (model P w) A (match (x::l)[i]? with | some y=>do return y::(←drawOrder n ((x::l).eraseIdx i)) | none=>unsupported "internal:drawOrder") Q E {s with drawn:=s.drawn.bump .order}:=fun i hi=>by
   rw[List.getElem?_eq_getElem hi]
   dsimp only
   refine wpAny_bind (wI n _ _ _ (by rw[List.length_eraseIdx_of_lt hi];omega) fun ys d' p=>wpAny_pure ?_)
   refine h _ d' ?_
   have e:(x::l)=(x::l).take i++(x::l)[i]::(x::l).drop (i+1):=by rw[←List.drop_eq_getElem_cons hi,List.take_append_drop]
   refine(p.cons _).trans ?_
   rw[List.eraseIdx_eq_take_drop_succ]
   conv=>rhs;rw[e]
   exact List.perm_middle.symm
  refine wpAny_bind ?_
  exact fun _ _ hΓ=>⟨by simp,go _ (Nat.mod_lt _ (by simp))⟩
end
section
variable {P:Program} {w:World} {A:Around} {E:Value→Shared→Prop} {s:Shared}
abbrev Jl (ks:List Str):Nat→Value→Prop:=fun i v=>∃x tk,ks[i]? =some x∧v=.str x tk
theorem E4 {I a:Addr} {es:Array (Int×Value)} {ep:Nat} {t:SetTable} {ks ks':List Str} (hh:A.handled=none) (hne:a≠I) (hb:w.params.followText "set-order"=true)
  (hv:StrsAre ((pickOrder (w.params.setOrder a ep) es).toList.map (·.2)) ks') (hl:ks'.length=es.size):
  Walks P w A I [I,a] [I] es.size (Jl ks') (fun i h=>mC h I #[rawInt 0,rawInt i,.ref a,rawInt es.size,rawInt ep]∧dJ P w h a es ep t ks) where
 sub:=fun b hb=>by simp at hb;simp[hb]
 frame:=fun _ _ _ st hk=>⟨hk I (by simp) _ st.1,st.2.at fun o q=>hk a (by simp) o q⟩
 item:=fun i s Q E hi st hQ=>by
  have hsz:(pickOrder (w.params.setOrder a ep) es).size=es.size:=by rw[←Array.length_toList,←List.length_map (f:=(·.2)),hv.length,hl]
  obtain⟨e,he⟩:∃e,(pickOrder (w.params.setOrder a ep) es)[i]? =some e:=⟨_,Array.getElem?_eq_getElem (by omega)⟩
  refine B_ (sl:=0) (v:=e.2) (nx:=0) st.1 st.2 (fun B E' Q' q=>wG st.2 hb (by rw[he];exact q)) fun h' e1 b1=>hQ e.2 h' s.toks ?_ ⟨e1,st.2.at fun o q=>(b1.2 a hne).trans q⟩ fun b o hb q=>(b1.2 b (by simpa using hb)).trans q
  obtain⟨x,tk,ex,ev⟩:=sI hv i e.2 (by rw[List.getElem?_map,Array.getElem?_toList,he];rfl)
  exact⟨x,tk,ex,ev⟩
 done:=fun s Q E st hQ=>by
  have hsz:(pickOrder (w.params.setOrder a ep) es).size=es.size:=by rw[←Array.length_toList,←List.length_map (f:=(·.2)),hv.length,hl]
  have he:(pickOrder (w.params.setOrder a ep) es)[es.size]? =none:=Array.getElem?_eq_none (by omega)
  exact E3 (sl:=0) hh st.1 st.2 (fun B E' Q' q=>wG st.2 hb (by rw[he];exact q)) fun h' x=>hQ h' s.toks fun b o hb q=>x b o (by simpa using hb) q
 self:=fun _ _ _ _ st hQ=>vz st.1 hQ
theorem C7 {I a T:Addr} {es:Array (Int×Value)} {ep:Nat} {t:SetTable} {ks ks':List Str} {ord:List Nat} (hh:A.handled=none) (hne:a≠I) (hTI:T≠I) (hp:ord.Perm (List.range es.size))
  (hv:StrsAre (ord.map fun p=>(es.getD p (0,.none)).2) ks'):
  Walks P w A I [I,a,T] [I] es.size (Jl ks') (fun i h=>mC h I #[.ref T,rawInt i,.ref a,rawInt es.size,rawInt ep]∧dJ P w h a es ep t ks∧h.get? T=some {cls:=.type "tuple",data:=.seq (ord.map fun(i:Nat)=>rawInt i).toArray}) where
 sub:=fun b hb=>by simp at hb;simp[hb]
 frame:=fun _ _ _ st hk=>⟨hk I (by simp) _ st.1,st.2.1.at fun o q=>hk a (by simp) o q,hk T (by simp) _ st.2.2⟩
 item:=fun i s Q E hi st hQ=>by
  have lo:ord.length=es.size:=by rw[hp.length_eq,List.length_range]
  obtain⟨p,ho⟩:∃p,ord[i]? =some p:=⟨_,List.getElem?_eq_getElem (by omega)⟩
  have hlt:p<es.size:=List.mem_range.mp (hp.mem_iff.mp (List.mem_of_getElem? ho))
  have he:es[p]? =some ((es.getD p (0,.none)).1,(es.getD p (0,.none)).2):=by
   rw[Array.getElem?_eq_getElem hlt,Array.getD_eq_getD_getElem?,Array.getElem?_eq_getElem hlt];rfl
  refine KI st.1 st.2.2 st.2.1 ho he fun h' e1 b1=>hQ _ h' s.toks ?_ ⟨e1,st.2.1.at fun o q=>(b1.2 a hne).trans q,(b1.2 T hTI).trans st.2.2⟩ fun b o hb q=>(b1.2 b (by simpa using hb)).trans q
  obtain⟨x,tk,ex,ev⟩:=sI hv i _ (by rw[List.getElem?_map,ho];rfl)
  exact⟨x,tk,ex,ev⟩
 done:=fun s Q E st hQ=>by
  have lo:ord.length=es.size:=by rw[hp.length_eq,List.length_range]
  exact L9 hh st.1 st.2.2 st.2.1 (List.getElem?_eq_none (by omega)) fun h' x=>hQ h' s.toks fun b o hb q=>x b o (by simpa using hb) q
 self:=fun _ _ _ _ st hQ=>vz st.1 hQ
theorem C8 (p:Nat):SetTable.below #[p] 0=0:=by
 unfold SetTable.below
 simp[SetTable.below.go]
theorem C9 (p:Nat):SetTable.below #[p] (p+1)=1:=by
 unfold SetTable.below
 simp[SetTable.below.go]
theorem Hb {I a:Addr} {es:Array (Int×Value)} {ep:Nat} {t:SetTable} {ks:List Str} (hh:A.handled=none) (hne:a≠I) (hb:w.params.followText "set-order"=false) (h1:es.size≤1) (hf:t.fits es.size=true) (hv:StrsAre (es.toList.map (·.2)) ks):
  Walks P w A I [I,a] [I] es.size (Jl ks) (fun i h=>mC h I #[rawInt (if i=0 then 0 else t.place.getD 0 0+1:Nat),rawInt i,.ref a,rawInt es.size,rawInt ep]∧dJ P w h a es ep t ks) where
 sub:=fun b hb=>by simp at hb;simp[hb]
 frame:=fun _ _ _ st hk=>⟨hk I (by simp) _ st.1,st.2.at fun o q=>hk a (by simp) o q⟩
 item:=fun i s Q E hi st hQ=>by
  have i0:i=0:=by omega
  subst i0
  have sz:es.size=1:=by omega
  have tp:t.place.size=1:=by
   unfold SetTable.fits at hf
   simp only[Bool.and_eq_true,beq_iff_eq] at hf
   omega
  obtain⟨p,hp⟩:∃p,t.place= #[p]:=Array.size_eq_one_iff.mp tp
  obtain⟨e,he⟩:∃e,es[0]? =some e:=⟨_,Array.getElem?_eq_getElem (by omega)⟩
  refine B_ (sl:=0) (v:=e.2) (nx:=p+1) st.1 st.2 (fun B E' Q' q=>yM st.2 hb h1 ?_) fun h' e1 b1=>hQ e.2 h' s.toks ?_ ⟨?_,st.2.at fun o q=>(b1.2 a hne).trans q⟩ fun b o hb q=>(b1.2 b (by simpa using hb)).trans q
  ·rw[hp,C8,he]
   exact q
  ·obtain⟨x,tk,ex,ev⟩:=sI hv 0 e.2 (by rw[List.getElem?_map,Array.getElem?_toList,he];rfl)
   exact⟨x,tk,ex,ev⟩
  ·rw[hp]
   exact e1
 done:=fun s Q E st hQ=>by
  refine E3 hh st.1 st.2 (fun B E' Q' q=>yM st.2 hb h1 ?_) fun h' x=>hQ h' s.toks fun b o hb q=>x b o (by simpa using hb) q
  by_cases z:es.size=0
  ·have ez:es= #[]:=Array.size_eq_zero_iff.mp z
   rw[ez]
   simpa using q
  ·have sz:es.size=1:=by omega
   have tp:t.place.size=1:=by
    unfold SetTable.fits at hf
    simp only[Bool.and_eq_true,beq_iff_eq] at hf
    omega
   obtain⟨p,hp⟩:∃p,t.place= #[p]:=Array.size_eq_one_iff.mp tp
   rw[if_neg z,hp]
   show Q' (match es[SetTable.below #[p] (p+1)]?,(#[p]:Array Nat)[SetTable.below #[p] (p+1)]? with | some (_,x),some j=>some (x,j+1) | _,_=>none) _
   rw[C9,Array.getElem?_eq_none (by omega)]
   exact q
 self:=fun _ _ _ _ st hQ=>vz st.1 hQ
theorem Dc {a:Addr} {es:Array (Int×Value)} {ep:Nat} {t:SetTable} {ks:List Str} {Q:Value→Shared→Prop} (S:dJ P w s.heap a es ep t ks)
  (h:∀(I:Addr) (h1:Heap) (d1:Drawn) (fx:List Addr) (ks':List Str) (St:Nat→Heap→Prop),ks'.Perm ks→s.heap.objs.size≤I→I<h1.objs.size→(∀b∈fx,s.heap.objs.size≤b∧b<h1.objs.size)→(∀b o,s.heap.get? b=some o→h1.get? b=some o)→St 0 h1→
   (∀B:Around,B.handled=none→Walks P w B I (I::a::fx) [I] es.size (Jl ks') St)→Q (.ref I) {s with heap:=h1,drawn:=d1}):
  wpAny (model P w) A (pyIter (.ref a)) Q E s:=by
 obtain⟨o,ho,hex,hd⟩:=S.obj
 have hT:s.TypeIs (.ref a) "set":=⟨o,ho,hex.1⟩
 have la:a<s.heap.objs.size:=Heap.lt_size ho
 have hsz:=S.len
 refine wpAny_pyIter_slot hT PySem.F.slot_set_iter (wpAny_call_entry PySem.F.slot_set_iter hT SI.vy ?_ (PySem.F.args_set_iter_1 _))
 unfold Builtin.«frozenset.__iter__» Builtin.Frozenset.slot0 slotArgs
 simp only[List.isEmpty_nil,Bool.not_true,Bool.false_eq_true, ↓reduceIte,bind_assoc,List.length_nil,bne_self_eq_false]
 unfold Builtin.Frozenset.addrOf Builtin.Frozenset.sizeOf
 refine wpAny_bind (wpAny_pure ?_)
 try dsimp only
 refine wpAny_bind (wpAny_pure ?_)
 refine wpAny_bind (wpAny_bind (wpAny_setEntries_of ho hd S.fits (wpAny_pure ?_)))
 unfold setDrawn
 refine wpAny_bind (wpAny_bind (wpAny_setState_of ho hd S.fits ?_))
 dsimp only
 refine wpAny_bind (sJ (a:=a) (wpAny_pure ?_))
 refine wpAny_ite_split (fun hab=>?_) (fun hab=>?_)
 ·have hab':(!w.params.followText "set-order"&&(!t.plain&&decide (es.size>1)))=true:=hab
  refine wpAny_bind (wI _ _ _ _ (List.length_range) fun ys d' p=>?_)
  have ly:ys.length=es.size:=by rw[p.length_eq,List.length_range]
  refine wpAny_bind (wpAny_newTuple ?_ (by rw[List.length_map,ly];exact fits_of_scanBound S.small))
  have hoT:(s.heap.push {cls:=.type "tuple",data:=.seq (ys.map fun(i:Nat)=>rawInt i).toArray}).get? s.heap.objs.size=some {cls:=.type "tuple",data:=.seq (ys.map fun(i:Nat)=>rawInt i).toArray}:=Heap.get?_push_size _ rfl
  have E5:(s.heap.push {cls:=.type "tuple",data:=.seq (ys.map fun(i:Nat)=>rawInt i).toArray}).objs.size=s.heap.objs.size+1:=Heap.size_push ..
  refine wpAny_bind (wpAny_setEpoch_of (s:={s with heap:=s.heap.push {cls:=.type "tuple",data:=.seq (ys.map fun(i:Nat)=>rawInt i).toArray},drawn:=d'}) (Heap.get?_push_of_some _ ho) hd S.fits ?_)
  have SS:dJ P w (s.heap.push {cls:=.type "tuple",data:=.seq (ys.map fun(i:Nat)=>rawInt i).toArray}) a es ep t ks:=S.at fun o q=>Heap.get?_push_of_some _ q
  have old:∀b o,s.heap.get? b=some o→(s.heap.push {cls:=.type "tuple",data:=.seq (ys.map fun(i:Nat)=>rawInt i).toArray}).get? b=some o:=fun b o q=>Heap.get?_push_of_some _ q
  generalize s.heap.push {cls:=.type "tuple",data:=.seq (ys.map fun(i:Nat)=>rawInt i).toArray}=h1 at hoT E5 SS old ⊢
  refine wpAny_bind (wpAny_newObj_type (wpAny_pure ⟨_,rfl,"set_iterator",_,⟨_,Heap.get?_push_size _ rfl,rfl⟩,SI.slot_next.lookup,?_⟩))
  have ent:((List.range es.size).map fun p=>(es.getD p (0,.none)).2)=es.toList.map (·.2):=by
   apply List.ext_getElem?
   intro i
   rw[List.getElem?_map,List.getElem?_map,show es.toList[i]? =es[i]? from Array.getElem?_toList]
   by_cases hi:i<es.size
   ·rw[List.getElem?_range hi,Array.getElem?_eq_getElem hi]
    show some (es.getD i (0,.none)).2=some es[i].2
    rw[Array.getD_eq_getD_getElem?,Array.getElem?_eq_getElem hi];rfl
   ·rw[List.getElem?_eq_none (by rw[List.length_range];omega),Array.getElem?_eq_none (by omega)];rfl
  obtain⟨ks',v',p'⟩:=oh (p.map fun p=>(es.getD p (0,.none)).2) (ks:=ks) (by rw[ent];exact S.vals)
  refine h h1.objs.size (h1.push _) d' [s.heap.objs.size] ks' _ p' (by rw[E5];exact Nat.le_succ _) (by rw[Heap.size_push];exact Nat.lt_succ_self _) (fun b hb=>?_) (fun b o q=>Heap.get?_push_of_some _ (old b o q)) ?_ (fun B hB=>C7 (ep:=ep) (t:=t) (ks:=ks) hB ?_ ?_ p v')
  ·rw[List.mem_singleton.mp hb,Heap.size_push,E5]
   exact⟨Nat.le_refl _,Nat.lt_succ_of_lt (Nat.lt_succ_self _)⟩
  ·exact⟨Heap.get?_push_size _ rfl,SS.at fun o q=>Heap.get?_push_of_some _ q,Heap.get?_push_of_some _ hoT⟩
  ·rw[E5];exact Nat.ne_of_lt (Nat.lt_succ_of_lt la)
  ·rw[E5];exact Nat.ne_of_lt (Nat.lt_succ_self _)
 ·have hab':¬(!w.params.followText "set-order"&&(!t.plain&&decide (es.size>1)))=true:=hab
  refine wpAny_bind (wpAny_pure ?_)
  refine wpAny_bind (wpAny_setEpoch_of ho hd S.fits ?_)
  refine wpAny_bind (wpAny_newObj_type (wpAny_pure ⟨_,rfl,"set_iterator",_,⟨_,Heap.get?_push_size _ rfl,rfl⟩,SI.slot_next.lookup,?_⟩))
  have Jk:a≠s.heap.objs.size:=Nat.ne_of_lt la
  cases hb:w.params.followText "set-order" with
  | true=>
   obtain⟨ks',v',p'⟩:=oh ((wH (w.params.setOrder a ep) es.size 0 es.toList #[] (by simp)).map (·.2)) (ks:=ks) (by simpa using S.vals)
   exact h s.heap.objs.size (s.heap.push _) s.drawn [] ks' _ p' (Nat.le_refl _) (by rw[Heap.size_push];exact Nat.lt_succ_self _) (fun b hb=>by simp at hb) (fun b o q=>Heap.get?_push_of_some _ q) ⟨Heap.get?_push_size _ rfl,S.at fun o q=>Heap.get?_push_of_some _ q⟩
    (fun B hB=>E4 (ep:=ep) (t:=t) (ks:=ks) hB Jk hb v' (by rw[p'.length_eq,hsz]))
  | false=>
   have few:es.size≤1:=by
    rw[hb] at hab'
    by_cases z:es.size≤1
    ·exact z
    ·exfalso
     refine hab' ?_
     rw[S.plain (by omega),decide_eq_true (show es.size>1 by omega)]
     rfl
   exact h s.heap.objs.size (s.heap.push _) s.drawn [] ks _ (.refl _) (Nat.le_refl _) (by rw[Heap.size_push];exact Nat.lt_succ_self _) (fun b hb=>by simp at hb) (fun b o q=>Heap.get?_push_of_some _ q) ⟨Heap.get?_push_size _ rfl,S.at fun o q=>Heap.get?_push_of_some _ q⟩
    (fun B hB=>Hb (ep:=ep) (t:=t) (ks:=ks) hB Jk hb few S.fits S.vals)
theorem Hc {r:Addr} {Q:Bool→Shared→Prop} (hT:s.TypeIs (.ref r) "set") (h:Q false s):wpAny (model P w) A (Builtin.List.listLengthHint (.ref r)) Q E s:=by
 unfold Builtin.List.listLengthHint
 refine wpAny_bind (wpAny_specialOf hT PySem.F.slot_set_len.lookup ?_)
 generalize hid:("set.__len__":String)=id0
 wp_delta
 rw[show splitId id0=some ("set","__len__") from by subst hid;decide+kernel]
 subst hid
 refine wpAny_bind (wpAny_isInstance (T:="set") (b:=true) hT (by rw[isSubtype_type];kernel_rfl) ?_)
 refine wpAny_ite_split (fun hab=>absurd hab (by decide)) (fun _=>?_)
 refine wpAny_ite_split (fun _=>?_) (fun hab=>absurd (by decide+kernel) hab)
 exact wpAny_bind (wpAny_typeOf hT (wpAny_pure h))
theorem AG {a:Addr} {es:Array (Int×Value)} {ep:Nat} {t:SetTable} {ks:List Str} {Q:List Value→Shared→Prop} (S:dJ P w s.heap a es ep t ks) (hh:A.handled=none)
  (h:∀(h':Heap) (tk:Nat) (d':Drawn) (acc:List Value) (ks':List Str),(∀b o,s.heap.get? b=some o→h'.get? b=some o)→StrsAre acc ks'→ks'.Perm ks→Q acc {s with heap:=h',toks:=tk,drawn:=d'}):
  wpAny (model P w) A (collect (.ref a)) Q E s:=by
 obtain⟨o,ho,hex,hd⟩:=S.obj
 have la:a<s.heap.objs.size:=Heap.lt_size ho
 have hsz:=S.len
 unfold collect
 refine wpAny_bind (wpAny_runValue (codeAny_builtin entry_proto_collect' ?_))
 rw[Around.under_plainId PySem.F.plain_proto_collect]
 show wpAny (model P w) A.in1 (newList [] >>= fun l=>again (.builtin "list.__iadd__" ⟨[l,.ref a],[]⟩)) _ _ s
 refine wpAny_bind (wpAny_newObj_type ?_)
 refine wpAny_pure ⟨plainId_quiet PySem.F.plain_list_iadd _,codeAny_builtin entry_list_iadd' ?_⟩
 rw[Around.under_plainId PySem.F.plain_list_iadd]
 have g1:(s.heap.push {cls:=.type "list",data:=.seq ([]:List Value).toArray}).get? s.heap.objs.size=some {cls:=.type "list",data:=.seq #[]}:=Heap.get?_push_size _ rfl
 have z1:(s.heap.push {cls:=.type "list",data:=.seq ([]:List Value).toArray}).objs.size=s.heap.objs.size+1:=Heap.size_push ..
 have k1:∀b o,s.heap.get? b=some o→(s.heap.push {cls:=.type "list",data:=.seq ([]:List Value).toArray}).get? b=some o:=fun b o q=>Heap.get?_push_of_some _ q
 show wpAny (model P w) A.in1 (Builtin.List.listExtendWith (.ref s.heap.objs.size) (.ref a) (.ref s.heap.objs.size)) _ _ _
 generalize s.heap.push {cls:=.type "list",data:=.seq ([]:List Value).toArray}=h1 at g1 z1 k1 ⊢
 have S1:dJ P w h1 a es ep t ks:=S.at fun o q=>k1 a o q
 have T1:Shared.TypeIs {s with heap:=h1} (.ref a) "set":=⟨o,k1 a o ho,hex.1⟩
 unfold Builtin.List.listExtendWith
 refine wpAny_bind (wpAny_typeOf T1 ?_)
 have n1:Builtin.List.listSameRef (.ref s.heap.objs.size) (.ref a)=false:=by simp[Builtin.List.listSameRef];exact Nat.ne_of_gt la
 rw[if_neg (by rw[n1];decide)]
 refine wpAny_bind (Dc (s:={s with heap:=h1}) S1 fun I h2 d2 fx ks' St pk Q9 ltI ZJ k2 st W=>?_)
 refine wpAny_bind (wpAny_holding (Hc ⟨o,k2 a o (k1 a o ho),hex.1⟩ ?_))
 refine wpAny_ite_split (fun _=>?_) (fun hab=>absurd (by decide+kernel) hab)
 have lS:s.heap.objs.size<h1.objs.size:=by rw[z1];exact Nat.lt_succ_self _
 have nf:s.heap.objs.size ∉ I::a::fx:=fun m=>by
  rcases List.mem_cons.mp m with q | m
  ·exact absurd Q9 (by rw[←q];exact Nat.not_le.mpr lS)
  ·rcases List.mem_cons.mp m with q | m
   ·exact absurd la (by rw[←q];exact Nat.lt_irrefl _)
   ·exact absurd (ZJ _ m).1 (Nat.not_le.mpr lS)
 refine wpAny_bind (wpAny_rule (wpAny_bind ?_))
 have g2:=k2 _ _ g1
 show wpAny (model P w) A.in1 (updateSeq s.heap.objs.size (·.push .none) >>= fun _=>updateSeq s.heap.objs.size (·.pop)) _ _ _
 refine wpAny_bind (wpAny_updateSeq g2 rfl ?_)
 have g3:=Heap.get?_update_self (Obj.mapSeq (·.push Value.none)) g2 rfl
 refine wpAny_updateSeq (hz:=by seq_fits) g3 rfl ?_
 have g4:=Heap.get?_update_self (Obj.mapSeq (·.pop)) g3 rfl
 have k4:∀b o,b≠s.heap.objs.size→h2.get? b=some o→((h2.update s.heap.objs.size (Obj.mapSeq (·.push Value.none))).update s.heap.objs.size (Obj.mapSeq (·.pop))).get? b=some o:=fun b o nb q=>
  (Heap.get?_update_other _ _ (Ne.symm nb)).trans ((Heap.get?_update_other _ _ (Ne.symm nb)).trans q)
 have yA:=(W A.in1 hh).frame 0 _ _ st fun b hb o q=>k4 b o (fun z=>nf (z▸hb)) q
 refine wpAny_pure ⟨plainId_quiet PySem.F.plain_extend_loop _,codeAny_extend_loopS (W A.in1 hh).toS (fits_of_scanBound S.small) s.heap.objs.size nf _ es.size 0 _ #[] _ rfl (Nat.zero_le _) yA g4 (ItemsOf.nil _) fun s' acc' c' hm hS' hacc=>?_⟩
 show wpAny (model P w) A (load s.heap.objs.size >>= _) _ _ s'
 refine wpAny_bind (wpAny_load hS' ?_)
 refine wpAny_pure ?_
 rw[Moved.eq_with hm]
 refine h s'.heap s'.toks d2 acc'.toList ks' (fun b o q=>hm.heap b o (fun m=>?_) (k4 b o (Nat.ne_of_lt (Heap.lt_size q)) (k2 b o (k1 b o q)))) ?_ pk
 ·have lb:=Heap.lt_size q
  rcases List.mem_cons.mp m with z | m
  ·exact absurd lb (by rw[z];exact Nat.lt_irrefl _)
  ·have z:=List.mem_singleton.mp m
   exact absurd (Nat.lt_trans lb lS) (by rw[z];exact Nat.not_lt.mpr Q9)
 ·have ll:acc'.toList.length=ks'.length:=by rw[Array.length_toList,hacc.1,hsz,pk.length_eq]
  refine uH ll fun i v x e1 e2=>?_
  obtain⟨y,tk,ey,ev⟩:=hacc.2 i v (by rw[←Array.getElem?_toList];exact e1)
  rw[e2] at ey
  cases ey
  exact⟨tk,ev⟩
end
def mE (P:Program) (w:World) (a:Addr) (ks:List Str):HO:=.ext fun h=>∃es ep t ks',dJ P w h a es ep t ks'∧ks'.Perm ks
section
variable {X:Cx}
def Tb (X:Cx):List V→Hp→VK→Prop:=fun xs H Q=>∃(l:Addr) (ss:List Str),xs=[.ref l]∧cf X.K H l (ss.map V.str)∧ss.length+1<scanBound∧
 ∀(p:Addr) (ks:List Str),H p=none→ks.Nodup→(∀y,y∈ks↔y∈ss)→ks.length≤ss.length→Q (.ref p) (upd H p (mE X.prog X.w p ks))
theorem E6 (hc:X.calm=true):fO X (.type "set") (Tb X):=by
 intro pins s σ H xs us Q I r h
 obtain⟨l,ss,rfl,hq,hb,q⟩:=h
 obtain⟨u,rfl,ru⟩:=vals1 r
 cases ru
 obtain⟨its,rv,p,_⟩:=I.list hq
 have hl:=rv.length
 rw[List.length_map] at hl
 refine yL (I.ok.hd hc) p.isList (p4 rv) (by simp;omega) fun h' tk es ep t ks S hm hlen kp=>?_
 have k':∀b o,s.heap.get? b=some o→h'.get? b=some o:=fun b o e=>kp b o (Heap.lt_size e) e
 have hp:s.heap.objs.size≤s.heap.objs.size:=Nat.le_refl _
 have I2:=I.laid (a:=s.heap.objs.size) (o:=mE X.prog X.w s.heap.objs.size ks) (t':=tk) k' hp ⟨⟨es,ep,t,ks,S,.refl _⟩,(let ⟨o,e,_⟩:=S.obj;⟨o,e⟩),fun h1 h2 ⟨es1,iB,t1,wC,S1,p1⟩ k2=>⟨es1,iB,t1,wC,S1.at k2,p1⟩⟩
 exact⟨.ref s.heap.objs.size,_,I2,rfl,q _ ks (I.hok.fresh hp) S.once hm (by simp at hlen;omega)⟩
def He (X:Cx):List V→Hp→VK→Prop:=fun xs H Q=>∃(a:Addr) (ks:List Str),xs=[.ref a]∧H a=some (mE X.prog X.w a ks)∧ks.length<64∧
 ∀(p:Addr) (ss':List Str),H p=none→ss'.Perm ks→sortedS ss'=true→Q (.ref p) (upd H p (.lst (ss'.map V.str)))
theorem yN (hc:X.calm=true):fO X (.builtin "sorted") (He X):=by
 intro pins s σ H xs us Q I r h
 obtain⟨a,ks,rfl,ha,h64,q⟩:=h
 obtain⟨u,rfl,ru⟩:=vals1 r
 cases ru
 obtain⟨⟨es,ep,t,ks0,S,p0⟩,_,_⟩:=(show cZ X.prog X.w H s.heap a (mE X.prog X.w a ks) from I.hok a _ ha)
 refine Calls.call_function_entry kind_sorted plain_sorted entry_sorted (args_sorted1 _) ?_
 unfold Builtin.«sorted»
 (refine wpAny_bind (m:=checkCount "sorted" 1 1 _) (wpAny_pure ?_))
 refine wpAny_bind (AG (A:=X.A.in1) S (I.ok.hd hc) fun h' tk d' acc wC k hS p1=>?_)
 have hl:acc.length=ks.length:=by rw[hS.length,p1.length_eq,p0.length_eq]
 refine wpAny_bind (wpAny_newList ?_ (by rw[hl];exact Nat.le_of_lt (Nat.lt_of_lt_of_le h64 (by decide))))
 have hoL:(h'.push (seqObj "list" acc.toArray 0)).get? h'.objs.size=some (seqObj "list" acc.toArray 0):=Heap.get?_push_size _ rfl
 refine wpAny_bind (wpAny_holding (wpAny_call_entry slot_list_sort ⟨_,hoL,rfl⟩ entry_list_sort (list_sort_treeK strKind_oneLt hoL hS.keysOf (fun v1 v2 rest e=>keyKind_strs (by rw[←e];exact hS)) (by rw[hl];exact h64) fun st' hp hs=>⟨_,rfl,?_⟩) (args_list_sort _)))
 obtain⟨ss',a1,a2,a3⟩:=sorted_out_str hS hp hs
 have I1:Inv X pins σ H {s with heap:=h',toks:=tk,drawn:=d'}:=I.step (g':=s.gens) (d':=d') (ch:=[]) (fun b z=>by cases z) (fun b o _ _ _ e _=>k b o e) (fun b o _ _ _ e _=>⟨o.slots,k b o e⟩) (fun _ _ _ _ n=>n)
  (fun b o _ e=>⟨o,k b o e⟩) (fun _ _ e=>e) (fun _ _ _ e=>e) (fun b ps e=>⟨#[],by rw[e];simp⟩) (fun m ⟨ob,e1,e2,hb,r⟩=>⟨ob,e1,e2,k _ ob hb,r⟩) (fun b u e=>(I.hok b u e).stay (fun c v _ z=>k c v z) (fun _ z=>z) fun _ _ z=>z) I.bare
 obtain⟨e,he⟩:=sortedHeap_at (out:=(arrOf st').map (·.2)) hoL
 have kp:∀b u,h'.get? b=some u→(sortedHeap (h'.push (seqObj "list" acc.toArray 0)) h'.objs.size acc ((arrOf st').map (·.2))).get? b=some u:=fun b u eb=>by
  have lt:=Heap.lt_size eb
  rw[sortedHeap_old (Nat.ne_of_lt lt) (by rw[Heap.size_push];exact Nat.lt_succ_of_lt lt)]
  exact Heap.get?_push_of_some _ eb
 have I2:=I1.laid (a:=h'.objs.size) (o:=.lst (ss'.map V.str)) (t':=tk) kp (Nat.le_refl _) ⟨by rw[List.length_map,a2.length_eq,p1.length_eq,p0.length_eq];exact Nat.le_of_lt (Nat.lt_of_lt_of_le h64 (by decide)),((arrOf st').map (·.2)).toList,e,qW a1,he⟩
 exact wpAny_pure ⟨_,rfl,⟨.ref h'.objs.size,_,I2,rfl,q _ ss' (I1.hok.fresh (Nat.le_refl _)) ((a2.trans p1).trans p0) a3⟩⟩
end
end L2
namespace L2
open PySem PySem.Spec PyProof.Rows
open PySem.AutoSeq1 (wpAny_loadPart')
theorem Pq (x y:Str) (h:(!ltCps y.cps.toList x.cps.toList)=true):x.cps.toList≤y.cps.toList:=by
 rw[PyProof.Rows.ltCps_eq] at h
 exact List.not_lt.mp (by simpa using h)
theorem qX:∀(l:List Str) (p:Str),risingS p l=true→∀y∈l,p.cps.toList≤y.cps.toList
 | [],p,_,y,hy=>by cases hy
 | x::l,p,h,y,hy=>by
  have h':(!ltCps x.cps.toList p.cps.toList&&risingS x l)=true:=h
  rw[Bool.and_eq_true] at h'
  have h1:=Pq p x h'.1
  rcases List.mem_cons.mp hy with e | hy
  ·rw[e];exact h1
  ·exact List.le_trans h1 (qX l x h'.2 y hy)
theorem tI {x:Str} {l:List Str} (h:sortedS (x::l)=true):sortedS l=true:=by
 cases l with
 | nil=>rfl
 | cons y l=>
  have h':(!ltCps y.cps.toList x.cps.toList&&risingS y l)=true:=h
  rw[Bool.and_eq_true] at h'
  exact h'.2
theorem L' {x y:Str} (h:x.cps.toList=y.cps.toList):x=y:=by
 obtain⟨a⟩:=x
 obtain⟨b⟩:=y
 have:a=b:=Array.toList_inj.mp h
 rw[this]
theorem tK:∀{l m:List Str},sortedS l=true→sortedS m=true→l.Nodup→m.Nodup→(∀y,y∈l↔y∈m)→l=m
 | [],[],_,_,_,_,_=>rfl
 | [],y::m,_,_,_,_,h=>by have:=(h y).mpr List.mem_cons_self;cases this
 | x::l,[],_,_,_,_,h=>by have:=(h x).mp List.mem_cons_self;cases this
 | x::l,y::m,sl,sm,nl,nm,h=>by
  rw[List.nodup_cons] at nl nm
  have e:x=y:=by
   rcases List.mem_cons.mp ((h x).mp List.mem_cons_self) with e | hx
   ·exact e
   ·rcases List.mem_cons.mp ((h y).mpr List.mem_cons_self) with e | hy
    ·exact e.symm
    ·exact L' (List.le_antisymm (qX l x sl y hy) (qX m y sm x hx))
  subst e
  rw[tK (tI sl) (tI sm) nl.2 nm.2 fun z=>?_]
  constructor
  ·intro hz
   rcases List.mem_cons.mp ((h z).mp (List.mem_cons_of_mem _ hz)) with e | q
   ·exact absurd (e▸hz) nl.1
   ·exact q
  ·intro hz
   rcases List.mem_cons.mp ((h z).mpr (List.mem_cons_of_mem _ hz)) with e | q
   ·exact absurd (e▸hz) nm.1
   ·exact q
end L2
namespace L2
open PySem PySem.Spec PyProof.Rows
structure Passed (fs:List Addr) (e:Addr) (oe:Obj) (hd:Option Addr) (T:Addr) (h h':Heap):Prop where
 above:h.objs.size≤T
 keep:∀b o,b≠e→b ∉ fs→hd≠some b→h.get? b=some o→h'.get? b=some o
 slot:∀b o,b∈fs→b≠e→hd≠some b→h.get? b=some o→∃sl,h'.get? b=some {o with slots:=sl}
 exc:h'.get? e=some (oe.mapFields (·.setIfInBounds 1 (.ref T)))
 tb:∃oT ts,h'.get? T=some oT∧oT.data=.fields ts∧ts[3]? =some .none
section
variable {M:Model} {A:Around} {E:Value→Shared→Prop} {s:Shared} {base:Heap} {env:Env} {outer:List Env} {L e:Addr} {oe:Obj} {vs:Array Value} {Q:Unit→Shared→Prop}
theorem uI {head:Value} {had:Bool} (fr:A.frames=some (env::outer)) (ff:s.heap.FunFrames base (env::outer)) (fL:env.frame=some L)
  (xe:s.heap.get? e=some oe) (xd:oe.data=.fields vs) (xs:1<vs.size) (k:∀h' T,Passed (frs (env::outer)) e oe none T s.heap h'→Q () {s with heap:=h'}):
  wpAny M A (do
   let a ←frameOf env
   let pl ←entryPlaceOf L had
   let b ←EntryCells.newEntry head a .none (rawInt L) .none pl
   setField (.ref e) 1 b) (fun _ s'=>wpAny M A (setFlight (.ref e) none) Q E s') E s:=by
 have Ma:e ∉ frs (env::outer):=fun z=>by
  obtain⟨_,o,ho,nf⟩:=ff.mem z
  rw[xe] at ho
  cases ho
  exact nf vs xd
 refine wpAny_bind (wpAny_frameOf_fun fr ff fL fun g so=>?_)
 refine wpAny_bind (wpAny_entryPlaceOf fun pl ip=>?_)
 unfold EntryCells.newEntry newFields
 refine wpAny_bind (wpAny_newObj_type ?_ (ip.sizeOk5 _ _ _ _ _))
 have ge:g.get? e=some oe:=(so.2.1 e Ma).trans xe
 generalize hN:([head,Value.ref L,.none,rawInt L,.none]++(if pl.isEmpty then List.replicate 6 Value.none else pl)).toArray=ar
 have a3:ar[3]? =some (rawInt L):=by rw[←hN];simp
 have as:3<ar.size:=(Array.getElem?_eq_some_iff.mp a3).1
 have g2:=Heap.get?_push_of_some (h:=g) {cls:=.type "traceback",dict:=none,data:=.fields ar} ge
 refine wpAny_setField g2 xd xs ?_
 have wJ:g.objs.size≠e:=Nat.ne_of_gt (Heap.lt_size ge)
 have d3:=Obj.data_mapFields xd (·.setIfInBounds 1 (Value.ref g.objs.size))
 have g3:=Heap.get?_update_self (Obj.mapFields (·.setIfInBounds 1 (Value.ref g.objs.size))) g2 (Obj.isFreed_of_fields d3)
 have t3:=(Heap.get?_update_other (g.push {cls:=.type "traceback",dict:=none,data:=.fields ar}) (Obj.mapFields (·.setIfInBounds 1 (Value.ref g.objs.size))) (Ne.symm wJ)).trans (Heap.get?_push_size g rfl)
 unfold setFlight
 refine wpAny_bind (wpAny_field g3 d3 (x:=.ref g.objs.size) (by simp[xs]) ?_)
 rw[if_pos (by simp)]
 refine wpAny_setField t3 rfl as ?_
 have keep:∀b o,b≠e→g.get? b=some o→(((g.push {cls:=.type "traceback",dict:=none,data:=.fields ar}).update e (Obj.mapFields (·.setIfInBounds 1 (Value.ref g.objs.size)))).update g.objs.size
   (Obj.mapFields (·.setIfInBounds 3 ((none:Option Addr).elim Value.none fun f=>rawInt f)))).get? b=some o:=fun b o ne hb=>by
  rw[Heap.get?_update_other _ _ (Nat.ne_of_gt (Heap.lt_size hb)),Heap.get?_update_other _ _ (Ne.symm ne)]
  exact Heap.get?_push_of_some _ hb
 refine k _ g.objs.size ⟨Nat.le_of_eq so.1.symm,fun b o ne nf _ hb=>keep b o ne ((so.2.1 b nf).trans hb),fun b o _ ne _ hb=>?_,?_,_,_,Heap.get?_update_self _ t3 (Obj.isFreed_of_fields (Obj.data_mapFields rfl _)),Obj.data_mapFields rfl _,?_⟩
 ·obtain⟨sl,q⟩:=so.2.2 b o hb
  exact⟨sl,keep b _ ne q⟩
 ·rw[Heap.get?_update_other _ _ wJ]
  exact g3
 ·simp[as]
theorem Dd (fr:A.frames=some (env::outer)) (ff:s.heap.FunFrames base (env::outer)) (fL:env.frame=some L) (xe:s.heap.get? e=some oe) (xd:oe.data=.fields vs) (x1:vs[1]? =some .none)
  (k:∀h' T,Passed (frs (env::outer)) e oe none T s.heap h'→Q () {s with heap:=h'}):wpAny M A (noteFrame (.ref e) env) (fun _ s'=>wpAny M A (setFlight (.ref e) none) Q E s') E s:=by
 unfold noteFrame
 simp only[fL]
 refine wpAny_bind (wpAny_field xe xd x1 ?_)
 rw[if_neg (by decide)]
 exact uI fr ff fL xe xd (Array.getElem?_eq_some_iff.mp x1).1 k
theorem E7 {T₀:Addr} {oT:Obj} {ts:Array Value} (fr:A.frames=some (env::outer)) (ff:s.heap.FunFrames base (env::outer)) (fL:env.frame=some L) (xe:s.heap.get? e=some oe) (xd:oe.data=.fields vs) (x1:vs[1]? =some (.ref T₀))
  (wJ:T₀≠e) (xt:s.heap.get? T₀=some oT) (td:oT.data=.fields ts) (t3:ts[3]? =some .none)
  (k:∀h' T,Passed (frs (env::outer)) e oe (some T₀) T s.heap h'→Q () {s with heap:=h'}):wpAny M A (noteFrame (.ref e) env) (fun _ s'=>wpAny M A (setFlight (.ref e) none) Q E s') E s:=by
 unfold noteFrame
 simp only[fL]
 refine wpAny_bind (wpAny_field xe xd x1 ?_)
 rw[if_pos (by simp)]
 refine wpAny_bind (wpAny_field xt td t3 ?_)
 rw[if_neg (by simp[rawInt])]
 refine wpAny_bind (wpAny_setField xt td (Array.getElem?_eq_some_iff.mp t3).1 ?_)
 have oth:∀b,b≠T₀→(s.heap.update T₀ (Obj.mapFields (·.setIfInBounds 3 Value.none))).get? b=s.heap.get? b:=fun b nb=>Heap.get?_update_other _ _ (Ne.symm nb)
 have Hf:∀b o,s.heap.get? b=some o→(∀ws,o.data≠.fields ws)→b≠T₀:=fun b o hb nf z=>by
  rw[z,xt] at hb
  cases hb
  exact nf ts td
 refine uI (s:={s with heap:=s.heap.update T₀ (Obj.mapFields (·.setIfInBounds 3 Value.none))}) fr (ff.of_keeps fun b o hb nf=>⟨o,(oth b (Hf b o hb nf)).trans hb,rfl⟩) fL ((oth e (Ne.symm wJ)).trans xe) xd (Array.getElem?_eq_some_iff.mp x1).1 fun h' T p=>?_
 refine k h' T ⟨?_,fun b o ne nf nt hb=>p.keep b o ne nf (by simp) ((oth b fun z=>nt (by rw[z])).trans hb),fun b o hf ne nt hb=>p.slot b o hf ne (by simp) ((oth b fun z=>nt (by rw[z])).trans hb),p.exc,p.tb⟩
 have:=p.above
 simpa[Heap.update] using this
end
def mF (fresh:Bool) (a C:Addr) (dx:Option Addr):Heap→Prop:=fun h=>
 ∃o vs,h.get? a=some o∧o.cls=.ref C∧o.dict=dx∧o.data=.fields vs∧vs.size=6∧(fresh=true→vs[1]? =some .none)
abbrev xo (fresh:Bool) (a C:Addr) (dx:Option Addr):HO:=.ext (mF fresh a C dx)
theorem xX {P:Program} {w:World} {H:Hp} {h:Heap} {f:Bool} {a C:Addr} {dx:Option Addr} (x:mF f a C dx h):cZ P w H h a (xo f a C dx):=by
 obtain⟨o,vs,e,r⟩:=id x
 refine⟨x,⟨o,e⟩,fun h1 h2 p k=>?_⟩
 obtain⟨o',vs',e',r'⟩:=p
 exact⟨o',vs',k _ e',r'⟩
theorem Inv.tL {X:Cx} {pins:List (Addr×Obj)} {σ:St} {H:Hp} {s:Shared} {f:Bool} {a C:Addr} {dx:Option Addr} (I:Inv X pins σ H s) (Ha:H a=some (xo f a C dx)):mF f a C dx s.heap:=(I.hok a _ Ha).1
def oi (n:Nat) (a:Addr) (H:Hp) (h:Heap):Prop:=∃o vs T oT ts,h.get? a=some o∧o.data=.fields vs∧vs[1]? =some (.ref T)∧T≠a∧n≤T∧H T=none∧h.get? T=some oT∧oT.data=.fields ts∧ts[3]? =some .none
theorem oi.mono {n m:Nat} {a:Addr} {H:Hp} {h:Heap} (x:oi n a H h) (q:m≤n):oi m a H h:=by
 obtain⟨o,vs,T,oT,ts,e1,e2,e3,e4,e5,r⟩:=x
 exact⟨o,vs,T,oT,ts,e1,e2,e3,e4,Nat.le_trans q e5,r⟩
section
variable {X:Cx} {pins:List (Addr×Obj)} {σ:St} {H:Hp} {s:Shared} {h':Heap} {a C T:Addr} {dx:Option Addr} {f:Bool} {oe:Obj} {hd:Option Addr}
theorem Inv.beyond (I:Inv X pins σ H s) (hT:s.heap.objs.size≤T):X.s₀.heap.objs.size≤T∧T≠X.env.locals∧(∀x c,X.env.cells.lookup x=some c→c≠T)∧∀p∈X.pn++pins,p.1≠T:=by
 refine⟨Nat.le_trans I.sz hT,fun z=>?_,fun x c e z=>?_,fun p hp z=>?_⟩
 ·exact absurd (Nat.lt_of_lt_of_le (z▸I.lt) hT) (Nat.lt_irrefl _)
 ·obtain⟨v,o,ho,_⟩:=I.cell x c e
  exact absurd (Nat.lt_of_lt_of_le (z▸Heap.lt_size ho) hT) (Nat.lt_irrefl _)
 ·have:=(I.pin p hp).1
  exact absurd (Nat.lt_of_lt_of_le (z▸Heap.lt_size this) hT) (Nat.lt_irrefl _)
theorem Inv.passed (I:Inv X pins σ H s) (p:Passed (frs X.stack) a oe hd T s.heap h') (Ha:H a=some (xo f a C dx)) (ho:s.heap.get? a=some oe) (hn:∀b,hd=some b→H b=none)
  (hT:∀b,hd=some b→X.s₀.heap.objs.size≤b∧b≠X.env.locals∧(∀x c,X.env.cells.lookup x=some c→c≠b)∧∀q∈X.pn++pins,q.1≠b):
  Inv X pins σ (upd H a (xo false a C dx)) {s with heap:=h'}∧mF false a C dx h':=by
 obtain⟨o1,vs,e1,c1,d1,f1,z1,_⟩:=I.tL Ha
 obtain rfl:oe=o1:=Option.some.inj (ho.symm.trans e1)
 have new:mF false a C dx h':=⟨_,_,p.exc,by rw[Obj.cls_mapFields];exact c1,by rw[←d1];cases oe;rename_i dd sl;cases dd<;>rfl,Obj.data_mapFields f1 _,by simpa using z1,fun z=>by cases z⟩
 have nA:∀b,H b=none→b≠a:=fun b n z=>by rw[z,Ha] at n;cases n
 have nF:∀b u,H b=some u→b ∉ frs X.stack:=fun b u e z=>by rw[I.sF b z] at e;cases e
 have nD:∀b u,H b=some u→hd≠some b:=fun b u e z=>by rw[hn b z] at e;cases e
 have kT:∀b u o,H b=some u→b≠a→s.heap.get? b=some o→h'.get? b=some o:=fun b u o e ne q=>p.keep b o ne (nF b u e) (nD b u e) q
 have ch:∀b,b ∉ hd.toList→hd≠some b:=fun b nb z=>nb (by rw[z];simp)
 refine⟨?_,new⟩
 have fr:∀b,b≠a→(upd H a (xo false a C dx)) b=H b:=fun b ne=>bz ne
 refine I.step (g':=s.gens) (d':=s.drawn) (t':=s.toks) (ch:=hd.toList) (fun b hb=>?_) (fun b o nl nf nc e n=>?_) (fun b o nl hf nc e n=>?_) (fun b o nc e n=>?_) (fun b o nc e=>?_) (fun b xs e=>?_) (fun b o u e=>?_) (fun b ps e=>?_) (fun m hm=>?_) ?_ I.bare
 ·have e:hd=some b:=by
   cases hd with
   | none=>simp at hb
   | some y=>simp at hb;rw[hb]
  exact⟨.inr (hT b e).1,(hT b e).2.1,(hT b e).2.2.1,(hT b e).2.2.2⟩
 ·exact p.keep b o (nA b n) (fun z=>(List.mem_cons.mp (I.oZ b z)).elim nl nf) (ch b nc) e
 ·by_cases z:b∈frs X.stack
  ·exact p.slot b o z (nA b n) (ch b nc) e
  ·exact⟨o.slots,p.keep b o (nA b n) z (ch b nc) e⟩
 ·rw[fr b (nA b n)];exact n
 ·by_cases ne:b=a
  ·subst ne;exact⟨_,p.exc⟩
  ·by_cases z:b∈frs X.stack
   ·obtain⟨sl,q⟩:=p.slot b o z ne (ch b nc) e
    exact⟨_,q⟩
   ·exact⟨o,p.keep b o ne z (ch b nc) e⟩
 ·rw[fr b fun z=>by rw[z,Ha] at e;cases e];exact e
 ·rw[fr b fun z=>by rw[z,Ha] at e;cases e];exact e
 ·have ne:b≠a:=fun z=>by rw[z,Ha] at e;cases e
  exact⟨#[],by rw[fr b ne,e];simp⟩
 ·obtain⟨o,es,ep,q,r⟩:=hm
  have nl:=nA _ I.free
  have nd:hd≠some X.env.locals:=fun z=>(hT _ z).2.1 rfl
  by_cases z:X.env.locals∈frs X.stack
  ·obtain⟨sl,q'⟩:=p.slot _ o z nl nd q
   exact⟨_,es,ep,q',r⟩
  ·exact⟨o,es,ep,p.keep _ o nl z nd q,r⟩
 ·intro b u e
  by_cases ne:b=a
  ·subst ne
   rw[ag] at e
   cases e
   exact xX new
  ·rw[fr b ne] at e
   refine(I.hok b u e).stay (fun c v hc q=>?_) (fun c q=>?_) fun c xs q=>?_
   ·rcases hc with z | z
    ·subst z;exact kT _ u v e ne q
    ·exact kT c _ v z (fun y=>by rw[y,Ha] at z;cases z) q
   ·rw[fr c fun y=>by rw[y,Ha] at q;cases q];exact q
   ·rw[fr c fun y=>by rw[y,Ha] at q;cases q];exact q
theorem Passed.fly (I:Inv X pins σ H s) (p:Passed (frs X.stack) a oe hd T s.heap h') (Ha:H a=some (xo f a C dx)) (ho:s.heap.get? a=some oe):oi s.heap.objs.size a (upd H a (xo false a C dx)) h':=by
 obtain⟨o1,vs,e1,c1,d1,f1,z1,_⟩:=I.tL Ha
 obtain rfl:oe=o1:=Option.some.inj (ho.symm.trans e1)
 have ne:T≠a:=fun z=>absurd (Nat.lt_of_lt_of_le (z▸Heap.lt_size ho) p.above) (Nat.lt_irrefl _)
 obtain⟨oT,ts,t1,t2,t3⟩:=p.tb
 exact⟨_,_,T,oT,ts,p.exc,Obj.data_mapFields f1 _,by simp[z1],ne,p.above,by rw[bz ne];exact I.hok.fresh p.above,t1,t2,t3⟩
def Head (X:Cx):Prop:=X.stack=X.env::X.outer∧X.env.frame=some X.env.locals
theorem wK {M:Model} {A:Around} {E:Value→Shared→Prop} {Q:Unit→Shared→Prop} (I:Inv X pins σ H s) (hA:A.frames=X.A.frames) (hh:Head X) (Ha:H a=some (xo f a C dx))
  (hf:f=true∨∃n,oi n a H s.heap∧∀T,n≤T→X.s₀.heap.objs.size≤T∧T≠X.env.locals∧(∀x c,X.env.cells.lookup x=some c→c≠T)∧∀q∈X.pn++pins,q.1≠T)
  (k:∀h',Inv X pins σ (upd H a (xo false a C dx)) {s with heap:=h'}→oi s.heap.objs.size a (upd H a (xo false a C dx)) h'→Q () {s with heap:=h'}):
  wpAny M A (noteFrame (.ref a) X.env) (fun _ s'=>wpAny M A (setFlight (.ref a) none) Q E s') E s:=by
 obtain⟨o1,vs,e1,c1,d1,f1,z1,Mb⟩:=I.tL Ha
 have frm:A.frames=some (X.env::X.outer):=by rw[hA,I.ok.frames,hh.1]
 have Jm:s.heap.FunFrames X.base (X.env::X.outer):=by rw[←hh.1];exact I.stack
 rcases hf with hf | ⟨n,⟨o,vs',T₀,oT,ts,q1,q2,q3,q4,q5,q6,q7,q8,q9⟩,hT⟩
 ·refine Dd frm Jm hh.2 e1 f1 (Mb hf) fun h' T p=>?_
  rw[←hh.1] at p
  exact k h' (I.passed p Ha e1 (fun _ z=>by cases z) fun _ z=>by cases z).1 (p.fly I Ha e1)
 ·rw[e1] at q1
  cases q1
  rw[f1] at q2
  cases q2
  refine E7 frm Jm hh.2 e1 f1 q3 q4 q7 q8 q9 fun h' T p=>?_
  rw[←hh.1] at p
  exact k h' (I.passed p Ha e1 (fun b z=>by cases z;exact q6) fun b z=>by cases z;exact hT _ q5).1 (p.fly I Ha e1)
theorem De {M:Model} {A:Around} {E:Value→Shared→Prop} {Q:Unit→Shared→Prop} {n:Nat} (I:Inv X pins σ H s) (Ha:H a=some (xo f a C dx))
  (hf:oi n a H s.heap) (hT:∀T,n≤T→X.s₀.heap.objs.size≤T∧T≠X.env.locals∧(∀x c,X.env.cells.lookup x=some c→c≠T)∧∀q∈X.pn++pins,q.1≠T)
  (k:∀h',Inv X pins σ H {s with heap:=h'}→oi n a H h'→Q () {s with heap:=h'}):wpAny M A (setFlight (.ref a) none) Q E s:=by
 obtain⟨o,vs,T,oT,ts,q1,q2,q3,q4,q5,q6,q7,q8,q9⟩:=hf
 have sz:3<ts.size:=(Array.getElem?_eq_some_iff.mp q9).1
 unfold setFlight
 refine wpAny_bind (wpAny_field q1 q2 q3 ?_)
 rw[if_pos (by simp)]
 refine wpAny_setField q7 q8 sz ?_
 have oth:∀b,b≠T→(s.heap.update T (Obj.mapFields (·.setIfInBounds 3 ((none:Option Addr).elim Value.none fun f=>rawInt f)))).get? b=s.heap.get? b:=fun b nb=>Heap.get?_update_other _ _ (Ne.symm nb)
 refine k _ (I.turned (it:=T) (t':=s.toks) (fun b o ne e=>(oth b ne).trans e) q6 (hT T q5).2.1 (.inr (hT T q5).1) (hT T q5).2.2.1 (hT T q5).2.2.2) ?_
 exact⟨o,vs,T,_,_,(oth a (Ne.symm q4)).trans q1,q2,q3,q4,q5,q6,Heap.get?_update_self _ q7 (Obj.isFreed_of_fields (Obj.data_mapFields q8 _)),Obj.data_mapFields q8 _,by simp[sz]⟩
end
def b_ (P:Program) (w:World):qA:=fun outer H s E e s'=>∃a C dx H',e=.ref a∧s'.os=s.os∧AllBare s'.gens∧Un (frs outer) [] H H' s.heap s'.heap∧fk P w H' s'.heap∧
 H' a=some (xo false a C dx)∧oi s.heap.objs.size a H' s'.heap∧E (.ref a) dx H'
section
variable {P:Program} {w:World} {K:PySem.W.Frag} {mg:Str→Option Value} {base:Heap} {N:List Str} {qual:Str} {scope:Scope} {fa:Addr} {cd:Value} {A:Around} {outer:List Env} {s₀:Shared} {H₀:Hp} {E:XK}
theorem yO {pins:List (Addr×Obj)} {σ:St} {H:Hp} {s:Shared} {f:Bool} {a C:Addr} {dx:Option Addr} (I:Inv (iA (b_ P w) P w K mg base N qual scope fa cd A outer s₀ H₀ E) pins σ H s) (Ha:H a=some (xo f a C dx))
  (hf:f=true∨∃n,oi n a H s.heap∧∀T,n≤T→s₀.heap.objs.size≤T∧T≠(iA (b_ P w) P w K mg base N qual scope fa cd A outer s₀ H₀ E).env.locals∧
   (∀x c,(iA (b_ P w) P w K mg base N qual scope fa cd A outer s₀ H₀ E).env.cells.lookup x=some c→c≠T)∧∀q∈(iA (b_ P w) P w K mg base N qual scope fa cd A outer s₀ H₀ E).pn++pins,q.1≠T)
  (hE:E (.ref a) dx (upd H a (xo false a C dx))):(iA (b_ P w) P w K mg base N qual scope fa cd A outer s₀ H₀ E).xe (.ref a) s:=by
 show wpAny _ _ (leaving _ _) _ _ s
 unfold leaving
 refine wpAny_bind (wK I rfl ⟨rfl,rfl⟩ Ha hf fun h' I' fl=>?_)
 exact⟨a,C,dx,_,rfl,I'.os,I'.bare,I'.base,I'.hok,ag,fl.mono I.sz,hE⟩
def Raises (X:Cx) (E:XK):Prop:=∀(pins:List (Addr×Obj)) (σ:St) (H:Hp) (s:Shared) (a C:Addr) (dx:Option Addr),Inv X pins σ H s→H a=some (xo true a C dx)→E (.ref a) dx (upd H a (xo false a C dx))→X.xe (.ref a) s
theorem ky:Raises (iA (b_ P w) P w K mg base N qual scope fa cd A outer s₀ H₀ E) E:=fun pins σ H s a C dx I Ha hE=>yO I Ha (.inl rfl) hE
theorem b_.after {X:Cx} {pins:List (Addr×Obj)} {σ:St} {H:Hp} {s s':Shared} {e:Value} {E':XK} (I:Inv X pins σ H s) (c:b_ X.prog X.w X.stack H s E' e s'):
  ∃a C dx H',e=.ref a∧Inv X pins σ H' s'∧H' a=some (xo false a C dx)∧oi s.heap.objs.size a H' s'.heap∧E' (.ref a) dx H':=by
 obtain⟨a,C,dx,H',e,os,bare,un,hok,Ha,fl,hE⟩:=c
 exact⟨a,C,dx,H',e,I.call' (ch:=[]) os un hok bare (fun b z=>absurd z (by simp)),Ha,fl,hE⟩
theorem E8 (hE:∀a C dx H,H a=some (xo false a C dx)→E (.ref a) dx H→E (.ref a) dx (upd H a (xo false a C dx))):Passes (b_ P w) (iA (b_ P w) P w K mg base N qual scope fa cd A outer s₀ H₀ E) E:=by
 intro pins σ H s e s' I c
 obtain⟨a,C,dx,H',rfl,I',Ha,fl,hE'⟩:=b_.after I c
 exact yO I' Ha (.inr ⟨_,fl,fun T hT=>by
  have:=I.beyond hT
  exact this⟩) (hE a C dx H' Ha hE')
end
end L2
namespace L2
open PySem PySem.Spec PyProof.Rows PySem.W PySem.Builtin PySem.Builtin.ObjectAttr
abbrev fq:List Value:=[.type "ValueError",.type "Exception",.type "BaseException",.type "object"]
structure XC (K:PySem.W.Frag) (C:Addr) (bm:List Value):Prop where
 obj:∃nm q N bs sn sub ab col dd k0 k1 k2 k3 k5,K.lookup C=some (excClassObj nm q C N bs bm true sn sub ab col dd k0 k1 k2 k3 k5 "ValueError.__new__")
 tl:tailIn K fq bm=true
 rf:∀self:Value,refuseLoop self "__setattr__" bm=pure ()
 ga:findIn K (.ref C) "__getattribute__"=some (some (.builtin "BaseException.__getattribute__"))
 gh:findIn K (.ref C) "__getattr__"=some none
 sa:findIn K (.ref C) "__setattr__"=some (some (.builtin "object.__setattr__"))
 cl:findIn K (.ref C) "__class__"=some (some (.builtin "object.__class__"))
 gt:specialIn K (.builtin "object.__class__") "__get__"=some (some (.builtin "getset_descriptor.__get__"))
 tk:takesIn K (.builtin "object.__class__")=some true
namespace XC
variable {K:PySem.W.Frag} {C:Addr} {bm:List Value}
theorem cls (c:XC K C bm):∃cd,clsIn K C=some cd∧cd.mro=.ref C::bm∧cd.hasDict=true:=by
 obtain⟨nm,q,N,bs,sn,sub,ab,col,dd,k0,k1,k2,k3,k5,e⟩:=c.obj
 unfold clsIn
 rw[e]
 exact⟨_,rfl,rfl,rfl⟩
theorem mro (c:XC K C bm) (v:Value):mroIn K C v=some ((Value.ref C::bm).contains v):=by
 obtain⟨cd,e,m,_⟩:=c.cls
 unfold mroIn
 rw[e,Option.bind_some,m]
 rfl
theorem tail (c:XC K C bm) {h:Heap} (X:K.In h):OwnTail h fq bm:=tail_of_in X c.tl
theorem has (c:XC K C bm) {h:Heap} (X:K.In h) {T:String} {b:Bool} (e:fq.contains (.type T)=b):mroIn K C (.type T)=some b:=by
 rw[c.mro,List.contains_cons,(c.tail X).hasType e]
 rfl
end XC
section
variable {prog:Program} {w:World} {A:Around} {E:Value→Shared→Prop} {s:Shared} {K:PySem.W.Frag} {x C D fI:Addr} {bm wL:List Value} {ox:Obj} {od:Option Obj} {name:Str} {v:Value}
theorem Hg {r:Found} {fill expr:Bool} {tk:Tok} {Q:Value→Shared→Prop} (X:K.In s.heap) (c:XC K C bm) (I:InstAt s.heap x ox C od) (hf:findObj K C od name=some r)
  (h:match r with
   | .value u=>handedIn u=true∧Q u s
   | .bind g a=>wpAny (model prog w) A.in1 (call g [a,.ref x,.ref C]) (fun u s'=>wpAny (model prog w) A (handedOut u) Q E s') (fun _ _=>False) s
   | .missing=>False):wpAny (model prog w) A (getAttrBy (.ref x) (.str name tk) fill expr) Q E s:=by
 have G:=PySem.F.excAttr_ValueError.ga
 have L0:=I.type (M:=model prog w)
 have L1:=looks_findIn (M:=model prog w) X c.ga
 have L2:=looks_findIn (M:=model prog w) X c.gh
 have L3:=looks_find (M:=model prog w) X I hf
 have sub:Looks (model prog w) s.heap (isInstance (.ref x) (.type "BaseException")) true:=I.type.andThen (looks_mroIn X (c.has X (by decide+kernel)))
 unfold getAttrBy
 refine wpAny_holding (wpAny_bind (L0.here (wpAny_bind (L1.here ?_))))
 dsimp only
 have ZK:(Value.builtin "BaseException.__getattribute__" == Value.builtin "object.__getattribute__")=false:=by decide+kernel
 rw[ZK,Bool.and_false,if_neg Bool.false_ne_true]
 unfold getAttrByItsOwn
 refine wpAny_bind ?_
 show wpAny _ _ (typeLookup (.ref C) "__getattr__") _ _ _
 refine L2.here (wpAny_bind (wpAny_attempt (wpAny_holding ?_)))
 unfold callGetattribute boundAndCalled
 rw[if_neg (by cases expr<;>decide)]
 rw[G.bind]
 refine wpAny_bind (wpAny_pure (wpAny_call (codeAny_call_builtin G.plain PySem.F.entry_bexc_ga (@check_slot (model prog w) _ _ s "BaseException.__getattribute__" "BaseException" "__getattribute__" (.ref x) [.str name tk] [] _ (by decide+kernel) (by decide+kernel) sub (PySem.F.args_bexc_ga _ _) ?_))))
 unfold Builtin.«object.__getattribute__»
 refine wpAny_bind (wpAny_pure (wpAny_bind (wpAny_pure (wpAny_bind (L0.here (wpAny_bind (L3.here ?_)))))))
 cases r with
 | value u=>
  refine wpAny_pure ?_
  show wpAny _ _ (handedOut u) _ _ _
  exact handed_on h.1 h.2
 | bind g a=>
  show wpAny _ _ (bindTo g a (.ref x) (.ref C)) _ _ _
  unfold bindTo
  refine wpAny_bind (wpAny_holding (wpAny_mono h (fun u s' z=>wpAny_pure ?_) fun _ _ z=>z.elim))
  exact z
 | missing=>exact h.elim
theorem Mc {Q:Option Value→Shared→Prop} (X:K.In s.heap) (c:XC K C bm) (I:InstAt s.heap x ox C od) (h:Q (some (.ref C)) {s with toks:=s.toks+1}):wpAny (model prog w) A (getAttr? (.ref x) "__class__") Q E s:=by
 unfold getAttr? getAttrBy?
 refine wpAny_bind (wpAny_mkText (wpAny_bind (wpAny_attempt ?_)))
 have hf:findObj K C od "__class__"=some (.bind (.builtin "getset_descriptor.__get__") (.builtin "object.__class__")):=by
  obtain⟨cd,e,_⟩:=c.cls
  unfold findObj
  rw[e,Option.bind_some,c.cl,Option.bind_some]
  dsimp only
  rw[c.gt,Option.bind_some]
  dsimp only
  rw[c.tk,Option.bind_some]
 refine Hg (s:={s with toks:=s.toks+1}) X c I hf ?_
 exact wpAny_call (class_get (s:={s with toks:=s.toks+1}) X I (c.has X (by decide+kernel)) (handed_on rfl (wpAny_pure h)))
theorem Hh (c:XC K C bm):KitX K (.ref x) (.ref C) (fun h=>∃ox od,InstAt h x ox C od) where
 ty:=fun _ _ _ ⟨_,_,I⟩=>I.type
 it:=fun _ _ X _=>by
  obtain⟨nm,q,N,bs,sn,sub,ab,col,dd,k0,k1,k2,k3,k5,e⟩:=c.obj
  intro A' Q' E' s' k q
  unfold isType loadHead
  exact wpAny_bind (wpAny_loadPart (k _ _ (X _ _ e)) (wpAny_pure q))
 ne:=fun h tp dd its n sl X htp=>by
  obtain⟨nm,q,N,bs,sn,sub,ab,col,dd,k0,k1,k2,k3,k5,e⟩:=c.obj
  refine Bool.eq_false_iff.mpr fun q=>?_
  have e':C=tp:=Value.ref.inj (beq_iff_eq.mp q)
  subst e'
  have z:=Option.some.inj ((X _ _ e).symm.trans htp)
  injection z with z1
  exact absurd (Value.type.inj z1) (by decide)
 ca:=fun X ⟨_,_,I⟩ k=>Mc X c I k
end
end L2
namespace L2
open PySem PySem.Spec PyProof.Rows PySem.W
section
variable {prog:Program} {w:World} {A:Around} {E:Value→Shared→Prop} {K:PySem.W.Frag} {x C D fI:Addr} {bm wL:List Value} {ox:Obj} {hp:Heap} {g:Array GenState} {d:Drawn} {t:Nat} {os:OsState}
theorem Pr {vs rest:List Value} {a0:Value} {Q:Value→Shared→Prop} {arr:Array Value} (X:K.In hp) (c:XC K C bm) (hx:hp.get? x=some ox) (hc:ox.cls=.ref C) (hd:ox.data=.fields arr) (h0:arr[0]? =some a0) (hr:rest.length≤sizeLine)
  (k:∀h',(∀b o,b≠x→hp.get? b=some o→h'.get? b=some o)→h'.get? x=some (ox.mapFields (·.setIfInBounds 0 (.ref hp.objs.size)))→Q .none ⟨h',g,d,t,os⟩):
  wpAny (model prog w) A (call (.builtin "ValueError.__init__") (.ref x::rest)) Q E ⟨hp,g,d,t,os⟩:=by
 have G:=PySem.F.excBase_ValueError
 obtain⟨nm,q,N,bs,sn,sub,ab,col,dd,k0,k1,k2,k3,k5,e⟩:=c.obj
 refine wpAny_call (codeAny_call_builtin G.init.plain G.initEntry (wpAny_check_init_subT G (c.tail X) (X _ _ e) hx hc ?_))
 have hx1:=Heap.get?_push_of_some (h:=hp) {cls:=.type "tuple",data:=.seq rest.toArray} hx
 have sz:0<arr.size:=(Array.getElem?_eq_some_iff.mp h0).1
 unfold Builtin.«BaseException.__init__» Builtin.BaseException.bexcPut
 repeat (any_goals (first | assumption | with_reducible refine wpAny_field hx1 hd h0 ?_ | with_reducible refine wpAny_setField hx1 hd sz ?_ | wp_step))
 have fin:Q .none ⟨(hp.push {cls:=.type "tuple",data:=.seq rest.toArray}).update x (Obj.mapFields (·.setIfInBounds 0 (.ref hp.objs.size))),g,d,t,os⟩:=by
  refine k _ (fun b o nb q=>?_) (Heap.get?_update_self _ hx1 (Obj.isFreed_of_fields (Obj.data_mapFields hd _)))
  rw[Heap.get?_update_other _ _ (Ne.symm nb)]
  exact Heap.get?_push_of_some _ q
 cases a0<;>(dsimp only;repeat (any_goals (first | assumption | wp_step)))
theorem Hi {rest:List Value} {Q:Fin→Shared→Prop} (X:K.In hp) (c:XC K C bm) (hi:findIn K (.ref C) "__init__"=some (some (.ref fI))) (hf:isFn K (.ref fI)=true) (hr:rest.length≤sizeLine)
  (k:wpAny (model prog w) A (call (.ref fI) (.ref (hp.objs.size+1)::rest)) (fun r s'=>r=.none∧Q (.done (.ret (.ref (hp.objs.size+1)))) s') E
   ⟨(hp.push {cls:=.type "tuple",data:=.seq rest.toArray}).push {cls:=.ref C,data:=.fields #[.ref hp.objs.size,.none,.none,.none,.bool false,.none]},g,d,t,os⟩):
  wpAny (model prog w) A (Builtin.«type.__call__» ⟨.ref C::rest,[]⟩) Q E ⟨hp,g,d,t,os⟩:=by
 have G:=PySem.F.excBase_ValueError
 obtain⟨nm,q,N,bs,sn,sub,ab,col,dd,k0,k1,k2,k3,k5,e⟩:=c.obj
 have oC:=X _ _ e
 have kp:∀b o,hp.get? b=some o→((hp.push {cls:=.type "tuple",data:=.seq rest.toArray}).push {cls:=.ref C,data:=.fields #[.ref hp.objs.size,.none,.none,.none,.bool false,.none]}).get? b=some o:=
  fun b o q=>Heap.get?_push_of_some _ (Heap.get?_push_of_some _ q)
 have X1:=X.keeps kp
 have o1:=kp _ _ oC
 have oe:((hp.push {cls:=.type "tuple",data:=.seq rest.toArray}).push {cls:=.ref C,data:=.fields #[.ref hp.objs.size,.none,.none,.none,.bool false,.none]}).get? (hp.objs.size+1)=
  some {cls:=.ref C,data:=.fields #[.ref hp.objs.size,.none,.none,.none,.bool false,.none]}:=by heap_get
 have self:(Value.ref C::bm).contains (.ref C)=true:=by simp
 repeat (first | with_reducible refine wpAny_loadPart_at oC ?_ | with_reducible refine wpAny_madeBy_exc oC ?_ | wp_step)
 refine codeAny_call_builtin_code (Code.quiet_builtin _ G.quiet) (wpAny_check_new_subT G (c.tail X) oC (codeAny_exc_new_subT G (c.tail X) oC ?_ hr))
 show wpAny _ _ _ _ _ _
 unfold isInstance
 repeat (first | with_reducible refine wpAny_loadPart_at oe ?_ | (with_reducible refine wpAny_isSubtype_exc o1 ?_;rw[self]) | wp_step)
 show wpAny _ _ (typeLookup (.ref C) _) _ _ _
 refine(looks_findIn X1 hi).at (wpAny_holding (wpAny_bind ?_))
 unfold bindSpecial
 refine wpAny_bind ((looks_typeIn X1 (beq_iff_eq.mp hf)).at ?_)
 rw[if_pos (by decide)]
 refine wpAny_pure (wpAny_bind (wpAny_mono k (fun r s' z=>?_) fun _ _ z=>z))
 obtain⟨rfl,z⟩:=z
 wp_walk
 exact z
theorem Pt {rest:List Value} {Q:Value→Shared→Prop} (X:K.In hp) (c:XC K C bm) (hi:findIn K (.ref C) "__init__"=some (some (.ref fI))) (hf:isFn K (.ref fI)=true) (hr:rest.length≤sizeLine)
  (k:wpAny (model prog w) (A.under (.builtin "type.__call__" ⟨.ref C::rest,[]⟩)) (call (.ref fI) (.ref (hp.objs.size+1)::rest)) (fun r s'=>r=.none∧Q (.ref (hp.objs.size+1)) s') E
   ⟨(hp.push {cls:=.type "tuple",data:=.seq rest.toArray}).push {cls:=.ref C,data:=.fields #[.ref hp.objs.size,.none,.none,.none,.bool false,.none]},g,d,t,os⟩):
  wpAny (model prog w) A (call (.ref C) rest) Q E ⟨hp,g,d,t,os⟩:=by
 obtain⟨nm,q,N,bs,sn,sub,ab,col,dd,k0,k1,k2,k3,k5,e⟩:=c.obj
 have oC:=X _ _ e
 have u1:=tc_lookup
 have u2:=tc_bind (.ref C)
 have u3:(⟨hp,g,d,t,os⟩:Shared).TypeIs (.ref C) "type":=⟨_,oC,rfl⟩
 refine wpAny_call (codeAny_of_tree ?_)
 show wpAny _ _ (callAny (.ref C) ⟨rest,[]⟩) _ _ _
 repeat (any_goals (first | assumption | with_reducible refine wpAny_loadPart_at oC ?_ | wp_step))
 refine⟨rfl,?_⟩
 exact codeAny_call_builtin_at (Code.quiet_builtin _ (by decide+kernel)) entry_typeCall (wpAny_check_type_call_sub oC (Hi X c hi hf hr k))
theorem Md {env:Env} {s:Shared} {y:Sem Value} {Q:Flow→Shared→Prop} (hh:A.handled=none)
  (k:wpAny (model prog w) A y (fun v s₁=>∃e oe vs,v=.ref e∧K.In s₁.heap∧XC K C bm∧s₁.heap.get? e=some oe∧oe.cls=.ref C∧oe.data=.fields vs∧vs[1]? =some .none∧E (.ref e) s₁) E s):
  wpAny (model prog w) A (raiseStmt env (some y) none) Q E s:=by
 unfold raiseStmt
 refine wpAny_bind (wpAny_mono k (fun v s₁ z=>?_) fun _ _ z=>z)
 obtain⟨e,oe,vs,rfl,X,c,he,hc,hd,h1,hE⟩:=z
 obtain⟨hp,g,d,tk,os⟩:=s₁
 obtain⟨nm,q,N,bs,sn,sub,ab,col,dd,k0,k1,k2,k3,k5,lk⟩:=c.obj
 have oC:=X _ _ lk
 obtain⟨oc,odi,oda,osl⟩:=oe
 dsimp only at hc hd
 subst hc hd
 have cB:(Value.ref C::bm).contains (.type "BaseException")=true:=by rw[List.contains_cons,(c.tail X).hasType (b:=true) (by decide+kernel),Bool.or_true]
 repeat (first | with_reducible refine wpAny_loadPart_at he ?_ | with_reducible refine wpAny_loadPart_at oC ?_ | (with_reducible refine wpAny_isSubtype_exc oC ?_;rw[cB]) | with_reducible refine wpAny_field he rfl h1 ?_ | wp_step)
 exact wpAny_raiseNew_none hh hE
theorem Me {Q:Bool→Shared→Prop} {e:Addr} {oe:Obj} (X:K.In hp) (c:XC K C bm) (cD:XC K D wL) (he:hp.get? e=some oe) (hc:oe.cls=.ref C) (hq:Q ((Value.ref C::bm).contains (.ref D)) ⟨hp,g,d,t,os⟩):
  wpAny (model prog w) A (excMatches (.ref e) (.ref D)) Q E ⟨hp,g,d,t,os⟩:=by
 obtain⟨nm,q,N,bs,sn,sub,ab,col,dd,k0,k1,k2,k3,k5,lk⟩:=c.obj
 obtain⟨nm',q',N',bs',sn',sub',ab',col',EH,k0',k1',k2',k3',k5',ZL⟩:=cD.obj
 have oC:=X _ _ lk
 have oD:=X _ _ ZL
 have dB:(Value.ref D::wL).contains (.type "BaseException")=true:=by rw[List.contains_cons,(cD.tail X).hasType (b:=true) (by decide+kernel),Bool.or_true]
 have nt:=tc_notTuple
 unfold excMatches
 repeat (first | (with_reducible refine wpAny_loadPart_at he ?_;rw[hc]) | with_reducible refine wpAny_loadPart_at oD ?_ | (with_reducible refine wpAny_isSubtype_exc oD ?_;rw[dB]) | with_reducible refine wpAny_isSubtype_exc oC ?_ | wp_step)
 cases hb:(Value.ref C::bm).contains (.ref D)<;>(rw[hb] at hq;wp_walk;exact hq)
end
end L2
namespace L2
open PySem PySem.Spec PyProof.Rows
def nsO (o:Obj):Bool:=match o with
 | ⟨_,_,.dict es _,_⟩=>es.all fun e=>match e.key with | .str _ _=>true | _=>false
 | _=>false
theorem KJ {K:PySem.W.Frag} {N:Addr} {o:Obj} (l:K.lookup N=some o) (h:nsO o=true):PySem.W.nsOkIn K N=true:=by
 unfold PySem.W.nsOkIn
 rw[l]
 obtain⟨oc,od,da,sl⟩:=o
 cases da<;>first | exact h | cases h
theorem Jn {K:PySem.W.Frag}:PySem.W.tailIn K fq fq=true:=by
 unfold PySem.W.tailIn
 simp
theorem Pu {K:PySem.W.Frag} {D N:Addr} {oc:Value} {od:Option Addr} {cd:ClassData} {sl:Array (Option Value)} (l:K.lookup D=some ⟨oc,od,.cls cd,sl⟩) (e:cd.ns=N) (ok:PySem.W.nsOkIn K N=true) (ni:PySem.W.nsIn K N "__init__"=some none):
  PySem.W.tailIn K fq (.ref D::fq)=true:=by
 unfold PySem.W.tailIn
 dsimp only
 rw[l]
 dsimp only
 rw[e,ok,ni,Jn]
 simp
theorem B1 (self:Value):refuseLoop self "__setattr__" fq=pure ():=PySem.F.store_ValueError.passes self
theorem sM {D:Addr} (self:Value):refuseLoop self "__setattr__" (.ref D::fq)=pure ():=by rw[refuseLoop_ref];exact B1 self
structure XM (K:PySem.W.Frag) (C fI:Addr):Prop where
 init:PySem.W.findIn K (.ref C) "__init__"=some (some (.ref fI))
 fn:PySem.W.isFn K (.ref fI)=true
 kp:PySem.W.keepIn K (.ref C)=true
structure XI (K:PySem.W.Frag) (D:Addr):Prop where
 ga:PySem.W.specialIn K (.ref D) "__getattribute__"=some (some (.builtin "type.__getattribute__"))
 rd:PySem.W.readsIn K D (.type "type")=true
 fi:PySem.W.findCls K (.ref D) (.type "type") "__init__"=some (.val (.builtin "ValueError.__init__"))
section
variable {X:Cx} {pins:List (Addr×Obj)} {σ:St} {H:Hp} {s:Shared} {a C D dx:Addr} {bm wL:List Value} {f:Bool} {od:Option Addr}
theorem mF.inst {h:Heap} (x:mF f a C none h):∃ox,PySem.W.InstAt h a ox C none:=by
 obtain⟨o,vs,e1,e2,e3,e4,_⟩:=x
 refine⟨o,e1,e2,?_,?_⟩
 ·unfold PySem.W.notCls;rw[e4]
 ·rw[e3];trivial
theorem Inv.Pw (I:Inv X pins σ H s) (Ha:H a=some (xo f a C od)) (hd:∀dx,od=some dx→∃fs,H dx=some (.xd fs)):∃ox od',PySem.W.InstAt s.heap a ox C od':=by
 cases od with
 | none=>
  obtain⟨ox,J⟩:=(I.tL Ha).inst
  exact⟨ox,none,J⟩
 | some dx=>
  obtain⟨fs,Hd⟩:=hd dx rfl
  obtain⟨mA,n,_⟩:=(show cZ X.prog X.w H s.heap dx (.xd fs) from I.hok dx _ Hd)
  obtain⟨o',ho,_⟩:=Ep n
  obtain⟨o,vs,e1,e2,e3,e4,_⟩:=I.tL Ha
  refine⟨o,some o',e1,e2,?_,?_⟩
  ·unfold PySem.W.notCls;rw[e4]
  ·rw[e3];exact ho
end
def oU:V→Value
 | .ref D=>.ref D
 | .ty T=>.type T
 | _=>.none
def Mf (K:PySem.W.Frag):List V→Hp→VK→Prop:=fun xs H Q=>∃(a C:Addr) (od:Option Addr) (bm:List Value) (f b:Bool) (cv:V),xs=[.ref a,cv]∧H a=some (xo f a C od)∧(∀dx,od=some dx→∃fs,H dx=some (.xd fs))∧XC K C bm∧
 PySem.W.kitOne K (.ref C) (oU cv)=some b∧Q (.bl b) H
theorem Hj {X:Cx}:fO X (.builtin "isinstance") (Mf X.K):=by
 intro pins s σ H xs us Q I r h
 obtain⟨a,C,od,bm,f,b,cv,rfl,Ha,hd,c,e,q⟩:=h
 obtain⟨u,w',rfl,ru,lB⟩:=vals2 r
 cases(show u=Value.ref a from ru)
 obtain⟨ox,od',J⟩:=I.Pw Ha hd
 have ew:w'=oU cv:=by
  cases cv with
  | ref D=>exact lB
  | ty T=>exact lB
  | non=>exact absurd e (by simp[oU,PySem.W.kitOne,PySem.W.kitCls])
  | bl _=>exact absurd e (by simp[oU,PySem.W.kitOne,PySem.W.kitCls])
  | int _=>exact absurd e (by simp[oU,PySem.W.kitOne,PySem.W.kitCls])
  | str _=>exact absurd e (by simp[oU,PySem.W.kitOne,PySem.W.kitCls])
  | lA _=>exact absurd e (by simp[oU,PySem.W.kitOne,PySem.W.kitCls])
  | flt _=>exact absurd e (by simp[oU,PySem.W.kitOne,PySem.W.kitCls])
 subst ew
 exact PySem.W.kia_one (Hh c) I.ja ⟨ox,od',J⟩ e (fun z=>nomatch z) fun tk=>⟨.bl b,H,I.tok tk,rfl,q⟩
theorem Mg {K:PySem.W.Frag} {C:Addr} {bm:List Value} (c:XC K C bm) (v:Value):PySem.W.subIn K (.ref C) v=some ((Value.ref C::bm).contains v):=by
 have e:=c.mro v
 unfold PySem.W.subIn
 exact e
theorem KL {K:PySem.W.Frag} {C D:Addr} {bm wL:List Value} (c:XC K C bm) (cD:XC K D wL):PySem.W.kitOne K (.ref C) (.ref D)=some ((Value.ref C::bm).contains (.ref D)):=by
 unfold PySem.W.kitOne
 by_cases z:(Value.ref C == Value.ref D)=true
 ·rw[if_pos z,beq_iff_eq.mp z]
  simp
 ·rw[if_neg z]
  obtain⟨nm,q,N,bs,sn,sub,ab,col,dd,k0,k1,k2,k3,k5,e⟩:=cD.obj
  obtain⟨cd,h1,_⟩:=cD.cls
  have h2:PySem.W.typeIn K (.ref D)=some (.type "type"):=by
   show Option.map (fun o:Obj=>o.cls) (K.lookup D)=_
   rw[e]
   rfl
  show(if((PySem.W.clsIn K D).isSome&&PySem.W.typeIn K (.ref D) == some (.type "type"))=true then PySem.W.subIn K (.ref C) (.ref D) else none)=_
  rw[h1,h2,if_pos (by simp)]
  exact Mg c _
theorem Mh {K:PySem.W.Frag} {C:Addr} {bm:List Value} {h:Heap} (X:K.In h) (c:XC K C bm):PySem.W.kitOne K (.ref C) (.type "ValueError")=some true:=by
 unfold PySem.W.kitOne
 rw[if_neg (by simp)]
 unfold PySem.W.kitCls
 dsimp only
 rw[if_pos (by decide+kernel),Mg c,List.contains_cons,(c.tail X).hasType (b:=true) (by decide+kernel),Bool.or_true]
def ZM (K:PySem.W.Frag) (t:TA):TE:=fun σ H Q=>t σ H fun vs H1=>∃(a C:Addr) (od:Option Addr) (bm:List Value) (rest:List V),vs=.ref a::rest∧rest.length≤1000∧H1 a=some (xo true a C od)∧XC K C bm∧Q .non H1
section
variable {X:Cx} {D:Addr} {x:Str} {p pos apos:Pos} {e:Expr} {es:List Expr} {t:TA}
theorem Inv.Mi {pins:List (Addr×Obj)} {σ:St} {H:Hp} {s:Shared} {h':Heap} {t':Nat} {a C C':Addr} {f f':Bool} {od od':Option Addr} (I:Inv X pins σ H s) (Ha:H a=some (xo f a C od)) (k:∀b o,b≠a→s.heap.get? b=some o→h'.get? b=some o) (new:mF f' a C' od' h'):
  Inv X pins σ (upd H a (xo f' a C' od')) {s with heap:=h',toks:=t'}:=
 I.write (x:=a) (e:=a) (o:=xo f' a C' od') (h':=h') (t':=t') (by rw[Ha];trivial) (.inl rfl) k (let ⟨o,_,e,_⟩:=new;⟨o,e⟩) (xX new)
theorem p6 {H:Hp} {a:Addr} {o:HO} (Ha:H a=some o):upd H a o=H:=by
 funext b
 by_cases z:b=a
 ·subst z;rw[ag,Ha]
 ·rw[bz z]
theorem Px {pl:Sem Bool} (cD:XI X.K D) (hg:Gl X x) (hm:X.mg x=some (.ref D)) (ha:PA X (e::es) t) (hdb:(x == ("__debug__":Str))=false:=by decide)
  (hst:starEach (e::es) X.env=(false,eval e X.env)::starEach es X.env:=by rfl) (hpl:(backTo pos (starEach es X.env)).any (·.1)=false:=by rfl)
  (ht:eval (.Call (.Attribute (.Name x p) "__init__" apos) (e::es) [] pos) X.env=(do
   let ov ←eval (.Name x p) X.env
   standAt apos.atName
   let (f,first) ←holding [ov] (getMethod ov "__init__" pl)
   callWith pos f first (backTo pos (starEach (e::es) X.env)) (backToKw pos (keywordEach [] X.env))):=by rfl):
  PE X (.Call (.Attribute (.Name x p) "__init__" apos) (e::es) [] pos) (ZM X.K t):=by
 intro pins s σ H Q I h
 refine PySem.W.methodCall_KW (pl:=pl) (jF I hg hm ?_ hdb) ht
 refine PySem.W.method_cls I.ja cD.ga (PySem.W.cls_value I.ja cD.rd cD.fi rfl ?_)
 refine callWith_builtin1 (bf (ha pos pins _ σ H _ (I.tok _) h) fun us s1 ⟨vs,H1,I1,r1,a,C,od,bm,rest,ev,hl,Ha,c,q⟩=>?_) hst hpl
 subst ev
 obtain⟨u,us',eu,ru,rt⟩:∃u us',us=u::us'∧RelV (.ref a) u∧Vals rest us':=by
  cases r1 with
  | cons ru rt=>exact⟨_,_,rfl,ru,rt⟩
 subst eu
 ·cases(show u=Value.ref a from ru)
  obtain⟨o,vs',e1,e2,e3,e4,e5,e6⟩:=I1.tL Ha
  have e0:∃a0,vs'[0]? =some a0:=⟨vs'[0]'(by omega),by simp⟩
  obtain⟨a0,e0⟩:=e0
  have hl':us'.length≤1000:=by rw[←rt.length];exact hl
  obtain⟨hp,g,d,tk,os⟩:=s1
  refine Pr (vs:=[]) I1.ja c e1 e2 e4 e0 (by rw[sizeLine_eq];omega) fun h' k ex=>?_
  have new:mF true a C od h':=⟨_,_,ex,by rw[Obj.cls_mapFields];exact e2,by rw[←e3];cases o;rename_i dd sl;cases dd<;>rfl,Obj.data_mapFields e4 _,by simpa using e5,fun _=>by
   rw[Array.getElem?_setIfInBounds_ne (by decide)];exact e6 rfl⟩
  have I2:=I1.Mi (t':=tk) Ha k new
  rw[p6 Ha] at I2
  exact⟨.non,H1,I2,rfl,q⟩
end
def Ra (C:Addr) (sp:Sp) (t:TA):TE:=fun σ H Q=>t σ H fun vs H1=>∀x,H1 x=none→sp (.ref x::vs) (upd H1 x (xo true x C none)) (fun v H2=>v=.non∧Q (.ref x) H2) E0
section
variable {X:Cx} {k:Nat} {C fI:Addr} {bm:List Value} {fd:FuncData} {ps:List Str} {sp:Sp} {x:Str} {p pos:Pos} {e:Expr} {es:List Expr} {t:TA}
theorem Mj {pins:List (Addr×Obj)} {σ:St} {H:Hp} {s:Shared} {Q:VK} {us:List Value} {vs:List V} {E:Value→Shared→Prop} (c:XC X.K C bm) (M:XM X.K C fI) (F:a_ X.prog X.w X.K X.mg X.base dq k fI fd ps sp) (hr:aU (k+1) X.A) (hb:Binds X.K fd ps [])
  (I:Inv X pins σ H s) (r:Vals vs us) (hl:us.length≤1000) (h:∀x,H x=none→sp (.ref x::vs) (upd H x (xo true x C none)) (fun v H2=>v=.non∧Q (.ref x) H2) E0):
  wpAny (model X.prog X.w) X.A (call (.ref C) us) (EP X pins σ Q) E s:=by
 obtain⟨hp,g,d,tk,os⟩:=s
 refine Pt I.ja c M.init M.fn (by rw[sizeLine_eq];omega) ?_
 have hq:=h (hp.objs.size+1) (I.hok.fresh (Nat.le_succ _))
 have kp:∀b o,hp.get? b=some o→((hp.push {cls:=.type "tuple",data:=.seq us.toArray}).push {cls:=.ref C,data:=.fields #[.ref hp.objs.size,.none,.none,.none,.bool false,.none]}).get? b=some o:=
  fun b o q=>Heap.get?_push_of_some _ (Heap.get?_push_of_some _ q)
 have oe:((hp.push {cls:=.type "tuple",data:=.seq us.toArray}).push {cls:=.ref C,data:=.fields #[.ref hp.objs.size,.none,.none,.none,.bool false,.none]}).get? (hp.objs.size+1)=
  some {cls:=.ref C,data:=.fields #[.ref hp.objs.size,.none,.none,.none,.bool false,.none]}:=by heap_get
 have I2:=I.laid (o:=xo true (hp.objs.size+1) C none) (t':=tk) kp (Nat.le_succ _) (xX ⟨_,_,oe,rfl,rfl,rfl,rfl,fun _=>rfl⟩)
 have r2:Vals (V.ref (hp.objs.size+1)::vs) (Value.ref (hp.objs.size+1)::us):=.cons rfl r
 have len:(Value.ref (hp.objs.size+1)::us++([]:List Value)).length=ps.length:=by
  have e:=r2.length
  rw[F.len _ _ _ _ hq] at e
  rw[List.append_nil]
  exact e.symm
 have b2:=hb _ (Value.ref (hp.objs.size+1)::us) I2.ja len
 rw[List.append_nil] at b2
 refine wpAny_call (codeAny_mono (F.run _ X.stack _ _ ⟨Value.ref (hp.objs.size+1)::us,[]⟩ _ _ _ E0 (hr.make C us []) (I2.env0.make C us []) b2 r2 hq) fun r s' hq'=>?_)
 cases r with
 | error e=>exact(show False from hq').elim
 | ok fl=>
  cases fl with
  | ret u=>
   obtain⟨v,H',I3,rv,ev,q3⟩:=I2.after hq'
   subst ev
   exact⟨rv,⟨V.ref (hp.objs.size+1),H',I3,rfl,q3⟩⟩
  | next=>exact False.elim hq'
  | brk=>exact False.elim hq'
  | cont=>exact False.elim hq'
theorem qY (c:XC X.K C bm) (M:XM X.K C fI) (F:a_ X.prog X.w X.K X.mg X.base dq k fI fd ps sp) (hr:aU (k+1) X.A) (hg:Gl X x) (hm:X.mg x=some (.ref C)) (hb:Binds X.K fd ps [])
  (hdb:(x == ("__debug__":Str))=false:=by decide):PE X (.Call (.Name x p) [] [] pos) (Ra C sp jH):=by
 intro pins s σ H Q I h
 refine wpAny_Call_Name_kw (jF I hg hm ?_ hdb)
 exact PySem.W.callWith_K0 I.ja M.kp (Mj (us:=[]) c M F hr hb I .nil (by simp) h)
def Rb (K:PySem.W.Frag) (C:Addr) (te:TE) (E:XK):TS:=fun _ σ H=>te σ H fun v H1=>∃a od,v=.ref a∧H1 a=some (xo true a C od)∧E (.ref a) od (upd H1 a (xo false a C od))
theorem uJ {te:TE} {E:XK} (hh:X.A.handled=none) (c:XC X.K C bm) (R:Raises X E) (he:PE X e te):PS X (.Raise (some e) none pos) (Rb X.K C te E):=by
 intro pins s σ H D I h
 rw[arm_exec_Raise]
 have key:wpAny (model X.prog X.w) X.A (raiseStmt X.env (some (do let v ←eval e X.env;standAt pos;pure v)) none) (SP X pins D) X.xe s:=by
  refine Md (K:=X.K) (C:=C) (bm:=bm) hh (wpAny_bind (bf (he pins s σ H _ I h) fun u s1 ⟨v,H1,I1,rv,a,od,ev,Ha,hE⟩=>wpAny_bind (wpAny_standAt (wpAny_pure ?_))))
  subst ev
  cases(show u=Value.ref a from rv)
  obtain⟨o,vs,e1,e2,e3,e4,e5,e6⟩:=I1.tL Ha
  exact⟨a,o,vs,rfl,I1.ja,c,e1,e2,e4,e6 rfl,R pins σ H1 s1 a C od I1 Ha hE⟩
 first
  | exact wpAny_bind (wpAny_standAt key)
  | (simp only[evalOpt,Option.map];exact wpAny_bind (wpAny_standAt key))
  | (show wpAny _ _ (do standAt pos;raiseStmt X.env (some (do let v ←eval e X.env;standAt pos;pure v)) none) _ _ s;exact wpAny_bind (wpAny_standAt key))
end
abbrev Cx.suite (X:Cx) (a:Addr):Cx:={X with A:=X.A.mark (some (.ref a)),calm:=false,xe:=fun _ _=>False}
section
variable {X:Cx} {pins:List (Addr×Obj)} {σ:St} {H:Hp} {s:Shared} {a:Addr}
theorem Inv.suite (I:Inv X pins σ H s) (a:Addr):Inv (X.suite a) pins σ H s:=
 ⟨⟨I.ok.mod,I.ok.kind,I.ok.glob,I.ok.blt,I.ok.above,I.ok.inj,I.ok.has,I.ok.cab,fun z=>(by cases z),I.ok.frames,I.ok.stk,I.ok.Ee,I.ok.bs,I.ok.tD,I.ok.vm,I.ok.tS,I.ok.jE,I.ok.vX⟩,I.os,I.bare,I.base,I.loc,I.cell,I.free,I.hV,I.pin,I.hok,I.len⟩
theorem Inv.B2 (ok:X.Ok) (I:Inv (X.suite a) pins σ H s):Inv X pins σ H s:=⟨ok,I.os,I.bare,I.base,I.loc,I.cell,I.free,I.hV,I.pin,I.hok,I.len⟩
theorem Inv.gone {j:Nat} {n:Str} {v:Option Value} {h':Heap} {m:Str→Option Value} {t':Nat} (I:Inv X pins σ H s) (hN:X.N.Nodup) (hj:X.N[j]? =some n) (hn:s.heap.Ns X.env.locals m)
  (hl:∀(i:Nat) (x:Str) (v:V),X.N[i]? =some x→σ[i]? =some (some v)→Bz X.env.scope x→∃u,RelV v u∧Look X.env s.heap m x u)
  (h1:h'.Ns X.env.locals (fun x=>if x=n then v else m x)) (h2:Heap.SameBut X.env.locals s.heap h'):Inv X pins (σ.set j none) H {s with heap:=h',toks:=t'}:=by
 have BA:∀b o,X.s₀.heap.get? b=some o→b≠X.env.locals:=fun b o e=>Nat.ne_of_lt (Nat.lt_of_lt_of_le (Heap.lt_size e) I.ok.above)
 refine⟨I.ok,I.os,I.bare,⟨fun b o e z w y=>?_,fun b o e z w y=>?_,I.base.free,fun b o e y=>?_,I.base.tups,I.base.oQ,I.base.pP⟩,⟨_,h1,fun i x u e1 e2 e3=>?_⟩,fun x c e=>?_,I.free,I.hV,fun p hp=>?_,fun b ob e=>?_,by rw[List.length_set];exact I.len⟩
 ·exact(h2.2 b (BA b o e)).trans (I.base.keep b o e z w y)
 ·obtain⟨sl,q⟩:=I.base.slot b o e z w y
  exact⟨sl,(h2.2 b (BA b o e)).trans q⟩
 ·obtain⟨o',q⟩:=I.base.there b o e y
  exact⟨o',(h2.2 b (BA b o e)).trans q⟩
 ·have ij:i≠j:=fun z=>by
   subst z
   rw[List.getElem?_set] at e2
   split at e2
   ·split at e2<;>cases e2
   ·rename_i w;exact w rfl
  rw[List.getElem?_set_ne (Ne.symm ij)] at e2
  obtain⟨y,ry,ly⟩:=hl i x u e1 e2 e3
  have xn:x≠n:=fun z=>ij (tT hN e1 (z▸hj))
  refine⟨y,ry,?_⟩
  rcases ly with⟨k,q⟩ | ⟨k,c,q,z⟩
  ·exact .inl ⟨k,by show(if x=n then v else m x)=some y;rw[if_neg xn];exact q⟩
  ·exact .inr ⟨k,c,q,z.sameBut h2 (I.ux x c q)⟩
 ·obtain⟨w,z⟩:=I.cell x c e
  exact⟨w,z.sameBut h2 (I.ux x c e)⟩
 ·obtain⟨e,q,ne,nf,dd⟩:=I.pin p hp
  exact⟨(h2.2 p.1 ne).trans e,q,ne,nf,dd⟩
 ·refine(I.hok b ob e).stay (fun c w' hc q=>(h2.2 c ?_).trans q) (fun _ q=>q) fun _ _ q=>q
  rintro rfl
  rcases hc with z | z
  ·rw[←z,I.free] at e;cases e
  ·rw[I.free] at z;cases z
end
def Tc (K:PySem.W.Frag) (D:Addr) (sp:Sp) (i j:Nat) (ta:TA) (ts:TS):TS:=fun G σ H=>ta σ H fun vs H1=>sp vs H1 (fun v H2=>G.nx (σ.set i (some v)) H2)
 fun ev od H2=>∃(a C:Addr) (bm:List Value),ev=.ref a∧H2 a=some (xo false a C od)∧XC K C bm∧(Value.ref C::bm).contains (.ref D)=true∧
  ts {nx:=fun σ' H'=>G.nx (σ'.set j none) H',rt:=G.rt,bk:=fun σ' H'=>G.bk (σ'.set j none) H',ct:=fun σ' H'=>G.ct (σ'.set j none) H'} (σ.set j (some (.ref a))) (upd H2 a (xo false a C od))
section
variable {X:Cx} {k:Nat} {D f:Addr} {wL:List Value} {fd:FuncData} {ps:List Str} {sp:Sp} {x y n dn:Str} {px pf pc pa pd ph pos:Pos} {e:Expr} {es:List Expr} {t:TA} {i j:Nat} {b₀:Stmt} {suite:List Stmt} {ts:TS}
theorem Mk (F:a_ X.prog X.w X.K X.mg X.base (b_ X.prog X.w) k f fd ps sp) (hr:aU k X.A) (hg:Gl X y) (hm:X.mg y=some (.ref f)) (hk:PySem.W.keepIn X.K (.ref f)=true) (hb:Binds X.K fd ps []) (ha:PA X.Eg (e::es) t)
  (hN:X.N.Nodup) (hi:X.N[i]? =some x) (hx:Loc X.env.scope x) (hh:Head X) (hD:Gl X dn) (ZN:X.mg dn=some (.ref D)) (cD:XC X.K D wL) (hj:X.N[j]? =some n) (hn:X.env.scope.names.lookup n=some .local)
  (hs:∀a,mm (X.suite a) (b₀::suite) ts) (hdb:(y == ("__debug__":Str))=false:=by decide) (hdD:(dn == ("__debug__":Str))=false:=by decide) (he:starEach (e::es) X.env=(false,eval e X.env)::starEach es X.env:=by rfl) (hpl:(backTo pc (starEach es X.env)).any (·.1)=false:=by rfl)
  (hsw:swapsWith (.Call (.Name y pf) (e::es) [] pc) (some (.Name x px)) pa.line X.env=pure false:=by rfl) (hfx:X.fn x=true∨X.env.scope.names.lookup x=some .local:=by first | exact .inl rfl | exact .inr rfl | assumption):
  PS X (.Try [.Assign [.Name x px] (.Call (.Name y pf) (e::es) [] pc) pa] [.ExceptHandler (some (.Name dn pd)) (some n) (b₀::suite) ph] [] [] pos) (Tc X.K D sp i j t ts):=by
 intro pins s σ H G I h
 refine wpAny_Try_except (wpAny_execs_cons (wpAny_Assign_Name ?_ hsw))
 refine wpAny_Call_Name_kw (jF I hg hm ?_ hdb)
 have ha':=ha pc pins s σ H _ (I.wish _) h
 refine PySem.W.callWith_K (h₀:=X.base) I.ok.mod.vW hk (wpAny_mono ha' (fun us s1 z=>?_) fun _ _ z=>False.elim z) he hpl
 obtain⟨vs,H1,I1,r,q⟩:=z
 have I1:=I1.jf
 refine⟨I1.ja,?_⟩
 have len:(us++([]:List Value)).length=ps.length:=by
  rw[List.append_nil,←r.length]
  exact F.len _ _ _ _ q
 have b2:=hb s1 us I1.ja len
 rw[List.append_nil] at b2
 refine wpAny_call (codeAny_mono (F.run X.A X.stack s1 H1 ⟨us,[]⟩ us vs _ _ hr I1.env0 b2 r q) fun res s2 c=>?_)
 cases res with
 | ok fl=>
  cases fl with
  | ret u=>
   obtain⟨v,H2,I2,rv,q2⟩:=I1.after c
   refine pR I2 hN hi hx rv (fun s3 I3=>wpAny_execs_nil ?_) hfx
   exact wpAny_execs_nil ⟨_,H2,I3,q2⟩
  | next=>exact False.elim c
  | brk=>exact False.elim c
  | cont=>exact False.elim c
 | error ev=>
  dsimp only[CR] at c
  obtain⟨a,C',od,H2,rfl,I2,Ha',fl,hE⟩:=b_.after I1 c
  obtain⟨a',C,bm,ea,Ha,cC,hc,kk⟩:=hE
  cases ea
  have ZO:=fun T hT=>I1.beyond (T:=T) hT
  refine wK I2 rfl hh Ha (.inr ⟨_,fl,ZO⟩) fun h3 I3 Ml=>?_
  have ZP:=fun T hT=>I2.beyond (T:=T) hT
  have Rc:(upd H2 a (xo false a C od)) a=some (xo false a C od):=ag
  refine wpAny_handleBy_cons (codeAny_handlers_test ?_) (by intro q;cases q)
  refine jF (X:=X.suite a) (I3.suite a) hD ZN ?_ hdD
  obtain⟨o3,v3,q1,q2,_⟩:=I3.tL Rc
  refine Me I3.ja cC cD q1 q2 ?_
  rw[hc]
  show codeAny _ _ _ _ _
  refine codeAny_handlers_suite_as ?_
  refine De I3 Rc Ml ZP fun h4 I4 Mm=>?_
  refine pR (X:=X.suite a) (I4.suite a) hN hj (.inl hn) (v:=.ref a) rfl (fun s5 I5=>?_) (.inr hn)
  have QV:Inv X pins (σ.set j (some (V.ref a))) (upd H2 a (xo false a C od)) s5:=I5.B2 I.ok
  refine wpAny_mono (hs a pins s5 _ _ _ I5 kk) (fun ZQ s6 z=>?_) fun _ _ z=>False.elim z
  have goes:∀{σ6:St} {H6:Hp} {QQ:Unit→Shared→Prop} {EE:Value→Shared→Prop},Inv (X.suite a) pins σ6 H6 s6→(∀s7,Inv X pins (σ6.set j none) H6 s7→QQ () s7)→wpAny (model X.prog X.w) X.A (do bindName X.env n .none;unbindBehindTheSuite X.env n ph) QQ EE s6:=by
   intro σ6 H6 QQ EE I6 q6
   have Rf:=I6.B2 I.ok
   obtain⟨m,Rg,ZR⟩:=id Rf.loc
   exact wpAny_nameGoes_keeps hn Rg (by rw[I.ok.kind];rfl) fun h7 v ZS ZT=>q6 _ (Rf.gone hN hj Rg ZR ZS ZT)
  cases ZQ with
  | next=>
   obtain⟨σ6,H6,I6,q6⟩:=z
   exact goes I6 fun s7 I7=>⟨_,H6,I7,q6⟩
  | brk=>
   obtain⟨σ6,H6,I6,q6⟩:=z
   exact goes I6 fun s7 I7=>⟨_,H6,I7,q6⟩
  | cont=>
   obtain⟨σ6,H6,I6,q6⟩:=z
   exact goes I6 fun s7 I7=>⟨_,H6,I7,q6⟩
  | ret u=>
   obtain⟨v,σ6,H6,I6,rv,q6⟩:=z
   exact goes I6 fun s7 I7=>⟨v,_,H6,I7,rv,q6⟩
end
theorem cF.oj {P:Program} {w:World} {K:PySem.W.Frag} {mg:Str→Option Value} {base:Heap} {x qual:Str} {st:Stmt} {f:Addr} {fd:FuncData} {N ps:List Str} {k:Nat} {sp:Sp} (F:cF K x qual st f fd) (S:bh N ps (aw st)) (len:∀vs H Q E,sp vs H Q E→vs.length=ps.length)
  (hbody:∀(cdv:Value) (A:Around) (outer:List Env) (s:Shared) (H:Hp) (vs:List V) (Q:VK) (E:XK),aU k (A.deeper (envOfC qual (aw st) s.heap.objs.size f cdv))→sp vs H Q E→
   ∃t,mm (iA (b_ P w) P w K mg base N qual (aw st) f cdv A outer s H E) (aV st) t∧t {nx:=fun _ H'=>Q .non H',rt:=Q} (start N vs) H):a_ P w K mg base (b_ P w) (k+1) f fd ps sp:=by
 obtain⟨oc,od,kV,doc,pm,an,cdv,ct,osl,rfl,lk,hcd⟩:=F.ex
 exact Ja lk hcd S len fun A outer s H vs Q E hr hsp=>hbody cdv A outer s H vs Q E hr hsp
theorem Mn (x y:Str) (h:(!ltCps y.cps.toList x.cps.toList)=true):x.cps.toList≤y.cps.toList:=by
 rw[PyProof.Rows.ltCps_eq] at h
 exact List.not_lt.mp (by simpa using h)
theorem uK:∀(l:List Str) (p:Str),risingS p l=true→∀y∈l,p.cps.toList≤y.cps.toList
 | [],p,_,y,hy=>by cases hy
 | x::l,p,h,y,hy=>by
  have h':(!ltCps x.cps.toList p.cps.toList&&risingS x l)=true:=h
  rw[Bool.and_eq_true] at h'
  have h1:=Mn p x h'.1
  rcases List.mem_cons.mp hy with e | hy
  ·rw[e];exact h1
  ·exact List.le_trans h1 (uK l x h'.2 y hy)
theorem yP {x:Str} {l:List Str} (h:sortedS (x::l)=true):sortedS l=true:=by
 cases l with
 | nil=>rfl
 | cons y l=>
  have h':(!ltCps y.cps.toList x.cps.toList&&risingS y l)=true:=h
  rw[Bool.and_eq_true] at h'
  exact h'.2
theorem cI {x y:Str} (h:x.cps.toList=y.cps.toList):x=y:=by
 obtain⟨a⟩:=x
 obtain⟨b⟩:=y
 have:a=b:=Array.toList_inj.mp h
 rw[this]
theorem uL:∀{l:List Str},sortedS l=true→∀{i j:Nat} {x y:Str},i≤j→l[i]? =some x→l[j]? =some y→x.cps.toList≤y.cps.toList
 | [],_,i,j,x,y,_,e,_=>by simp at e
 | z::l,h,0,j,x,y,_,e1,e2=>by
  simp at e1
  subst e1
  cases j with
  | zero=>simp at e2;subst e2;exact List.le_refl _
  | succ j=>exact uK l z h y (List.mem_of_getElem? (by simpa using e2))
 | z::l,h,i+1,j,x,y,hij,e1,e2=>by
  obtain⟨j',rfl⟩:∃j',j=j'+1:=⟨j-1,by omega⟩
  exact uL (yP h) (by omega:i≤j') (by simpa using e1) (by simpa using e2)
section
variable {X:Cx} {o e:Expr} {es:List Expr} {to ta:TE} {t:TA} {T:String} {name n:Str} {id:String} {apos cpos pos:Pos} {r:V→List V→Hp→VK→Prop}
theorem kz (K:PySem.W.Frag) (hK:X.K=K:=by rfl):fO X (.builtin "isinstance") (Mf K):=by
 subst hK
 exact Hj
end
def Its (x:Str):It:=⟨fun i _=>i<x.cps.size,fun i H y H'=>H'=H∧∃c,x.cps[i]? =some c∧y=.str ⟨#[c]⟩,fun i _=>x.cps.size≤i⟩
theorem Hk {P:Program} {w:World} {K:PySem.W.Frag} {tg:Expr} (it:Addr) (x:Str) (t:Tok):Turn P w K tg (Its x) [it] it (fun i h=>h.IsStrIter it "str_ascii_iterator" x t i) where
 mem:=by simp
 obj:=fun i h st b hb=>by
  have e:b=it:=by simpa using hb
  subst e
  obtain⟨o,e,c,d⟩:=st
  exact⟨o,e,fun v z=>by rw[d] at z;cases z⟩
 keep:=fun i h h' st k=>let ⟨o,ho,r⟩:=st;⟨o,k it (by simp) o ho,r⟩
 item:=by
  intro X hP hw hK hc i pins s σ H E I hf st hg
  subst hP hw hK
  obtain⟨f0,f1,f2,f3,f4,f5⟩:=hf it (by simp)
  have hg':i<x.cps.size:=hg
  refine wpAny_pyNext_ascii_item st (c:=x.cps[i]) (by simp[hg']) fun h' st' sb=>?_
  have I1:Inv X pins σ H {s with heap:=h',toks:=s.toks+1}:=I.turned (fun b o hb e=>(sb.2 b hb).trans e) f0 f1 f3 f4 f5
  obtain⟨o,e,c,d⟩:=id st'
  exact⟨_,rfl,xU (s:={s with heap:=h',toks:=s.toks+1}) e c d (by decide) ⟨.str ⟨#[x.cps[i]]⟩,H,I1,⟨_,rfl⟩,⟨rfl,_,by simp[hg'],rfl⟩,st',fun b hb=>(hf b hb).1⟩⟩
 done:=by
  intro X hP hw hK hc i pins s σ H E I hf st hg
  subst hP hw hK
  obtain⟨f0,f1,f2,f3,f4,f5⟩:=hf it (by simp)
  have hg':x.cps.size≤i:=hg
  exact wpAny_pyNext_ascii_end (I.ok.hd hc) st (by simp[hg']) fun h' eb=>⟨rfl,I.turned (t':=s.toks) (fun b o hb e=>eb b o hb e) f0 f1 f3 f4 f5⟩
 self:=fun _ _ _ _ _ st h=>wpAny_pyIter_striter_ascii st h
def Td (tl:TE):TI:=fun σ H R=>tl σ H fun x H1=>∃z:Str,x=.str z∧z.cps.all (· <128)=true∧R (Its z) H1
section
variable {X:Cx} {tg:Expr}
theorem Mp {l:Expr} {tl:TE} (hl:PE X l tl):PI X tg l (Td tl):=by
 intro pins s σ H R I h
 refine bf (hl pins s σ H _ I h) fun v s1 ⟨x,H1,I1,r1,q1⟩=>?_
 obtain⟨z,rfl,ha,q⟩:=q1
 obtain⟨t,rfl⟩:=r1
 refine wpAny_pyIter_ascii ha ?_
 refine⟨s1.heap.objs.size,[s1.heap.objs.size],_,_,H1,rfl,I1.kept (t':=s1.toks) fun b o e=>Heap.get?_push_of_some _ e,Hk _ z t,⟨_,Heap.get?_push_size _ rfl,rfl,rfl⟩,fun b hb=>?_,q⟩
 have e:b=s1.heap.objs.size:=by simpa using hb
 subst e
 exact I1.oR (Nat.le_refl _) (I1.hok.fresh (Nat.le_refl _))
end
section
variable {X:Cx}
theorem KN:cW X (binaryOp .Mult) (fun x y H Q=>∃(z:Str) (n:Int),x=.str z∧y=.int n∧0≤n∧n≤1000∧z.length≤1000∧Q (.str (Txt.mul z n)) H):=by
 intro pins s σ H x y v u Q I rx ry h
 obtain⟨z,n,rfl,rfl,h0,h1,h2,q⟩:=h
 obtain⟨t,rfl⟩:=rx
 obtain⟨t',rfl⟩:=ry
 refine SB.mul ⟨?_,?_,?_⟩ fun t' k=>⟨.str _,H,I.tok k,⟨t',rfl⟩,q⟩
 ·have a:¬n< -(2 ^ 63:Int):=by omega
  have b:¬n ≥ 2 ^ 63:=by omega
  simp only[a,b,decide_false,Bool.or_self]
 ·intro a b c
  have e:(1000:Int)≤(2 ^ 63-1) / n:=by
   rw[Int.le_ediv_iff_mul_le (by omega)]
   omega
  omega
 ·intro a b
  have h3:z.length*n.toNat≤1000*1000:=Nat.mul_le_mul h2 (by omega)
  have h4:(1000*1000:Nat)≤sizeLine:=by decide
  exact decide_eq_false (by omega)
end
theorem uM {α β:Type} {F:α→β→Prop}:∀{l:List α} {m:List β} {i:Nat} {a:α},Paired F l m→l[i]? =some a→∃b,m[i]? =some b∧F a b
 | _,_,_,_,.nil,h=>by simp at h
 | _,_,0,_,.cons r _,h=>by simp at h;subst h;exact⟨_,rfl,r⟩
 | _,_,i+1,_,.cons _ t,h=>by
  simp only[List.getElem?_cons_succ] at h ⊢
  exact uM t h
theorem Mq {c:TT} {tb:TS} {D:Ends} {σ:St} {H:Hp} (W:Nat→St→Hp→Prop) (h0:∃m,W m σ H)
  (hs:∀m σ H,W m σ H→c σ H fun b H1=>if b=true then tb {D with nx:=fun σ' H'=>∃m',m'<m∧W m' σ' H',ct:=fun σ' H'=>∃m',m'<m∧W m' σ' H',bk:=D.nx} σ H1 else D.nx σ H1)
  (mono:∀σ H Q Q',(∀b H1,Q b H1→Q' b H1)→c σ H Q→c σ H Q'):yi c tb D σ H:=by
 refine⟨W,h0,fun m σ H w=>mono σ H _ _ (fun b H1 q=>?_) (hs m σ H w)⟩
 cases b with
 | true=>exact⟨_,fun σ' H' p=>p,q⟩
 | false=>exact q
section
variable {X:Cx} {o e:Expr} {es:List Expr} {apos cpos:Pos} {T:String} {name:Str} {id:String} {r:V→List V→Hp→VK→Prop} {to:TE} {t:TA}
theorem Mr (K:PySem.W.Frag) (pa:PlainAttrs T) (slot:Slot T name id) (hty:typeOf (.builtin id)=pure (.type "method_descriptor")) (hm:Lx X id r) (ho:PE X o to) (ha:PA X (e::es) t)
  (hbase:attributeBase o name X.env (eval o X.env)=eval o X.env:=by rfl)
  (hfew:((backTo cpos (starEach (e::es) X.env)).all (fun x=> !x.1)&&(backToKw cpos (keywordEach [] X.env)).all (fun x=>x.1.isSome)
   &&decide ((e::es).length+([]:List Keyword).length+(if([]:List Keyword).isEmpty then 0 else 1)<30))=true:=by rfl)
  (hline:(apos.endLine == cpos.line)=true:=by rfl) (hs:starEach (e::es) X.env=(false,eval e X.env)::starEach es X.env:=by rfl) (hplain:(backTo cpos (starEach es X.env)).any (·.1)=false:=by rfl) (hK:X.K=K:=by rfl):
  PE X (.Call (.Attribute o name apos) (e::es) [] cpos) (QX K T r to t):=by
 subst hK
 exact dm pa slot hty hm ho ha hbase hfew hline hs hplain
end
theorem Py {t u:TS} {D:Ends} {σ:St} {H:Hp} (h:∀R:St→Hp→Prop,R=u D→t {D with nx:=R} σ H):tV t u D σ H:=h _ rfl
theorem wM {t u:TS} {D:Ends} {σ:St} {H:Hp} (Pv:St→Hp→Prop) (h1:∀σ H,Pv σ H→u D σ H) (h2:∀R:St→Hp→Prop,(∀σ H,Pv σ H→R σ H)→t {D with nx:=R} σ H):tV t u D σ H:=h2 _ h1
theorem sN {c:TT} {tb:TS} {D:Ends} {σ:St} {H:Hp} (W:Nat→St→Hp→Prop) (h0:∃m,W m σ H)
  (hs:∀m σ H (N:St→Hp→Prop),(∀σ' H' m',m'<m→W m' σ' H'→N σ' H')→W m σ H→c σ H fun b H1=>if b=true then tb {D with nx:=N,ct:=N,bk:=D.nx} σ H1 else D.nx σ H1)
  (mono:∀σ H Q Q',(∀b H1,Q b H1→Q' b H1)→c σ H Q→c σ H Q'):yi c tb D σ H:=Mq W h0 (fun m σ H w=>hs m σ H _ (fun _ _ m' h w'=>⟨m',h,w'⟩) w) mono
section
variable {X:Cx}
def Jo (K:PySem.W.Frag):R2:=fun x y H Q=>∃(a b:Addr) (xs ys:List V),x=.ref a∧y=.ref b∧H a=some (.tup xs)∧H b=some (.tup ys)∧xs.length+ys.length≤sizeLine∧∀u H',Same H H'→H' u=some (.tup (xs++ys))→Q (.ref u) H'
theorem KO (K:PySem.W.Frag) (hK:X.K=K:=by rfl):cW X (binaryOp .Add) (Jo K):=by
 subst hK
 intro pins s σ H x y v u Q I rx ry h
 obtain⟨a,b,xs,ys,rfl,rfl,ha,hb,hz,q⟩:=h
 by_cases hx:xs=[]
 ·subst hx
  exact BV pins s σ H _ _ v u Q I rx ry ⟨a,b,ys,rfl,rfl,.of ha,.of hb,q b H (.refl _) hb⟩
 ·exact BK pins s σ H _ _ v u Q I rx ry ⟨a,b,xs,ys,rfl,rfl,.of ha,.of hb,hx,hz,fun z=>q a H (.refl _) (by rw[z,List.append_nil];exact ha),fun _ p hp=>q p _ (Same.new hp) ag⟩
end
end L2
set_option maxHeartbeats 8000000
set_option maxHeartbeats 8000000
set_option maxHeartbeats 8000000
set_option maxHeartbeats 8000000
set_option maxHeartbeats 8000000
set_option maxHeartbeats 8000000
set_option maxHeartbeats 8000000
namespace L2
open PySem PySem.Spec PyProof.Rows
theorem p7 {α β:Type} {R:α→β→Prop}:∀{l:List α} {m:List β},Paired R l m→l.length=m.length
 | _,_,.nil=>rfl
 | _,_,.cons _ t=>by rw[List.length_cons,List.length_cons,p7 t]
structure vA (fs:List Addr) (e:Addr) (oe:Obj) (hd:Option Addr) (T:Addr) (h h':Heap):Prop where
 above:h.objs.size≤T
 keep:∀b o,b≠e→b ∉ fs→hd≠some b→h.get? b=some o→h'.get? b=some o
 slot:∀b o,b∈fs→b≠e→hd≠some b→h.get? b=some o→∃sl,h'.get? b=some {o with slots:=sl}
 exc:h'.get? e=some (oe.mapFields (·.setIfInBounds 1 (.ref T)))
 tb:∃oT ts x3,h'.get? T=some oT∧oT.data=.fields ts∧ts[3]? =some x3
section
variable {M:Model} {A:Around} {E:Value→Shared→Prop} {s:Shared} {base:Heap} {env env':Env} {outer:List Env} {L e:Addr} {oe:Obj} {vs:Array Value} {Q:Unit→Shared→Prop}
theorem yQ (h:env'.frame=env.frame):PySem.frameOf env'=PySem.frameOf env:=by unfold PySem.frameOf;rw[h]
theorem Df {head:Value} {had:Bool} (fr:A.frames=some (env::outer)) (ff:s.heap.FunFrames base (env::outer)) (fL:env.frame=some L) (fe:env'.frame=env.frame)
  (xe:s.heap.get? e=some oe) (xd:oe.data=.fields vs) (xs:1<vs.size) (k:∀h' T,vA (frs (env::outer)) e oe none T s.heap h'→Q () {s with heap:=h'}):
  wpAny M A (do
   let a ←frameOf env'
   let pl ←entryPlaceOf L had
   let b ←EntryCells.newEntry head a .none (rawInt L) .none pl
   setField (.ref e) 1 b) Q E s:=by
 have Ma:e ∉ frs (env::outer):=fun z=>by
  obtain⟨_,o,ho,nf⟩:=ff.mem z
  rw[xe] at ho
  cases ho
  exact nf vs xd
 rw[yQ fe]
 refine wpAny_bind (wpAny_frameOf_fun fr ff fL fun g so=>?_)
 refine wpAny_bind (wpAny_entryPlaceOf fun pl ip=>?_)
 unfold EntryCells.newEntry newFields
 refine wpAny_bind (wpAny_newObj_type ?_ (ip.sizeOk5 _ _ _ _ _))
 have ge:g.get? e=some oe:=(so.2.1 e Ma).trans xe
 generalize hN:([head,Value.ref L,.none,rawInt L,.none]++(if pl.isEmpty then List.replicate 6 Value.none else pl)).toArray=ar
 have a3:ar[3]? =some (rawInt L):=by rw[←hN];simp
 have g2:=Heap.get?_push_of_some (h:=g) {cls:=.type "traceback",dict:=none,data:=.fields ar} ge
 refine wpAny_setField g2 xd xs ?_
 have wJ:g.objs.size≠e:=Nat.ne_of_gt (Heap.lt_size ge)
 have d3:=Obj.data_mapFields xd (·.setIfInBounds 1 (Value.ref g.objs.size))
 have g3:=Heap.get?_update_self (Obj.mapFields (·.setIfInBounds 1 (Value.ref g.objs.size))) g2 (Obj.isFreed_of_fields d3)
 have t3:=(Heap.get?_update_other (g.push {cls:=.type "traceback",dict:=none,data:=.fields ar}) (Obj.mapFields (·.setIfInBounds 1 (Value.ref g.objs.size))) (Ne.symm wJ)).trans (Heap.get?_push_size g rfl)
 have keep:∀b o,b≠e→g.get? b=some o→((g.push {cls:=.type "traceback",dict:=none,data:=.fields ar}).update e (Obj.mapFields (·.setIfInBounds 1 (Value.ref g.objs.size)))).get? b=some o:=fun b o ne hb=>by
  rw[Heap.get?_update_other _ _ (Ne.symm ne)]
  exact Heap.get?_push_of_some _ hb
 refine k _ g.objs.size ⟨Nat.le_of_eq so.1.symm,fun b o ne nf _ hb=>keep b o ne ((so.2.1 b nf).trans hb),fun b o _ ne _ hb=>?_,g3,_,_,_,t3,rfl,a3⟩
 obtain⟨sl,q⟩:=so.2.2 b o hb
 exact⟨sl,keep b _ ne q⟩
theorem E9 {T₀:Addr} {oT:Obj} {ts:Array Value} {x3:Value} (fr:A.frames=some (env::outer)) (ff:s.heap.FunFrames base (env::outer)) (fL:env.frame=some L) (fe:env'.frame=env.frame) (xe:s.heap.get? e=some oe) (xd:oe.data=.fields vs) (x1:vs[1]? =some (.ref T₀))
  (wJ:T₀≠e) (xt:s.heap.get? T₀=some oT) (td:oT.data=.fields ts) (t3:ts[3]? =some x3) (k0:Q () s)
  (k:∀h' T,vA (frs (env::outer)) e oe (some T₀) T s.heap h'→Q () {s with heap:=h'}):wpAny M A (noteFrame (.ref e) env') Q E s:=by
 unfold noteFrame
 rw[fe]
 simp only[fL]
 refine wpAny_bind (wpAny_field xe xd x1 ?_)
 rw[if_pos (by simp)]
 refine wpAny_bind (wpAny_field xt td t3 ?_)
 by_cases c:(x3 == rawInt L)=true
 ·rw[if_pos c]
  exact wpAny_pure k0
 rw[if_neg c]
 refine wpAny_bind (wpAny_setField xt td (Array.getElem?_eq_some_iff.mp t3).1 ?_)
 have oth:∀b,b≠T₀→(s.heap.update T₀ (Obj.mapFields (·.setIfInBounds 3 Value.none))).get? b=s.heap.get? b:=fun b nb=>Heap.get?_update_other _ _ (Ne.symm nb)
 have Hf:∀b o,s.heap.get? b=some o→(∀ws,o.data≠.fields ws)→b≠T₀:=fun b o hb nf z=>by
  rw[z,xt] at hb
  cases hb
  exact nf ts td
 refine Df (s:={s with heap:=s.heap.update T₀ (Obj.mapFields (·.setIfInBounds 3 Value.none))}) fr (ff.of_keeps fun b o hb nf=>⟨o,(oth b (Hf b o hb nf)).trans hb,rfl⟩) fL fe ((oth e (Ne.symm wJ)).trans xe) xd (Array.getElem?_eq_some_iff.mp x1).1 fun h' T p=>?_
 refine k h' T ⟨?_,fun b o ne nf nt hb=>p.keep b o ne nf (by simp) ((oth b fun z=>nt (by rw[z])).trans hb),fun b o hf ne nt hb=>p.slot b o hf ne (by simp) ((oth b fun z=>nt (by rw[z])).trans hb),p.exc,p.tb⟩
 have:=p.above
 simpa[Heap.update] using this
end
def kX (Fr:Addr→Prop) (a:Addr) (H:Hp) (h:Heap):Prop:=∃o vs T oT ts x3,h.get? a=some o∧o.data=.fields vs∧vs[1]? =some (.ref T)∧T≠a∧Fr T∧H T=none∧h.get? T=some oT∧oT.data=.fields ts∧ts[3]? =some x3
def Free (X:Cx) (pins:List (Addr×Obj)) (T:Addr):Prop:=X.s₀.heap.objs.size≤T∧T≠X.env.locals∧(∀x c,X.env.cells.lookup x=some c→c≠T)∧∀p∈X.pn++pins,p.1≠T
theorem oi.two {n:Nat} {a:Addr} {H:Hp} {h:Heap} {Fr:Addr→Prop} (x:oi n a H h) (k:∀T,n≤T→Fr T):kX Fr a H h:=by
 obtain⟨o,vs,T,oT,ts,e1,e2,e3,e4,e5,e6,e7,e8,e9⟩:=x
 exact⟨o,vs,T,oT,ts,_,e1,e2,e3,e4,k T e5,e6,e7,e8,e9⟩
theorem kX.mono {a:Addr} {H:Hp} {h:Heap} {Fr Fr':Addr→Prop} (x:kX Fr a H h) (k:∀T,Fr T→Fr' T):kX Fr' a H h:=by
 obtain⟨o,vs,T,oT,ts,x3,e1,e2,e3,e4,e5,r⟩:=x
 exact⟨o,vs,T,oT,ts,x3,e1,e2,e3,e4,k T e5,r⟩
section
variable {X:Cx} {pins:List (Addr×Obj)} {σ:St} {H:Hp} {s:Shared} {h':Heap} {a C T:Addr} {dx:Option Addr} {f:Bool} {oe:Obj} {hd:Option Addr} {Fr:Addr→Prop}
theorem Inv.KP (I:Inv X pins σ H s) (p:vA (frs X.stack) a oe hd T s.heap h') (Ha:H a=some (xo f a C dx)) (ho:s.heap.get? a=some oe) (hn:∀b,hd=some b→H b=none)
  (hT:∀b,hd=some b→X.s₀.heap.objs.size≤b∧b≠X.env.locals∧(∀x c,X.env.cells.lookup x=some c→c≠b)∧∀q∈X.pn++pins,q.1≠b):
  Inv X pins σ (upd H a (xo false a C dx)) {s with heap:=h'}∧mF false a C dx h':=by
 obtain⟨o1,vs,e1,c1,d1,f1,z1,_⟩:=I.tL Ha
 obtain rfl:oe=o1:=Option.some.inj (ho.symm.trans e1)
 have new:mF false a C dx h':=⟨_,_,p.exc,by rw[Obj.cls_mapFields];exact c1,by rw[←d1];cases oe;rename_i dd sl;cases dd<;>rfl,Obj.data_mapFields f1 _,by simpa using z1,fun z=>by cases z⟩
 have nA:∀b,H b=none→b≠a:=fun b n z=>by rw[z,Ha] at n;cases n
 have nF:∀b u,H b=some u→b ∉ frs X.stack:=fun b u e z=>by rw[I.sF b z] at e;cases e
 have nD:∀b u,H b=some u→hd≠some b:=fun b u e z=>by rw[hn b z] at e;cases e
 have kT:∀b u o,H b=some u→b≠a→s.heap.get? b=some o→h'.get? b=some o:=fun b u o e ne q=>p.keep b o ne (nF b u e) (nD b u e) q
 have ch:∀b,b ∉ hd.toList→hd≠some b:=fun b nb z=>nb (by rw[z];simp)
 refine⟨?_,new⟩
 have fr:∀b,b≠a→(upd H a (xo false a C dx)) b=H b:=fun b ne=>bz ne
 refine I.step (g':=s.gens) (d':=s.drawn) (t':=s.toks) (ch:=hd.toList) (fun b hb=>?_) (fun b o nl nf nc e n=>?_) (fun b o nl hf nc e n=>?_) (fun b o nc e n=>?_) (fun b o nc e=>?_) (fun b xs e=>?_) (fun b o u e=>?_) (fun b ps e=>?_) (fun m hm=>?_) ?_ I.bare
 ·have e:hd=some b:=by
   cases hd with
   | none=>simp at hb
   | some y=>simp at hb;rw[hb]
  exact⟨.inr (hT b e).1,(hT b e).2.1,(hT b e).2.2.1,(hT b e).2.2.2⟩
 ·exact p.keep b o (nA b n) (fun z=>(List.mem_cons.mp (I.oZ b z)).elim nl nf) (ch b nc) e
 ·by_cases z:b∈frs X.stack
  ·exact p.slot b o z (nA b n) (ch b nc) e
  ·exact⟨o.slots,p.keep b o (nA b n) z (ch b nc) e⟩
 ·rw[fr b (nA b n)];exact n
 ·by_cases ne:b=a
  ·subst ne;exact⟨_,p.exc⟩
  ·by_cases z:b∈frs X.stack
   ·obtain⟨sl,q⟩:=p.slot b o z ne (ch b nc) e
    exact⟨_,q⟩
   ·exact⟨o,p.keep b o ne z (ch b nc) e⟩
 ·rw[fr b fun z=>by rw[z,Ha] at e;cases e];exact e
 ·rw[fr b fun z=>by rw[z,Ha] at e;cases e];exact e
 ·have ne:b≠a:=fun z=>by rw[z,Ha] at e;cases e
  exact⟨#[],by rw[fr b ne,e];simp⟩
 ·obtain⟨o,es,ep,q,r⟩:=hm
  have nl:=nA _ I.free
  have nd:hd≠some X.env.locals:=fun z=>(hT _ z).2.1 rfl
  by_cases z:X.env.locals∈frs X.stack
  ·obtain⟨sl,q'⟩:=p.slot _ o z nl nd q
   exact⟨_,es,ep,q',r⟩
  ·exact⟨o,es,ep,p.keep _ o nl z nd q,r⟩
 ·intro b u e
  by_cases ne:b=a
  ·subst ne
   rw[ag] at e
   cases e
   exact xX new
  ·rw[fr b ne] at e
   refine(I.hok b u e).stay (fun c v hc q=>?_) (fun c q=>?_) fun c xs q=>?_
   ·rcases hc with z | z
    ·subst z;exact kT _ u v e ne q
    ·exact kT c _ v z (fun y=>by rw[y,Ha] at z;cases z) q
   ·rw[fr c fun y=>by rw[y,Ha] at q;cases q];exact q
   ·rw[fr c fun y=>by rw[y,Ha] at q;cases q];exact q
theorem uN {M:Model} {A:Around} {E:Value→Shared→Prop} {Q:Unit→Shared→Prop} {env':Env} (I:Inv X pins σ H s) (hA:A.frames=X.A.frames) (hh:Head X) (Ha:H a=some (xo false a C dx)) (fl:kX Fr a H s.heap) (fe:env'.frame=X.env.frame)
  (hF:∀T,Fr T→Free X pins T) (hN:∀T,s.heap.objs.size≤T→Fr T)
  (k:∀h',Inv X pins σ H {s with heap:=h'}→kX Fr a H h'→(∀b o,s.heap.get? b=some o→b≠a→b ∉ frs X.stack→¬Fr b→h'.get? b=some o)→Q () {s with heap:=h'}):wpAny M A (noteFrame (.ref a) env') Q E s:=by
 obtain⟨o1,vs,e1,c1,d1,f1,z1,Mb⟩:=I.tL Ha
 have frm:A.frames=some (X.env::X.outer):=by rw[hA,I.ok.frames,hh.1]
 have Jm:s.heap.FunFrames X.base (X.env::X.outer):=by rw[←hh.1];exact I.stack
 obtain⟨o,vs',T₀,oT,ts,x3,q1,q2,q3,q4,q5,q6,q7,q8,q9⟩:=id fl
 rw[e1] at q1
 cases q1
 rw[f1] at q2
 cases q2
 refine E9 frm Jm hh.2 fe e1 f1 q3 q4 q7 q8 q9 (k s.heap I fl fun b o e _ _ _=>e) fun h' T p=>?_
 rw[←hh.1] at p
 obtain⟨I',_⟩:=I.KP p Ha e1 (fun b z=>by cases z;exact q6) fun b z=>by cases z;exact hF _ q5
 rw[p6 Ha] at I'
 have ne:T≠a:=fun z=>absurd (Nat.lt_of_lt_of_le (z▸Heap.lt_size e1) p.above) (Nat.lt_irrefl _)
 obtain⟨oT',ts',x',t1,t2,t3⟩:=p.tb
 refine k h' I' ⟨_,_,T,oT',ts',x',p.exc,Obj.data_mapFields f1 _,by simp[z1],ne,hN T p.above,I.hok.fresh p.above,t1,t2,t3⟩ fun b o e nb nf nr=>?_
 exact p.keep b o nb nf (fun z=>nr (by cases z;exact q5)) e
theorem Dg {M:Model} {A:Around} {E:Value→Shared→Prop} {Q:Unit→Shared→Prop} {fo:Option Addr} (I:Inv X pins σ H s) (Ha:H a=some (xo false a C dx)) (fl:kX Fr a H s.heap) (hF:∀T,Fr T→Free X pins T)
  (k:∀h',Inv X pins σ H {s with heap:=h'}→kX Fr a H h'→Q () {s with heap:=h'}):wpAny M A (setFlight (.ref a) fo) Q E s:=by
 obtain⟨o,vs,T,oT,ts,x3,q1,q2,q3,q4,q5,q6,q7,q8,q9⟩:=fl
 have sz:3<ts.size:=(Array.getElem?_eq_some_iff.mp q9).1
 unfold setFlight
 refine wpAny_bind (wpAny_field q1 q2 q3 ?_)
 rw[if_pos (by simp)]
 refine wpAny_setField q7 q8 sz ?_
 have oth:∀b,b≠T→(s.heap.update T (Obj.mapFields (·.setIfInBounds 3 (fo.elim Value.none fun f=>rawInt f)))).get? b=s.heap.get? b:=fun b nb=>Heap.get?_update_other _ _ (Ne.symm nb)
 have hT:=hF T q5
 refine k _ (I.turned (it:=T) (t':=s.toks) (fun b o ne e=>(oth b ne).trans e) q6 hT.2.1 (.inr hT.1) hT.2.2.1 hT.2.2.2) ?_
 exact⟨o,vs,T,_,_,_,(oth a (Ne.symm q4)).trans q1,q2,q3,q4,q5,q6,Heap.get?_update_self _ q7 (Obj.isFreed_of_fields (Obj.data_mapFields q8 _)),Obj.data_mapFields q8 _,by simp[sz];rfl⟩
theorem AH {M:Model} {A:Around} {E:Value→Shared→Prop} {Q:Unit→Shared→Prop} {n:Nat} (I:Inv X pins σ H s) (Ha:H a=some (xo false a C dx)) (fl:kX Fr a H s.heap) (hF:∀T,Fr T→Free X pins T) (hn:∀T,Fr T→n≤T)
  (k:∀h',Inv X pins σ H {s with heap:=h'}→oi n a H h'→Q () {s with heap:=h'}):wpAny M A (setFlight (.ref a) none) Q E s:=by
 obtain⟨o,vs,T,oT,ts,x3,q1,q2,q3,q4,q5,q6,q7,q8,q9⟩:=fl
 have sz:3<ts.size:=(Array.getElem?_eq_some_iff.mp q9).1
 unfold setFlight
 refine wpAny_bind (wpAny_field q1 q2 q3 ?_)
 rw[if_pos (by simp)]
 refine wpAny_setField q7 q8 sz ?_
 have oth:∀b,b≠T→(s.heap.update T (Obj.mapFields (·.setIfInBounds 3 ((none:Option Addr).elim Value.none fun f=>rawInt f)))).get? b=s.heap.get? b:=fun b nb=>Heap.get?_update_other _ _ (Ne.symm nb)
 have hT:=hF T q5
 refine k _ (I.turned (it:=T) (t':=s.toks) (fun b o ne e=>(oth b ne).trans e) q6 hT.2.1 (.inr hT.1) hT.2.2.1 hT.2.2.2) ?_
 exact⟨o,vs,T,_,_,(oth a (Ne.symm q4)).trans q1,q2,q3,q4,hn T q5,q6,Heap.get?_update_self _ q7 (Obj.isFreed_of_fields (Obj.data_mapFields q8 _)),Obj.data_mapFields q8 _,by simp[sz]⟩
end
def Leaves (X:Cx) (E:XK):Prop:=∀(pins:List (Addr×Obj)) (σ:St) (H:Hp) (s:Shared) (a C:Addr) (dx:Option Addr),Inv X pins σ H s→H a=some (xo false a C dx)→kX (Free X pins) a H s.heap→E (.ref a) dx H→X.xe (.ref a) s
theorem Fb {P:Program} {w:World} {K:PySem.W.Frag} {mg:Str→Option Value} {base:Heap} {N:List Str} {qual:Str} {scope:Scope} {fa:Addr} {cd:Value} {A:Around} {outer:List Env} {s₀:Shared} {H₀:Hp} {E:XK}:Leaves (iA (b_ P w) P w K mg base N qual scope fa cd A outer s₀ H₀ E) E:=by
 intro pins σ H s a C dx I Ha fl hE
 show wpAny _ _ (leaving _ _) _ _ s
 unfold leaving
 refine wpAny_bind (uN (Fr:=Free _ pins) I rfl ⟨rfl,rfl⟩ Ha fl rfl (fun _ h=>h) (fun T hT=>I.beyond hT) fun h1 I1 ZU _=>?_)
 refine AH (n:=s₀.heap.objs.size) I1 Ha ZU (fun _ h=>h) (fun T h=>h.1) fun h2 I2 Ms=>?_
 exact⟨a,C,dx,H,rfl,I2.os,I2.bare,I2.base,I2.hok,Ha,Ms,hE⟩
def wN (X:Cx) (C:Addr):Value→Shared→Prop:=fun x s'=>∃m,s'.heap.Ns C m∧∀h',Heap.SameBut C s'.heap h'→∀cenv:Env,cenv.locals=C→wpAny (model X.prog X.w) X.A (passOn "comprehension.variables-let-go" x cenv:Sem Value) (fun _ _=>False) X.xe {s' with heap:=h'}
abbrev fu (X:Cx) (own bX:List Str) (scope:Scope) (C:Addr) (s₃:Shared) (H₃:Hp) (fp:List Addr) (xe:Value→Shared→Prop):Cx:=(gw X own bX scope C s₃ H₃ fp).wish xe
section
variable {X:Cx} {scope:Scope} {own bX:List Str} {cS:List Nat} {elt tg iter:Expr} {ifs:List Expr} {pos:Pos} {g:TG} {tt:TT} {te:TE}
theorem AI {pins:List (Addr×Obj)} {σ:St} {H₃:Hp} {s₃:Shared} {fp:List Addr} {EX:XK} (I3:Inv X pins σ H₃ s₃) (my:∀b∈fp,iO X pins H₃ b) (hh:Head X) (lv:Leaves X EX):
  Passes (b_ X.prog X.w) (fu X own bX scope s₃.heap.objs.size s₃ H₃ fp (notedBy (model X.prog X.w) X.A (compEnvC scope (eE X.env scope.names []) s₃.heap.objs.size X.env) (wN X s₃.heap.objs.size))) EX:=by
 intro CG σ' H s e s' I' c
 obtain⟨a,C,dx,H',rfl,I2,Ha,fl,hE⟩:=b_.after I' c
 have J:Inv X pins σ H' s':=I3.call' (ch:=fp) I2.os I2.base I2.hok I2.bare fun b hb=>by
  obtain⟨f0,f1,f2,f3,f4,f5⟩:=my b hb
  exact⟨f3,f1,f4,f5⟩
 have Js:Inv X pins σ H s:=I3.call' (ch:=fp) I'.os I'.base I'.hok I'.bare fun b hb=>by
  obtain⟨f0,f1,f2,f3,f4,f5⟩:=my b hb
  exact⟨f3,f1,f4,f5⟩
 obtain⟨m,hn,_⟩:=I2.loc
 have Rh:H' s₃.heap.objs.size=none:=I2.free
 obtain⟨g0,g1,g2,g3,g4,g5⟩:=I3.oR (H':=H') (Nat.le_refl _) Rh
 have ZV:s₃.heap.objs.size<s.heap.objs.size:=I'.lt
 have Te:s₃.heap.objs.size<s'.heap.objs.size:=I2.lt
 have Tf:s₃.heap.objs.size ∉ frs X.stack:=fun z=>by
  rcases List.mem_cons.mp (I3.oZ _ z) with q | q
  ·exact g1 q
  ·exact g2 q
 let Fr:Addr→Prop:=fun T=>Free X pins T∧T≠s₃.heap.objs.size
 have hN:∀T,s'.heap.objs.size≤T→Fr T:=fun T hT=>⟨J.beyond hT,fun z=>by rw[z] at hT;exact absurd (Nat.lt_of_lt_of_le Te hT) (Nat.lt_irrefl _)⟩
 have Ms:kX Fr a H' s'.heap:=fl.two fun T hT=>⟨Js.beyond hT,fun z=>by rw[z] at hT;exact absurd (Nat.lt_of_lt_of_le ZV hT) (Nat.lt_irrefl _)⟩
 have aC:s₃.heap.objs.size≠a:=fun z=>by rw[←z,Rh] at Ha;cases Ha
 show wpAny _ _ (noteFrame (.ref a) _) _ _ s'
 refine uN (Fr:=Fr) J rfl hh Ha Ms rfl (fun T h=>h.1) hN fun h1 J1 Ml kp=>?_
 have hn1:h1.Ns s₃.heap.objs.size m:=by
  obtain⟨o,es,ep,ho,r⟩:=hn
  exact⟨o,es,ep,kp _ o ho aC Tf fun z=>z.2 rfl,r⟩
 refine⟨m,hn1,fun h2 sb cenv _=>?_⟩
 have J2:Inv X pins σ H' {s' with heap:=h2}:=Inv.turned (s:={s' with heap:=h1}) (h':=h2) (t':=s'.toks) (it:=s₃.heap.objs.size) J1 (fun b o hb e=>(sb.2 b hb).trans e) g0 g1 g3 g4 g5
 have Mm:kX Fr a H' h2:=by
  obtain⟨o,vs,T,oT,ts,x3,q1,q2,q3,q4,q5,q6,q7,q8,q9⟩:=Ml
  exact⟨o,vs,T,oT,ts,x3,(sb.2 a (Ne.symm aC)).trans q1,q2,q3,q4,q5,q6,(sb.2 T q5.2).trans q7,q8,q9⟩
 unfold PySem.passOn
 obtain⟨o,vs,T,oT,ts,x3,q1,q2,q3,q4,q5,q6,q7,q8,q9⟩:=id Mm
 refine wpAny_bind (wpAny_field q1 q2 q3 ?_)
 rw[if_neg (by simp)]
 refine wpAny_bind (Dg (Fr:=Fr) J2 Ha Mm (fun T h=>h.1) fun h3 J3 ZW=>?_)
 exact wpAny_throw (lv pins σ H' _ a C dx J3 Ha (ZW.mono fun T h=>h.1) hE)
theorem pE {prog:Program} {w:World} {A:Around} {R:Result→Shared→Prop} {s:Shared} {scope:Scope} {it acc:Value} {env:Env} (I:Nat→Shared→Prop)
  (turn:∀n s,I n s→wpAny (model prog w) A (pyNext it) (fun r s₁=>match r with
   | none=>R (.ok .next) s₁
   | some v=>wpAny (model prog w) A (letOwnedTupleGo tg it v) (fun _ s₁'=>wpAny (model prog w) A (assign tg env v) (fun _ s₂=>
     wpAny (model prog w) A (forIn ifs true fun c r=>if r=true then do let ok ←isTrue c env (eval c env);pure (ForInStep.yield ok) else pure (ForInStep.yield r)) (fun ok s₃=>
      if ok=true then wpAny (model prog w) A (eval elt env) (fun x s₄=>
       wpAny (model prog w) A (call (.builtin "list.append") [acc,x]) (fun _ s₅=>∃m,m<n∧I m s₅) (notedBy (model prog w) A env fun x s'=>R (.error x) s') s₄) (notedBy (model prog w) A env fun x s'=>R (.error x) s') s₃
      else ∃m,m<n∧I m s₃) (notedBy (model prog w) A env fun x s'=>R (.error x) s') s₂) (notedBy (model prog w) A env fun x s'=>R (.error x) s') s₁') (notedBy (model prog w) A env fun x s'=>R (.error x) s') s₁) (notedBy (model prog w) A env fun x s'=>R (.error x) s') s)
  (n:Nat) (h:I n s):
  codeAny (model prog w) A (.compLoop (.ListComp elt [⟨tg,iter,ifs,0⟩] scope pos) 0 it acc env) R s:=by
 refine codeAny_loop rfl I (fun n s hI=>?_) n h
 show wpAny _ A ((compTurn (.ListComp elt [⟨tg,iter,ifs,0⟩] scope pos) 0 it acc env).onRaise (fun x=>do noteFrame x env;theTreesLotGoes x)) _ _ s
 refine wpAny_noted ?_
 rw[compTurn_list]
 refine wpAny_bind (wpAny_standAt (wpAny_bind (bf (turn n s hI) fun r s₁ h₁=>?_)))
 cases r with
 | none=>exact wpAny_pure h₁
 | some v=>
  refine wpAny_bind (bf h₁ fun _ s₁' h₁'=>?_)
  refine wpAny_bind (bf h₁' fun _ s₂ h₂=>wpAny_bind (bf h₂ fun ok s₃ h₃=>?_))
  cases ok with
  | false=>exact wpAny_pure ⟨rfl,h₃⟩
  | true=>
   exact wpAny_bind (wpAny_bind (bf h₃ fun x s₄ h₄=>wpAny_bind (bf h₄ fun _ s₅ h₅=>wpAny_pure (wpAny_pure ⟨rfl,h₅⟩))))
theorem AJ {pins:List (Addr×Obj)} {σ:St} {H:Hp} {s:Shared} {J:It} {fp:List Addr} {it:Addr} {tn:Nat→Heap→Prop} {R:Addr→Hp→Prop} {RR:Value→Addr→Result→Shared→Prop} {E:Value→Shared→Prop} {EX:XK}
  (sc:bO X scope own bX cS) (hc:X.calm=true)
  (hg:∀C s₃ H₃ fp xe,PG (fu X own bX scope C s₃ H₃ fp xe) tg g) (ht:∀C s₃ H₃ fp xe,pY (fu X own bX scope C s₃ H₃ fp xe) ifs tt) (he:∀C s₃ H₃ fp xe,Passes (b_ X.prog X.w) (fu X own bX scope C s₃ H₃ fp xe) EX→PE (fu X own bX scope C s₃ H₃ fp xe) elt te) (hh:Head X) (lv:Leaves X EX)
  (I:Inv X pins σ H s) (T:Turn X.prog X.w X.K tg J fp it tn) (st:tn 0 s.heap) (hfp:∀b∈fp,iO X pins H b)
  (h:∀D,H D=none→pZ J g tt te D (uE own cS σ) (upd H D (.lst [])) (R D))
  (Ri:∀D C x s',wN X C x s'→RR (.ref D) C (.error x) s') (hRR:∀D C H' s' m,Inv X pins σ H' s'→s.heap.objs.size≤C→s'.heap.Ns C m→H' C=none→R D H'→RR (.ref D) C (.ok .next) s'):
  wpAny (model X.prog X.w) X.A (newList []) (fun acc s₃=>wpAny (model X.prog X.w) X.A (newFunctionEnv scope X.env.globals (eE X.env scope.names []) [] X.env.qual none .none (some X.env)) (fun cenv s₄=>
   codeAny (model X.prog X.w) X.A (.compStart (.ListComp elt [⟨tg,iter,ifs,0⟩] scope pos) 0 (.ref it) acc {cenv with scope:=relabel scope X.env}) (RR acc cenv.locals) s₄) E s₃) E s:=by
 refine wpAny_newObj_type (wpAny_newFunctionEnv sc.cell (by intro y hy;simp at hy) (fun h₁ hns₁ hsb₁=>?_) sc.kind)
 dsimp only at hns₁ hsb₁ ⊢
 have hD:=I.fresh
 have I3:Inv X pins σ (upd H s.heap.objs.size (.lst [])) {s with heap:=s.heap.push {cls:=.type "list",dict:=none,data:=.seq ([]:List Value).toArray}}:=I.CT (its:=[]) (t':=s.toks) .nil (Nat.zero_le _)
 have hsz:(s.heap.push {cls:=.type "list",dict:=none,data:=.seq ([]:List Value).toArray}).objs.size=s.heap.objs.size+1:=Heap.size_push ..
 generalize hs3:({s with heap:=s.heap.push {cls:=.type "list",dict:=none,data:=.seq ([]:List Value).toArray}}:Shared)=s₃ at I3
 have hh3:s.heap.push {cls:=.type "list",dict:=none,data:=.seq ([]:List Value).toArray}=s₃.heap:=by rw[←hs3]
 rw[hh3] at hns₁ hsb₁ hsz ⊢
 have hfl:∀b∈fp,b<s.heap.objs.size:=fun b hb=>by
  obtain⟨o,e,_⟩:=T.obj 0 _ st b hb
  exact Heap.lt_size e
 have my:∀b∈fp,iO X pins (upd H s.heap.objs.size (.lst [])) b:=fun b hb=>by
  obtain⟨f0,f⟩:=hfp b hb
  exact⟨by rw[bz (Nat.ne_of_lt (hfl b hb))];exact f0,f⟩
 have GR:∀b∈fp,b<s₃.heap.objs.size:=fun b hb=>by rw[hsz];exact Nat.lt_succ_of_lt (hfl b hb)
 have k4:∀b o,s₃.heap.get? b=some o→h₁.get? b=some o:=fun b o e=>(hsb₁.2 b (Nat.ne_of_lt (Heap.lt_size e))).trans (Heap.get?_push_of_some _ e)
 have k3:∀b o,s.heap.get? b=some o→s₃.heap.get? b=some o:=fun b o e=>by rw[←hh3];exact Heap.get?_push_of_some _ e
 have hnone:(fun x:Str=>List.lookup x ([]:List (Str×Value)).reverse)=fun _=>none:=by funext x;rfl
 have C0:h₁.Ns s₃.heap.objs.size fun _=>none:=by
  have q:=hns₁
  first
   | exact q
   | (rw[hnone] at q;exact q)
 have I4:=I3.block (own:=own) (tk:=s.toks+([]:List (Str×Value)).length) sc my GR k4 C0
 have yA:tn 0 h₁:=T.keep _ _ _ st fun b hb o e=>k4 b o (k3 b o e)
 have I4:=I4.wish (notedBy (model X.prog X.w) X.A (compEnvC scope (eE X.env scope.names []) s₃.heap.objs.size X.env) (wN X s₃.heap.objs.size))
 have Pz:Passes (b_ X.prog X.w) (fu X own bX scope s₃.heap.objs.size s₃ (upd H s.heap.objs.size (.lst [])) fp (notedBy (model X.prog X.w) X.A (compEnvC scope (eE X.env scope.names []) s₃.heap.objs.size X.env) (wN X s₃.heap.objs.size))) EX:=AI I3 my hh lv
 change Inv (fu X own bX scope s₃.heap.objs.size s₃ (upd H s.heap.objs.size (.lst [])) fp (notedBy (model X.prog X.w) X.A (compEnvC scope (eE X.env scope.names []) s₃.heap.objs.size X.env) (wN X s₃.heap.objs.size))) [] _ _ _ at I4
 generalize hX:fu X own bX scope s₃.heap.objs.size s₃ (upd H s.heap.objs.size (.lst [])) fp (notedBy (model X.prog X.w) X.A (compEnvC scope (eE X.env scope.names []) s₃.heap.objs.size X.env) (wN X s₃.heap.objs.size))=X' at I4 Pz
 have BQ:X'.prog=X.prog:=by rw[←hX];rfl
 have BR:X'.w=X.w:=by rw[←hX];rfl
 have LL:X'.K=X.K:=by rw[←hX];rfl
 have Jg:X'.A=X.A:=by rw[←hX];rfl
 have EK:X'.calm=true:=by rw[←hX];exact hc
 have LM:X'.xe=notedBy (model X.prog X.w) X.A (compEnvC scope (eE X.env scope.names []) s₃.heap.objs.size X.env) (wN X s₃.heap.objs.size):=by rw[←hX]
 have Jh:X'.env=compEnvC scope (eE X.env scope.names []) s₃.heap.objs.size X.env:=by rw[←hX];rfl
 have hg':PG X' tg g:=by rw[←hX];exact hg _ _ _ _ _
 have ht':pY X' ifs tt:=by rw[←hX];exact ht _ _ _ _ _
 have he':PE X' elt te:=by subst hX;exact he _ _ _ _ _ Pz
 have LN:∀{H':Hp} {s':Shared} {σ':St},Inv X' [] σ' H' s'→Inv X pins σ H' s'∧(∃m,s'.heap.Ns s₃.heap.objs.size m)∧H' s₃.heap.objs.size=none:=by
  intro H' s' σ' I'
  subst hX
  refine⟨I3.call' (ch:=fp) I'.os I'.base I'.hok I'.bare fun b hb=>?_,let ⟨m,hn,_⟩:=I'.loc;⟨m,hn⟩,I'.free⟩
  obtain⟨f0,f1,f2,f3,f4,f5⟩:=my b hb
  exact⟨f3,f1,f4,f5⟩
 have stat:∀{H':Hp},(∀b∈fp,H' b=none)→∀b∈fp,iO X' [] H' b:=by
  intro H' hn b hb
  subst hX
  obtain⟨a1,a2⟩:=I4.ok.Ee b hb
  exact⟨hn b hb,a1,I4.ok.tS b hb,.inl hb,a2,fun p hp=>by cases hp⟩
 obtain⟨W,⟨m0,w0⟩,turn⟩:=h s.heap.objs.size hD
 have loop:codeAny (model X.prog X.w) X.A (.compLoop (.ListComp elt [⟨tg,iter,ifs,0⟩] scope pos) 0 (.ref it) (.ref s.heap.objs.size) X'.env) (RR (.ref s.heap.objs.size) s₃.heap.objs.size)
   {s₃ with heap:=h₁,toks:=s.toks+([]:List (Str×Value)).length}:=by
  refine pE (fun n s'=>∃i σ' H',Inv X' [] σ' H' s'∧tn i s'.heap∧(∀b∈fp,H' b=none)∧W i n σ' H') ?_ m0 ⟨0,_,_,I4,yA,fun b hb=>(my b hb).1,w0⟩
  rintro n s5 ⟨i,σ5,H5,I5,uy,wa,w5⟩
  rw[←BQ,←BR,←Jg]
  have hnb:∀x s',notedBy (model X.prog X.w) X.A (compEnvC scope (eE X.env scope.names []) s₃.heap.objs.size X.env) (wN X s₃.heap.objs.size) x s'→notedBy (model X'.prog X'.w) X'.A X'.env (fun x s'=>RR (.ref s.heap.objs.size) s₃.heap.objs.size (.error x) s') x s':=fun x s' h=>by
   rw[BQ,BR,Jg,Jh]
   exact wpAny_mono h (fun _ s'' q=>Ri _ _ x s'' q) fun y s'' q=>Ri _ _ y s'' q
  have uG:∀{α:Type} {t:Sem α} {Q:α→Shared→Prop} {s9:Shared},wpAny (model X'.prog X'.w) X'.A t Q X'.xe s9→wpAny (model X'.prog X'.w) X'.A t Q (notedBy (model X'.prog X'.w) X'.A X'.env (fun x s'=>RR (.ref s.heap.objs.size) s₃.heap.objs.size (.error x) s')) s9:=fun h=>by rw[LM] at h;exact wpAny_mono h (fun _ _ q=>q) hnb
  have T':Turn X'.prog X'.w X'.K tg J fp it tn:=by rw[BQ,BR,LL];exact T
  rcases turn i n σ5 H5 w5 with⟨stop,q⟩ | ⟨go,N,hN,step⟩
  ·refine bf (T'.done X' rfl rfl rfl EK i [] s5 σ5 H5 _ I5 (stat wa) uy stop) fun r s6 ⟨hr,I6⟩=>?_
   subst hr
   obtain⟨J1,⟨m,J2⟩,J3⟩:=LN I6
   exact hRR _ _ H5 s6 m J1 (by rw[hsz];exact Nat.le_succ _) J2 J3 q
  ·refine bf (T'.item X' rfl rfl rfl EK i [] s5 σ5 H5 _ I5 (stat wa) uy go) fun r s6 ⟨u,hr,h6⟩=>?_
   subst hr
   refine bf h6 fun _ s7 ⟨x,H7,I7,r7,y7,yB,Ji⟩=>?_
   have LO:=I7.pinned (stat Ji) (T'.obj _ _ yB)
   have again:∀{s9:Shared} {σ9:St} {H9:Hp},Inv X' ([]++o6 fp s7.heap) σ9 H9 s9→N σ9 H9→∃m,m<n∧∃i σ' H',Inv X' [] σ' H' s9∧tn i s9.heap∧(∀b∈fp,H' b=none)∧W i m σ' H':=fun {s9 σ9 H9} I9 n9=>by
    obtain⟨m',hm,w9⟩:=hN σ9 H9 n9
    refine⟨m',hm,i+1,σ9,H9,I9.mq,T'.keep _ _ _ yB fun b hb o e=>(I9.pin (b,o) (List.mem_append_right _ (List.mem_append_right _ (h_ hb e)))).1,fun b hb=>?_,w9⟩
    obtain⟨o,e,d⟩:=T'.obj _ _ yB b hb
    exact(I9.pin (b,o) (List.mem_append_right _ (List.mem_append_right _ (h_ hb e)))).2.1
   refine bf (uG (hg' _ s7 σ5 H7 x u _ LO r7 (step x H7 y7))) fun _ s8 ⟨σ8,H8,I8,q8⟩=>?_
   refine bf (uG (ht' _ s8 σ8 H8 _ I8 q8)) fun b s9 ⟨H9,I9,q9⟩=>?_
   cases b with
   | false=>exact again I9 (by simpa using q9)
   | true=>
    rw[if_pos rfl] at q9
    refine bf (uG (he' _ s9 σ8 H9 _ I9 q9)) fun y tF ⟨v,BS,LP,r10,dF⟩=>?_
    obtain⟨ys,e10,z10,n10⟩:=dF
    refine bf (uG (dg _ tF σ8 BS (.ref s.heap.objs.size) [v] (.ref s.heap.objs.size) [y] (fun _ H'=>H'=upd BS s.heap.objs.size (.lst (ys++[v]))) LP rfl (.cons r10 .nil) ⟨_,ys,v,rfl,rfl,e10,z10,rfl⟩)) fun u yC ⟨v',Q_,LQ,_,BU⟩=>?_
    subst BU
    exact again LQ n10
 rw[Jh] at loop
 have e4:({s with heap:=h₁,toks:=s.toks+([]:List (Str×Value)).length}:Shared)={s₃ with heap:=h₁,toks:=s.toks+([]:List (Str×Value)).length}:=by rw[←hs3]
 rw[e4]
 exact codeAny_compStart_list loop (T.self _ 0 _ _ _ yA loop)
theorem AK {EX:XK} {wi:TI} {i:Nat} {y:Str} {py spos:Pos} (sc:bO X scope own bX cS) (hc:X.calm=true) (hh:Head X) (lv:Leaves X EX) (hi:PI X tg iter wi)
  (hg:∀C s₃ H₃ fp xe,PG (fu X own bX scope C s₃ H₃ fp xe) tg g) (ht:∀C s₃ H₃ fp xe,pY (fu X own bX scope C s₃ H₃ fp xe) ifs tt) (he:∀C s₃ H₃ fp xe,Passes (b_ X.prog X.w) (fu X own bX scope C s₃ H₃ fp xe) EX→PE (fu X own bX scope C s₃ H₃ fp xe) elt te)
  (hN:X.N.Nodup) (hi':X.N[i]? =some y) (hx:X.env.scope.names.lookup y=some .local)
  (hsw:swapsWith (.ListComp elt [⟨tg,iter,ifs,0⟩] scope pos) (some (.Name y py)) spos.line X.env=pure true:=by rfl)
  (hs:∀x,foldedSetIterable iter X.env x=pure x:=by intro _;rfl):PS X (.Assign [.Name y py] (.ListComp elt [⟨tg,iter,ifs,0⟩] scope pos) spos) (pU (C1 own cS wi g tt te) (c_ i)):=by
 intro pins s σ H D I h
 rw[exec_Assign_Name_used _ _ _ _ hsw]
 refine wpAny_bind (wpAny_standAt (wpAny_bind ?_))
 show wpAny _ X.A (do let _ ←comprehension (.ListComp elt [⟨tg,iter,ifs,0⟩] scope pos) scope X.env _ (newList []) false (eval iter X.env) (some (assign (.Name y py) X.env))) _ _ s
 refine wpAny_bind (wpAny_mono (wpAny_comprehension_free (use:=some (assign (.Name y py) X.env)) (Q:=fun _ s'=>SP X pins D .next s') rfl hs (jg (sc.cells I.ok)) sc.kind sc.names
  (bf (hi pins s σ H _ I h) fun v s1 h1=>bf h1 fun itv s2 h2=>?_)) (fun _ s' hq=>wpAny_pure (wpAny_pure hq)) fun _ _ e=>e)
 obtain⟨it,fp,tn,J,H2,e,I2,T,st2,f2,q⟩:=h2
 subst e
 refine AJ (RR:=fun acc C=>compPost (model X.prog X.w) X.A X.xe (some (assign (.Name y py) X.env)) (fun _ s'=>SP X pins D .next s') acc C) (R:=fun E H'=>D.nx (σ.set i (some (.ref E))) H') (EX:=EX) sc hc hg ht he hh lv I2 T st2 f2 q (fun D C x s' hx=>hx) ?_
 intro E C H' s' m I' hC hn hf hq
 show wpAny _ X.A (assign (.Name y py) X.env (.ref E)) _ _ _
 obtain⟨f0,f1,f2,f3,f4,f5⟩:=I2.oR (H':=H') hC hf
 refine wpAny_assign_Name (qP I' hN hi' (.inl hx) (v:=.ref E) (u:=.ref E) rfl (fun s3 I3 ⟨a,sb,ha⟩=>?_) (.inr hx))
 have LR:C≠a:=by
  rcases ha with z | z
  ·rw[z];exact f1
  ·exact(f4 y a z).symm
 refine⟨m,hn.sameBut sb LR,fun h' LS=>?_⟩
 exact⟨_,H',I3.turned (t':=s3.toks) (it:=C) (fun b o hb e=>(LS.2 b hb).trans e) f0 f1 f3 f4 f5,hq⟩
end
section
variable {X:Cx}
theorem qZ:∀l:List (Str×Tok),Vals ((l.map (·.1)).map V.str) (strValues l)
 | []=>.nil
 | (x,t)::l=>.cons ⟨t,rfl⟩ (qZ l)
def Mt:V→List V→Hp→VK→Prop:=fun x vs H Q=>∃z y:Str,x=.str z∧vs=[.str y]∧z.length≤1000000∧1≤y.length∧∀p,H p=none→Q (.ref p) (upd H p (.lst ((Txt.split z y).map V.str)))
theorem Hl:yr X "str.split" Mt:=by
 intro pins s σ H x vs v us Q I rx rv h
 obtain⟨z,y,rfl,rfl,hz,hy1,q⟩:=h
 obtain⟨t,rfl⟩:=rx
 obtain⟨u,rfl,ru⟩:=rv.one
 obtain⟨t2,rfl⟩:=ru
 have hy:(y.length == 0)=false:=by rw[beq_eq_false_iff_ne];omega
 have ho:=StrLaws.occ_length_le z y 0 z.length (z.length+1)
 have hn:(Builtin.Str.partsBetween z (Builtin.Str.occurrences z y 0 z.length (z.length+1)) y.length).length≤sizeLine:=by
  rw[len_partsBetween,sizeLine_eq];omega
 have hx:z.length≤sizeLine:=by rw[sizeLine_eq];omega
 have fin:∀(l:List (Str×Tok)) (tk:Nat),l.map (·.1)=Txt.split z y→(Txt.split z y).length≤sizeLine→EP X pins σ Q (.ref s.heap.objs.size) {s with heap:=s.heap.push {cls:=.type "list",data:=.seq (strValues l).toArray},toks:=tk}:=fun l tk e hl=>by
  refine⟨.ref s.heap.objs.size,_,I.CT (its:=strValues l) (t':=tk) (qZ l) (by rw[List.length_map,e];exact hl),rfl,?_⟩
  rw[e]
  exact q _ I.fresh
 cases h1:(decide (z.length<y.length)||decide (Builtin.Str.strKind z<Builtin.Str.strKind y))
 ·cases hf:(Builtin.Str.occurrences z y 0 z.length (z.length+1)).isEmpty
  ·have es:Txt.split z y=Builtin.Str.partsBetween z (Builtin.Str.occurrences z y 0 z.length (z.length+1)) y.length:=(if_neg (ne_true_of_eq_false h1)).trans (if_neg (ne_true_of_eq_false hf))
   refine call_meets PySem.F.slot_str_split (typeIs_str _ _ _) PySem.F.entry_str_split (PySem.F.args_str_split_2 _ _) (meets_str_split_sep z y t t2 h1 hy hf hx hn) ?_
   show EP X pins σ Q _ {s with toks:=_,heap:=s.heap.push {cls:=.type "list",data:=.seq (strsFrom s.toks (Builtin.Str.partsBetween z (Builtin.Str.occurrences z y 0 z.length (z.length+1)) y.length)).toArray}}
   rw[strsFrom_eq]
   exact fin (numbered s.toks _) _ ((numbered_texts _ _).trans es.symm) (by rw[es];exact hn)
  ·have es:Txt.split z y=[z]:=(if_neg (ne_true_of_eq_false h1)).trans (if_pos hf)
   exact call_meets PySem.F.slot_str_split (typeIs_str _ _ _) PySem.F.entry_str_split (PySem.F.args_str_split_2 _ _) (meets_str_split_not_found z y t t2 h1 hy hf) (fin [(z,t)] s.toks es.symm (by rw[es];show 1≤sizeLine;decide))
 ·have es:Txt.split z y=[z]:=if_pos h1
  exact call_meets PySem.F.slot_str_split (typeIs_str _ _ _) PySem.F.entry_str_split (PySem.F.args_str_split_2 _ _) (meets_str_split_cannot_occur z y t t2 h1) (fin [(z,t)] s.toks es.symm (by rw[es];show 1≤sizeLine;decide))
theorem q_:fO X (.type "int") (fun xs H Q=>∃(z:Str) (n:Int),xs=[.str z]∧PySem.intText? z=some n∧z.length≤640∧Q (.int n) H):=by
 intro pins s σ H xs us Q I r h
 obtain⟨z,n,rfl,hn,hl,q⟩:=h
 obtain⟨u,rfl,t,rfl⟩:=vals1 r
 exact PySem.W.KIN.call_text hn hl ⟨.int n,H,I.tok _,⟨_,rfl⟩,q⟩
abbrev TJ:=St→Hp→Str→VK→Prop
def PJ (X:Cx) (es:List Expr) (t:TJ):Prop:=
 ∀(pins:List (Addr×Obj)) (s:Shared) (σ:St) (H:Hp) (out:Str) (Q:VK),Inv X pins σ H s→t σ H out Q→wpAny (model X.prog X.w) X.A (joinParts out (evalEach es X.env)) (EP X pins σ Q) X.xe s
def Tg:TJ:=fun _ H out Q=>out.length≤1000000∧Q (.str out) H
def Ti (a:Str) (t:TJ):TJ:=fun σ H out Q=>(out++a).length≤1000000∧t σ H (out++a) Q
def Tj (te:TE) (t:TJ):TJ:=fun σ H out Q=>te σ H fun v H1=>(∃i:Int,v=.int i∧i.natAbs.log2<1920∧(out++Str.ofString (toString i)).length≤1000000∧t σ H1 (out++Str.ofString (toString i)) Q)∨
 ∃y:Str,v=.str y∧(out++y).length≤1000000∧t σ H1 (out++y) Q
theorem yR:PJ X [] Tg:=fun _ _ _ H out Q I h=>joinParts_nil ⟨.str out,H,I.tok _,⟨_,rfl⟩,h.2⟩ (by rw[sizeLine_eq];have:=h.1;omega)
theorem uO {a:Str} {j:Nat} {p:Pos} {es:List Expr} {t:TJ} (h:PJ X es t):PJ X (.Constant (.str a) j p::es) (Ti a t):=by
 intro pins s σ H out Q I hq
 refine joinParts_cons (Calls.Constant_str ⟨by rw[sizeLine_eq];have:=hq.1;omega,?_⟩)
 exact h pins _ σ H _ Q (I.tok _) hq.2
theorem rg {e:Expr} {te:TE} {p:Pos} {es:List Expr} {t:TJ} (he:PE X e te) (h:PJ X es t):PJ X (.FormattedValue e (-1) none p::es) (Tj te t):=by
 intro pins s σ H out Q I hq
 refine joinParts_cons (FormattedValue_plain (bf (he pins s σ H _ I hq) fun u s1 ⟨v,H1,I1,rv,q⟩=>?_))
 rcases q with⟨i,rfl,hi,hl,q⟩ | ⟨y,rfl,hl,q⟩
 ·obtain⟨t,rfl⟩:=rv
  exact formatField_int_small hi ⟨by rw[sizeLine_eq];omega,h pins _ σ H1 _ Q (I1.tok _) q⟩
 ·obtain⟨t,rfl⟩:=rv
  have hy:y.length≤sizeLine:=by rw[sizeLine_eq];rw[strLen_append] at hl;omega
  exact formatField_str (fun t' tk=>⟨by rw[sizeLine_eq];omega,h pins _ σ H1 _ Q (I1.tok tk) q⟩) hy
def tJ (t:TJ):TE:=fun σ H Q=>t σ H Str.empty Q
theorem vB {a b:Expr} {es:List Expr} {t:TJ} {pos:Pos} (h:PJ X (a::b::es) t):PE X (.JoinedStr (a::b::es) pos) (tJ t):=fun pins s σ H Q I hq=>JoinedStr_many (h pins s σ H _ Q I hq)
end
theorem Hm {z:Str} {g:TG} {tt:TT} {te:TE} {D:Addr} {σ:St} {H:Hp} {R:Hp→Prop} (Pv:Nat→St→Hp→Prop) (h0:Pv 0 σ H)
  (hs:∀i c σ H,z.cps[i]? =some c→Pv i σ H→g (.str ⟨#[c]⟩) σ H fun σ2 H2=>tt σ2 H2 fun b H3=>if b=true then te σ2 H3 fun y H4=>∃ys,H4 D=some (.lst ys)∧ys.length<sizeLine∧Pv (i+1) σ2 (upd H4 D (.lst (ys++[y]))) else Pv (i+1) σ2 H3)
  (hd:∀σ H,Pv z.cps.size σ H→R H):pZ (Its z) g tt te D σ H R:=by
 refine⟨fun i m σ H=>m=z.cps.size-i∧i≤z.cps.size∧Pv i σ H,⟨z.cps.size,by simp,Nat.zero_le _,h0⟩,?_⟩
 rintro i m σ H ⟨rfl,hi,p⟩
 by_cases hlt:i<z.cps.size
 ·refine .inr ⟨hlt,Pv (i+1),fun σ' H' p'=>⟨z.cps.size-(i+1),by omega,rfl,hlt,p'⟩,fun x H' y=>?_⟩
  obtain⟨rfl,c,hc,rfl⟩:=y
  exact hs i c σ _ hc p
 ·have e:i=z.cps.size:=by omega
  subst e
  exact .inl ⟨Nat.le_refl _,hd σ H p⟩
def p8 (l:List Nat) (lo hi:Option Int):List Nat:=(l.drop (HT.cN l.length 0 lo)).take (HT.cN l.length l.length hi-HT.cN l.length 0 lo)
theorem Jp (v:Int) (n:Nat):max 0 (min (if v<0 then v+(n:Int) else v) (n:Int))=((HT.cN n 0 (some v):Nat):Int):=by
 show _=(((if v<0 then(v+(n:Int)).toNat else min v.toNat n):Nat):Int)
 split<;>omega
theorem gD (x:Str) (lo hi:Option Int):(Txt.slice x lo hi).cps.toList=p8 x.cps.toList lo hi:=by
 have hx:x.cps.toList.length=x.length:=by simp[Str.length]
 have h2:HT.cN x.length x.length hi≤x.length:=HT.Et _ _ (Nat.le_refl _) _
 have h1:HT.cN x.length 0 lo≤x.length:=HT.Et _ _ (Nat.zero_le _) _
 have ei:Builtin.Str.strSliceIndices lo hi 1 x.length=(List.range (HT.cN x.length x.length hi-HT.cN x.length 0 lo)).map (fun k=>HT.cN x.length 0 lo+k):=by
  have e1:∀o:Option Int,(match o with | none=>(0:Int) | some i=>max 0 (min (if i<0 then i+(x.length:Int) else i) (x.length:Int)))=((HT.cN x.length 0 o:Nat):Int):=fun o=>by
   cases o with
   | none=>rfl
   | some v=>exact Jp v x.length
  have e2:∀o:Option Int,(match o with | none=>(x.length:Int) | some i=>max 0 (min (if i<0 then i+(x.length:Int) else i) (x.length:Int)))=((HT.cN x.length x.length o:Nat):Int):=fun o=>by
   cases o with
   | none=>rfl
   | some v=>exact Jp v x.length
  have e3:Builtin.Str.strSliceIndices lo hi 1 x.length=sliceRange ((HT.cN x.length 0 lo:Nat):Int) ((HT.cN x.length x.length hi:Nat):Int) 1:=by
   rw[←e1 lo,←e2 hi]
   unfold Builtin.Str.strSliceIndices
   simp only[show(1:Int)>0 from by decide,if_true]
   cases lo<;>cases hi<;>rfl
  rw[e3]
  unfold sliceRange
  simp only[show(1:Int)>0 from by decide,if_true]
  split
  ·rename_i hlt
   have e4:(((HT.cN x.length x.length hi:Nat):Int)-((HT.cN x.length 0 lo:Nat):Int)+1-1) / 1=((HT.cN x.length x.length hi-HT.cN x.length 0 lo:Nat):Int):=by rw[Int.ediv_one];omega
   rw[e4,Int.toNat_natCast]
   refine List.map_congr_left fun k _=>?_
   omega
  ·rename_i hlt
   have:HT.cN x.length x.length hi-HT.cN x.length 0 lo=0:=by omega
   rw[this]
   rfl
 unfold Txt.slice
 split
 ·rename_i hw
  rw[Bool.and_eq_true] at hw
  have hl:=beq_iff_eq.mp hw.2
  rw[ei,List.length_map,List.length_range] at hl
  unfold p8
  rw[hx]
  have z1:HT.cN x.length 0 lo=0∨x.length=0:=by omega
  have z2:x.cps.toList.drop (HT.cN x.length 0 lo)=x.cps.toList:=by
   rcases z1 with z | z
   ·rw[z,List.drop_zero]
   ·have:x.cps.toList=[]:=List.length_eq_zero_iff.mp (by rw[hx];exact z)
    rw[this];simp
  rw[z2,List.take_of_length_le (by rw[hx];omega)]
 ·show(((Builtin.Str.strSliceIndices lo hi 1 x.length).filterMap (x.cps[·]?)).toArray).toList=_
  rw[ei]
  unfold p8
  rw[hx]
  have:=StrLaws.picks x.cps.toList (HT.cN x.length x.length hi-HT.cN x.length 0 lo) (HT.cN x.length 0 lo)
  by_cases c:HT.cN x.length 0 lo≤HT.cN x.length x.length hi
  ·have:=this (by rw[hx];omega)
   simpa using this
  ·have z:HT.cN x.length x.length hi-HT.cN x.length 0 lo=0:=by omega
   rw[z];simp
theorem vC (x:Str) (c:Nat):(!(Builtin.Str.occurrences x ⟨#[c]⟩ 0 x.length 1).isEmpty)=decide (c∈x.cps.toList):=StrLaws.found_one x c
theorem bw {P:Program} {w:World} {K:PySem.W.Frag} {mg:Str→Option Value} {base:Heap} {N:List Str} {qual:Str} {scope:Scope} {fa:Addr} {cd:Value} {A:Around} {outer:List Env} {s₀:Shared} {H₀:Hp} {E:XK}:Passes (b_ P w) (iA (b_ P w) P w K mg base N qual scope fa cd A outer s₀ H₀ E) E:=
 E8 fun a C dx H Ha h=>by rw[p6 Ha];exact h
theorem mG (a b:Str):(a++b).cps.toList=a.cps.toList++b.cps.toList:=by
 show(a.cps++b.cps).toList=_
 rw[Array.toList_append]
theorem Fc {a b:Str} (h:a.cps.toList=b.cps.toList):a=b:=cI h
theorem cU (a:Str):a.cps.toList.length=a.length:=by simp[Str.length]
def jn (c:Nat):List (List Nat)→List Nat
 | []=>[]
 | [x]=>x
 | x::y::r=>x++c::jn c (y::r)
theorem kY (c:Nat):∀l:List Str,(Str.join ⟨#[c]⟩ l).cps.toList=jn c (l.map fun x=>x.cps.toList)
 | []=>rfl
 | [x]=>rfl
 | x::y::r=>by
  have ih:=kY c (y::r)
  show(x++⟨#[c]⟩++Str.join ⟨#[c]⟩ (y::r)).cps.toList=_
  rw[mG,mG,ih]
  show(x.cps.toList++[c])++_=x.cps.toList++c::_
  rw[List.append_assoc]
  rfl
theorem uP {c:Nat}:∀{x y r s:List Nat},c ∉ x→c ∉ y→x++c::r=y++c::s→x=y∧r=s
 | [],[],r,s,_,_,h=>⟨rfl,(List.cons.inj h).2⟩
 | [],b::y,r,s,_,hy,h=>absurd (by rw[(List.cons.inj h).1];exact List.mem_cons_self) hy
 | a::x,[],r,s,hx,_,h=>absurd (by rw[←(List.cons.inj h).1];exact List.mem_cons_self) hx
 | a::x,b::y,r,s,hx,hy,h=>by
  obtain⟨h1,h2⟩:=List.cons.inj h
  obtain⟨e1,e2⟩:=uP (fun z=>hx (List.mem_cons_of_mem _ z)) (fun z=>hy (List.mem_cons_of_mem _ z)) h2
  exact⟨by rw[h1,e1],e2⟩
theorem Fd {c:Nat}:∀{xs ys:List (List Nat)},xs≠[]→ys≠[]→(∀x∈xs,c ∉ x)→(∀y∈ys,c ∉ y)→jn c xs=jn c ys→xs=ys
 | [],_,h,_,_,_,_=>absurd rfl h
 | _::_,[],_,h,_,_,_=>absurd rfl h
 | [x],[y],_,_,_,_,h=>by rw[show x=y from h]
 | [x],y::y2::ys,_,_,hx,_,h=>by
  have h':x=y++c::jn c (y2::ys):=h
  exact absurd (by rw[h'];simp) (hx x List.mem_cons_self)
 | x::x2::xs,[y],_,_,_,hy,h=>by
  have h':x++c::jn c (x2::xs)=y:=h
  exact absurd (by rw[←h'];simp) (hy y List.mem_cons_self)
 | x::x2::xs,y::y2::ys,_,_,hx,hy,h=>by
  obtain⟨e1,e2⟩:=uP (hx x List.mem_cons_self) (hy y List.mem_cons_self) (show x++c::jn c (x2::xs)=y++c::jn c (y2::ys) from h)
  rw[e1,Fd (by simp) (by simp) (fun z hz=>hx z (List.mem_cons_of_mem _ hz)) (fun z hz=>hy z (List.mem_cons_of_mem _ hz)) e2]
def spl (c:Nat) (x:Str):List Str:=Txt.split x ⟨#[c]⟩
theorem pF (c:Nat) (x:Str):spl c x≠[]:=by
 unfold spl Txt.split
 split
 ·simp
 ·split
  ·simp
  ·rw[StrLaws.partsBetween_eq]
   obtain⟨p,r,e⟩:=StrLaws.partsFrom_ne x (⟨#[c]⟩:Str).length 0 (Builtin.Str.occurrences x ⟨#[c]⟩ 0 x.length (x.length+1))
   rw[e];simp
theorem Hn (c:Nat) (x:Str):∀p∈spl c x,c ∉ p.cps.toList:=StrLaws.split_free x c
theorem mH (c:Nat) (x:Str):jn c ((spl c x).map fun x=>x.cps.toList)=x.cps.toList:=by
 rw[←kY,spl,StrLaws.join_split]
theorem qB:∀{l m:List Str},(l.map fun x=>x.cps.toList)=(m.map fun x=>x.cps.toList)→l=m
 | [],[],_=>rfl
 | [],_::_,h=>by cases h
 | _::_,[],h=>by cases h
 | x::l,y::m,h=>by
  rw[List.map_cons,List.map_cons] at h
  obtain⟨h1,h2⟩:=List.cons.inj h
  rw[Fc h1,qB h2]
theorem yS {c:Nat} {x:Str} {l:List Str} (hl:l≠[]) (hf:∀p∈l,c ∉ p.cps.toList) (e:x.cps.toList=jn c (l.map fun x=>x.cps.toList)):spl c x=l:=by
 refine qB (Fd (c:=c) ?_ ?_ ?_ ?_ ((mH c x).trans e))
 ·simpa using pF c x
 ·simpa using hl
 ·intro p hp
  obtain⟨q,hq,rfl⟩:=List.mem_map.mp hp
  exact Hn c x q hq
 ·intro p hp
  obtain⟨q,hq,rfl⟩:=List.mem_map.mp hp
  exact hf q hq
section
variable {X:Cx}
def KQ:V→List V→Hp→VK→Prop:=fun x vs H Q=>∃(z y:Str) (i:Int),x=.str z∧vs=[.str y,.int i]∧Q (.bl (Txt.startswith3 z y i)) H
theorem gf:yr X "str.startswith" KQ:=by
 intro pins s σ H x vs v us Q I rx rv h
 obtain⟨z,y,i,rfl,rfl,q⟩:=h
 obtain⟨t,rfl⟩:=rx
 obtain⟨u,w',rfl,ru,lB⟩:=rv.two
 obtain⟨t1,rfl⟩:=ru
 obtain⟨t2,rfl⟩:=lB
 exact SC.startswith3 ⟨.bl _,H,I,rfl,q⟩
end
theorem wO {z y:Str} {k:Nat} (hy:y.length≠0):Txt.startswith3 z y (k:Int)=(y.cps.toList).isPrefixOf (z.cps.toList.drop k):=by
 unfold Txt.startswith3
 have e:fromIndex z.length (k:Int)=k:=by
  unfold fromIndex
  rw[if_neg (by omega)]
  omega
 rw[e,StrLaws.subAt_eq]
 have lz:z.cps.toList.length=z.length:=by simp[Str.length]
 have ly:y.cps.toList.length=y.length:=by simp[Str.length]
 rw[Bool.eq_iff_iff,Bool.and_eq_true,List.isPrefixOf_iff_prefix,beq_iff_eq,decide_eq_true_eq,List.prefix_iff_eq_take,ly]
 constructor
 ·rintro⟨_,h⟩
  exact h.symm
 ·intro h
  refine⟨?_,h.symm⟩
  have hl:=congrArg List.length h
  rw[List.length_take,List.length_drop,lz,ly] at hl
  omega
section
variable {X:Cx}
def Dh (K:PySem.W.Frag) (neg:Bool):R2:=fun x y H Q=>∃ds ds':List Dt,aA K H x (.tup ds)∧aA K H y (.tup ds')∧(Dt.tup ds).dep≤140∧Q (.bl (if neg then !(Dt.tup ds).beq (.tup ds') else(Dt.tup ds).beq (.tup ds'))) H
theorem KR (K:PySem.W.Frag) (hu:X.A.units+180<cLine) (hK:X.K=K:=by rfl):cW X (compareOp .Eq) (Dh K false):=by
 subst hK
 intro pins s σ H x y v u Q I rx ry h
 obtain⟨ds,ds',h,h',hd,q⟩:=h
 have hA:∀e:Dt,e.dep≤140→X.A.in1.units+e.dep<cLine:=fun e he=>by show X.A.units+1+e.dep<cLine;omega
 have hu':X.A.units<cLine:=by omega
 rw[aA] at h h'
 obtain⟨a,xs,rfl,q1,hd1⟩:=h
 obtain⟨b,ys,rfl,q2,hd2⟩:=h'
 cases rx
 cases ry
 exact qV I q1 q2 hd1 hd2 hu' (fun d hm d' x y u v h1 h2 r1 r2=>
   jK I d X.A.in1 d' x y u v (hA d (by have:=Dt.gi hm;rw[Dt.dep] at hd;omega)) h1 h2 r1 r2) _ _ _ _ ⟨.bl _,H,I,rfl,by simpa[Dt.beq] using q⟩
theorem KS (K:PySem.W.Frag) (hu:X.A.units+180<cLine) (hK:X.K=K:=by rfl):cW X (compareOp .NotEq) (Dh K true):=by
 subst hK
 intro pins s σ H x y v u Q I rx ry h
 obtain⟨ds,ds',h,h',hd,q⟩:=h
 have hA:∀e:Dt,e.dep≤140→X.A.in1.units+e.dep<cLine:=fun e he=>by show X.A.units+1+e.dep<cLine;omega
 have hu':X.A.units<cLine:=by omega
 rw[aA] at h h'
 obtain⟨a,xs,rfl,q1,h1⟩:=h
 obtain⟨b,ys,rfl,q2,h2⟩:=h'
 cases rx
 cases ry
 have ih:∀d∈ds,∀(d':Dt) (x y:V) (u v:Value),aA X.K H x d→aA X.K H y d'→RelV x u→RelV y v→SeqAt.EqAt X.A.in1 s u v (d.beq d'):=fun d hm d' x y u v h1 h2 r1 r2=>
  jK I d X.A.in1 d' x y u v (hA d (by have:=Dt.gi hm;rw[Dt.dep] at hd;omega)) h1 h2 r1 r2
 obtain⟨its,r1,p1,_⟩:=I.tuple q1
 obtain⟨its2,r2,p2,_⟩:=I.tuple q2
 have l1:=r1.length
 have l2:=r2.length
 have l3:=h1.length
 have l4:=h2.length
 have z:=SeqAt.RcNeAt.tuples (show s.heap.IsTuple a its.toArray from p1) (show s.heap.IsTuple b its2.toArray from p2) hu' (mB r1 r2 h1 h2 ih)
 have fin:SeqAt.RcNeAt X.A s (.ref a) (.ref b) (!Dt.dH ds ds'):=by
  by_cases hl:ds.length=ds'.length
  ·rw[show min its.toArray.size its2.toArray.size=ds.length by simp;omega,jI ds ds' hl,show(its.toArray.size == its2.toArray.size)=true by simp;omega,Bool.and_true] at z
   exact z
  ·rw[show(its.toArray.size == its2.toArray.size)=false by simp;omega,Bool.and_false] at z
   rw[jJ ds ds' hl]
   exact z
 exact fin _ _ _ _ ⟨.bl _,H,I,rfl,by simpa[Dt.beq] using q⟩
def Jq (K:PySem.W.Frag) (neg:Bool):R2:=fun x y H Q=>∃z:Str,y=.str z∧((∃t:Str,x=.str t∧Q (.bl (if neg then !decide (V.str t=V.str z) else decide (V.str t=V.str z))) H)∨∃a xs,x=.ref a∧cp K H a xs∧Q (.bl neg) H)
theorem B3 (K:PySem.W.Frag) (hu:X.A.units+1<cLine) (hK:X.K=K:=by rfl):cW X (compareOp .Eq) (Jq K false):=by
 subst hK
 intro pins s σ H x y v u Q I rx ry h
 obtain⟨z,rfl,h⟩:=h
 rcases h with⟨t,rfl,q⟩ | ⟨a,xs,rfl,hs,q⟩
 ·exact cL pins s σ H _ _ v u Q I rx ry ⟨rfl,q⟩
 ·obtain⟨its,r1,p1,_⟩:=I.tuple hs
  cases rx
  obtain⟨t2,rfl⟩:=ry
  exact SeqAt.RcAt.tuple_str (items:=its.toArray) z t2 p1 (by omega) _ _ _ _ ⟨.bl _,H,I,rfl,q⟩
theorem KU (K:PySem.W.Frag) (hu:X.A.units+1<cLine) (hK:X.K=K:=by rfl):cW X (compareOp .NotEq) (Jq K true):=by
 subst hK
 intro pins s σ H x y v u Q I rx ry h
 obtain⟨z,rfl,h⟩:=h
 rcases h with⟨t,rfl,q⟩ | ⟨a,xs,rfl,hs,q⟩
 ·exact og pins s σ H _ _ v u Q I rx ry ⟨rfl,q⟩
 ·obtain⟨its,r1,p1,_⟩:=I.tuple hs
  cases rx
  obtain⟨t2,rfl⟩:=ry
  exact SeqAt.RcNeAt.tuple_str (items:=its.toArray) z t2 p1 (by omega) _ _ _ _ ⟨.bl _,H,I,rfl,q⟩
end
end L2
namespace My
open PySem L2
def top (i:Nat):Stmt:=PySem.Challenge.pw_figurejudge_k84_texts_refused.main.body.getD i (.Pass ⟨0,0,0,0⟩)
abbrev sP:Stmt:=top 12
abbrev iU:Stmt:=top 13
abbrev eZ:Stmt:=top 14
abbrev gE:Stmt:=top 15
abbrev fz:Stmt:=top 16
abbrev gF:Stmt:=top 17
abbrev gG:Stmt:=top 18
abbrev eO:Stmt:=top 19
abbrev iV:Stmt:=top 20
abbrev jL:Stmt:=top 21
abbrev ib:Stmt:=top 22
abbrev ic:Stmt:=top 23
abbrev iW:Stmt:=top 24
abbrev fR:Stmt:=top 25
abbrev jM:Stmt:=top 26
abbrev jN:Stmt:=top 27
abbrev fA:Stmt:=top 28
abbrev eI:Stmt:=top 31
abbrev dN:Stmt:=top 32
abbrev du:Stmt:=top 33
abbrev gH:Stmt:=top 35
abbrev fM:Stmt:=top 36
abbrev iX:Stmt:=top 37
abbrev gI:Stmt:=top 38
abbrev gJ:Stmt:=top 39
abbrev fB:Stmt:=top 40
abbrev jO:Stmt:=top 42
abbrev jP:Stmt:=top 43
abbrev fE:Stmt:=top 44
abbrev jQ:Stmt:=top 45
abbrev iY:Stmt:=top 46
abbrev ie:Stmt:=top 47
abbrev jR:Stmt:=top 48
abbrev jS:Stmt:=top 49
abbrev jT:Stmt:=top 50
abbrev ig:Stmt:=top 51
abbrev lQ:Stmt:=top 52
set_option genInjectivity false in
set_option genSizeOf false in
structure dG where
 lR:Addr
 kA:FuncData
 om:Addr
 p9:FuncData
 ji:Addr
 kZ:FuncData
 fN:Addr
 fS:FuncData
 gA:Addr
 ik:FuncData
 j_:Addr
 mI:FuncData
 iC:Addr
 jj:FuncData
 iE:Addr
 jk:FuncData
 iZ:Addr
 jl:FuncData
 mJ:Addr
 oq:FuncData
 jm:Addr
 j0:FuncData
 jo:Addr
 j1:FuncData
 kB:Addr
 lT:FuncData
 gR:Addr
 iN:FuncData
 mK:Addr
 ot:FuncData
 mL:Addr
 ou:FuncData
 gB:Addr
 il:FuncData
 fC:Addr
 fT:FuncData
 fb:Addr
 fP:FuncData
 fF:Addr
 gj:FuncData
 j2:Addr
 mM:FuncData
 j3:Addr
 mN:FuncData
 ow:Addr
 qa:FuncData
 j4:Addr
 mO:FuncData
 j5:Addr
 mP:FuncData
 gC:Addr
 iq:FuncData
 qb:Addr
 rh:FuncData
 qc:Addr
 rj:FuncData
 oy:Addr
 qd:FuncData
 qe:Addr
 rk:FuncData
 oz:Addr
 qf:FuncData
 jq:Addr
 j6:FuncData
 qg:Addr
 rl:FuncData
 mQ:Addr
 oA:FuncData
 qh:Addr
 rm:FuncData
 lU:Addr
 oV:FuncData
 Di:Addr
 Fe:FuncData
structure Txt (K:PySem.W.Frag) (mg:Str→Option Value) (a:dG):Prop where
 PB:cF K "due" "due" sP a.lR a.kA
 qi:mg "due"=some (.ref a.lR)
 qj:PySem.W.keepIn K (.ref a.lR)=true
 qk:Binds K a.kA ["text","at","piece"] []
 Ff:cF K "run_end" "run_end" iU a.om a.p9
 oB:mg "run_end"=some (.ref a.om)
 oE:PySem.W.keepIn K (.ref a.om)=true
 oF:Binds K a.p9 ["text","at","signs"] []
 yT:cF K "is_made_of" "is_made_of" eZ a.ji a.kZ
 rq:mg "is_made_of"=some (.ref a.ji)
 rA:PySem.W.keepIn K (.ref a.ji)=true
 rB:Binds K a.kZ ["some","signs"] []
 AL:cF K "read_name" "read_name" gE a.fN a.fS
 j7:mg "read_name"=some (.ref a.fN)
 j8:PySem.W.keepIn K (.ref a.fN)=true
 j9:Binds K a.fS ["some","signs"] []
 xC:cF K "read_figure" "read_figure" fz a.gA a.ik
 xE:mg "read_figure"=some (.ref a.gA)
 xF:PySem.W.keepIn K (.ref a.gA)=true
 xG:Binds K a.ik ["some"] []
 AN:cF K "is_number" "is_number" gF a.j_ a.mI
 AO:mg "is_number"=some (.ref a.j_)
 AQ:PySem.W.keepIn K (.ref a.j_)=true
 AU:Binds K a.mI ["some"] []
 AV:cF K "read_part" "read_part" gG a.iC a.jj
 AW:mg "read_part"=some (.ref a.iC)
 AX:PySem.W.keepIn K (.ref a.iC)=true
 AY:Binds K a.jj ["some"] []
 AZ:cF K "read_term" "read_term" eO a.iE a.jk
 A_:mg "read_term"=some (.ref a.iE)
 A0:PySem.W.keepIn K (.ref a.iE)=true
 A1:Binds K a.jk ["some"] []
 Fg:cF K "term_at" "term_at" iV a.iZ a.jl
 rC:mg "term_at"=some (.ref a.iZ)
 rD:PySem.W.keepIn K (.ref a.iZ)=true
 rE:Binds K a.jl ["text","at"] []
 Ho:cF K "row_at" "row_at" jL a.mJ a.oq
 yU:mg "row_at"=some (.ref a.mJ)
 yV:PySem.W.keepIn K (.ref a.mJ)=true
 yW:Binds K a.oq ["text","at"] []
 Dj:cF K "sides_at" "sides_at" ib a.jm a.j0
 Dk:mg "sides_at"=some (.ref a.jm)
 Dl:PySem.W.keepIn K (.ref a.jm)=true
 Dm:Binds K a.j0 ["text","at"] []
 Dn:cF K "signs_at" "signs_at" ic a.jo a.j1
 Dq:mg "signs_at"=some (.ref a.jo)
 Dr:PySem.W.keepIn K (.ref a.jo)=true
 Ds:Binds K a.j1 ["text","at"] []
 Fh:cF K "atom_at" "atom_at" iW a.kB a.lT
 Fi:mg "atom_at"=some (.ref a.kB)
 Fj:PySem.W.keepIn K (.ref a.kB)=true
 Fl:Binds K a.lT ["text","at"] []
 yX:cF K "opening_at" "opening_at" fR a.gR a.iN
 rF:mg "opening_at"=some (.ref a.gR)
 rG:PySem.W.keepIn K (.ref a.gR)=true
 rH:Binds K a.iN ["text","at"] []
 Hq:cF K "opened" "opened" jM a.mK a.ot
 Hr:mg "opened"=some (.ref a.mK)
 Hs:PySem.W.keepIn K (.ref a.mK)=true
 Ht:Binds K a.ot ["text","at","waiting"] []
 Hu:cF K "closed" "closed" jN a.mL a.ou
 Hv:mg "closed"=some (.ref a.mL)
 k_closed:PySem.W.keepIn K (.ref a.mL)=true
 Hw:Binds K a.ou ["text","at","waiting","saying"] []
 xH:cF K "read_saying" "read_saying" fA a.gB a.il
 xI:mg "read_saying"=some (.ref a.gB)
 xJ:PySem.W.keepIn K (.ref a.gB)=true
 xK:Binds K a.il ["text"] []
 xM:cF K "inner_parts" "inner_parts" eI a.fC a.fT
 qC:mg "inner_parts"=some (.ref a.fC)
 qD:PySem.W.keepIn K (.ref a.fC)=true
 qE:Binds K a.fT ["saying"] []
 tY:cF K "parts_in_order" "parts_in_order" dN a.fb a.fP
 tZ:mg "parts_in_order"=some (.ref a.fb)
 t_:PySem.W.keepIn K (.ref a.fb)=true
 ua:Binds K a.fP ["saying"] []
 uQ:cF K "told_of_parts" "told_of_parts" du a.fF a.gj
 uR:mg "told_of_parts"=some (.ref a.fF)
 uS:PySem.W.keepIn K (.ref a.fF)=true
 uT:Binds K a.gj ["told","place","saying"] []
 A2:cF K "show_part" "show_part" gH a.j2 a.mM
 A3:mg "show_part"=some (.ref a.j2)
 A4:PySem.W.keepIn K (.ref a.j2)=true
 A5:Binds K a.mM ["part"] []
 A6:cF K "show_term" "show_term" fM a.j3 a.mN
 iF:mg "show_term"=some (.ref a.j3)
 iG:PySem.W.keepIn K (.ref a.j3)=true
 iH:Binds K a.mN ["term"] []
 Fm:cF K "show_at" "show_at" iX a.ow a.qa
 rJ:mg "show_at"=some (.ref a.ow)
 rK:PySem.W.keepIn K (.ref a.ow)=true
 rL:Binds K a.qa ["name","term"] []
 A7:cF K "show_atom" "show_atom" gI a.j4 a.mO
 A8:mg "show_atom"=some (.ref a.j4)
 A9:PySem.W.keepIn K (.ref a.j4)=true
 Ba:Binds K a.mO ["saying"] []
 Bb:cF K "show_over" "show_over" gJ a.j5 a.mP
 Bc:mg "show_over"=some (.ref a.j5)
 Be:PySem.W.keepIn K (.ref a.j5)=true
 Bf:Binds K a.mP ["saying","inner"] []
 xN:cF K "show_saying" "show_saying" fB a.gC a.iq
 qF:mg "show_saying"=some (.ref a.gC)
 qG:PySem.W.keepIn K (.ref a.gC)=true
 qH:Binds K a.iq ["saying"] []
 Hz:cF K "_law_deck" "_law_deck" jO a.qb a.rh
 HA:mg "_law_deck"=some (.ref a.qb)
 HB:PySem.W.keepIn K (.ref a.qb)=true
 HC:Binds K a.rh ["_law_script","_law_many"] []
 HD:cF K "_law_next" "_law_next" jP a.qc a.rj
 bK:mg "_law_next"=some (.ref a.qc)
 bL:PySem.W.keepIn K (.ref a.qc)=true
 bM:Binds K a.rj ["_law_deck_here","_law_many"] []
 Fn:cF K "_law_names" "_law_names" fE a.oy a.qd
 wQ:mg "_law_names"=some (.ref a.oy)
 wR:PySem.W.keepIn K (.ref a.oy)=true
 wU:Binds K a.qd ["_law_deck_here","_law_many","_law_great"] []
 HE:cF K "_law_term" "_law_term" jQ a.qe a.rk
 yY:mg "_law_term"=some (.ref a.qe)
 yZ:PySem.W.keepIn K (.ref a.qe)=true
 y_:Binds K a.rk ["_law_deck_here","_law_names_here"] []
 Fp:cF K "_law_plain" "_law_plain" iY a.oz a.qf
 Fq:mg "_law_plain"=some (.ref a.oz)
 Fs:PySem.W.keepIn K (.ref a.oz)=true
 Ft:Binds K a.qf ["_law_deck_here","_law_names_here","_law_rows"] []
 Du:cF K "_law_saying" "_law_saying" ie a.jq a.j6
 jr:mg "_law_saying"=some (.ref a.jq)
 js:PySem.W.keepIn K (.ref a.jq)=true
 jt:Binds K a.j6 ["_law_deck_here","_law_names_here","_law_rows","_law_box","_law_deep"] []
 HF:cF K "_law_wild" "_law_wild" jR a.qg a.rl
 HG:mg "_law_wild"=some (.ref a.qg)
 HH:PySem.W.keepIn K (.ref a.qg)=true
 HI:Binds K a.rl ["_law_n","_law_m","_law_a"] []
 HJ:cF K "_law_read" "_law_read" jS a.mQ a.oA
 mR:mg "_law_read"=some (.ref a.mQ)
 mS:PySem.W.keepIn K (.ref a.mQ)=true
 mT:Binds K a.oA ["_law_text"] []
 HK:cF K "_law_sign" "_law_sign" jT a.qh a.rm
 HL:mg "_law_sign"=some (.ref a.qh)
 HM:PySem.W.keepIn K (.ref a.qh)=true
 HN:Binds K a.rm ["_law_cell"] []
 Dv:cF K "_law_spoilt" "_law_spoilt" ig a.lU a.oV
 Dw:mg "_law_spoilt"=some (.ref a.lU)
 Dx:PySem.W.keepIn K (.ref a.lU)=true
 Dy:Binds K a.oV ["_law_deck_here","_law_text"] []
 PC:cF K "law" "law" lQ a.Di a.Fe
 ac9:mg "law"=some (.ref a.Di)
 Mu:mg "ValueError"=none
 PD:mg "all"=none
 sQ:mg "int"=none
 Mv:mg "list"=none
 i_:mg "range"=none
 y3:mg "sorted"=none
 dv:mg "len"=none
 B4:mg "tuple"=none
 Bg:mg "enumerate"=none
 Dz:mg "reversed"=none
 Jr:mg "min"=none
 PF:mg "set"=none
 Jt:mg "str"=none
 gT:mg "isinstance"=none
 B5:∃t,mg "SMALL"=some (.str "abcdefghijklmnopqrstuvwxyz" t)
 B6:∃t,mg "GREAT"=some (.str "ABCDEFGHIJKLMNOPQRSTUVWXYZ" t)
 wV:∃t,mg "FIGURES"=some (.str "0123456789" t)
 y6:∃t,mg "TERM_SIGNS"=some (.str "abcdefghijklmnopqrstuvwxyz0123456789+" t)
 vD:∃t,mg "LONGEST_NAME"=some (.int 3 t)
structure Term where
 num:Int
 parts:List (Str×Int)
def fU (p:Str×Int):Dt:=.tup [.str p.1,.int p.2]
def Term.dt (t:Term):Dt:=.tup [.int t.num,.tup (t.parts.map fU)]
inductive ax where
 | same (t u:Term) | less (t u:Term) | sign (a:Str) (t:Term) (s:Int) | alike (a:Str) (t:Term) (b:Str) (u:Term)
 | no (f:ax) | and (f g:ax) | or (f g:ax) | some (n:Str) (f:ax) | each (n:Str) (f:ax)
def ax.dt:ax→Dt
 | .same t u=>.tup [.str "same",t.dt,u.dt]
 | .less t u=>.tup [.str "less",t.dt,u.dt]
 | .sign a t s=>.tup [.str "sign",.str a,t.dt,.int s]
 | .alike a t b u=>.tup [.str "alike",.str a,t.dt,.str b,u.dt]
 | .no f=>.tup [.str "not",f.dt]
 | .and f g=>.tup [.str "and",f.dt,g.dt]
 | .or f g=>.tup [.str "or",f.dt,g.dt]
 | .some n f=>.tup [.str "some",.str n,f.dt]
 | .each n f=>.tup [.str "each",.str n,f.dt]
def ax.deep:ax→Nat
 | .no f=>f.deep+1
 | .and f g=>max f.deep g.deep+1
 | .or f g=>max f.deep g.deep+1
 | .some _ f=>f.deep+1
 | .each _ f=>f.deep+1
 | _=>0
theorem dh:∀ps:List (Str×Int),Dt.eG (ps.map fU)=true
 | []=>by simp[Dt.eG]
 | p::ps=>by rw[List.map_cons,Dt.eG,dh ps];simp[fU,Dt.bG,Dt.eG]
theorem Term.bG (t:Term):t.dt.bG=true:=by simp[Term.dt,Dt.bG,Dt.eG,dh]
theorem ax.bG (s:ax):s.dt.bG=true:=by
 induction s<;>simp[ax.dt,Dt.bG,Dt.eG,Term.bG, *]
theorem wW:∀ps:List (Str×Int),Dt.deps (ps.map fU)≤1
 | []=>by simp[Dt.deps]
 | p::ps=>by
  have:=wW ps
  rw[List.map_cons,Dt.deps]
  simp[fU,Dt.dep,Dt.deps]
  omega
theorem Term.dep (t:Term):t.dt.dep≤3:=by
 have:=wW t.parts
 simp[Term.dt,Dt.dep,Dt.deps]
 omega
theorem ax.dep (s:ax):s.dt.dep≤s.deep+4:=by
 induction s with
 | same t u=>have:=t.dep;have:=u.dep;simp[ax.dt,Dt.dep,Dt.deps,ax.deep];omega
 | less t u=>have:=t.dep;have:=u.dep;simp[ax.dt,Dt.dep,Dt.deps,ax.deep];omega
 | sign a t s=>have:=t.dep;simp[ax.dt,Dt.dep,Dt.deps,ax.deep];omega
 | alike a t b u=>have:=t.dep;have:=u.dep;simp[ax.dt,Dt.dep,Dt.deps,ax.deep];omega
 | no f ih=>simp[ax.dt,Dt.dep,Dt.deps,ax.deep];omega
 | and f g ih1 ih2=>simp[ax.dt,Dt.dep,Dt.deps,ax.deep];omega
 | or f g ih1 ih2=>simp[ax.dt,Dt.dep,Dt.deps,ax.deep];omega
 | some n f ih=>simp[ax.dt,Dt.dep,Dt.deps,ax.deep];omega
 | each n f ih=>simp[ax.dt,Dt.dep,Dt.deps,ax.deep];omega
def bY (H:Hp) (d:Addr):Prop:=∃ms:List Int,H d=some (.lst (ms.map V.int))
theorem bY.same {H H':Hp} {d:Addr} (h:bY H d) (s:Same H H'):bY H' d:=let ⟨ms,a⟩:=h;⟨ms,s _ _ a⟩
theorem bY.kb {H H':Hp} {d e:Addr} (h:bY H d) (s:KB e H H') (n:d≠e):bY H' d:=let ⟨ms,a⟩:=h;⟨ms,s _ _ a n⟩
theorem bY.is {H:Hp} {d:Addr} (h:bY H d):∃xs,H d=some (.lst xs):=let ⟨ms,a⟩:=h;⟨_,a⟩
theorem bY.ne {H:Hp} {d e:Addr} (h:bY H d) (n:H e=none):d≠e:=let ⟨ms,a⟩:=h;bj a n
theorem bY.kts {K:PySem.W.Frag} {H H':Hp} {d:Addr} (h:bY H d) (s:KB d H H'):fm K H H':=let ⟨ms,a⟩:=h;KB.kts a s
def KW (K:PySem.W.Frag):Sp:=fun vs H Q _=>∃(a:Addr) (ns:List Int),vs=[.ref a,.int 300]∧cf K H a (ns.map V.int)∧ns.length≤63∧
 ∀(D:Addr) (H':Hp),H D=none→Same H H'→bY H' D→Q (.ref D) H'
def B7:Sp:=fun vs H Q _=>∃(d:Addr) (m:Int),vs=[.ref d,.int m]∧bY H d∧0<m∧∀(r:Int) (H':Hp),0≤r→r<m→KB d H H'→bY H' d→Q (.int r) H'
section
variable {P:Program} {w:World} {K:PySem.W.Frag} {mg:Str→Option Value} {base:Heap}
theorem Fu:bh ["_law_deck_here","_law_many"] ["_law_deck_here","_law_many"] (aw jP):=⟨rfl,rfl,rfl,by decide+kernel,rfl,by decide+kernel,by decide+kernel⟩
theorem i3 {a:dG} (T:Txt K mg a):a_ P w K mg base dq 1 a.qc a.rj ["_law_deck_here","_law_many"] B7:=by
 refine T.HD.ok Fu (fun vs H Q E h=>?_) (fun cdv A outer s H vs Q E hr h=>?_)
 ·obtain⟨d,m,rfl,_⟩:=h
  rfl
 ·obtain⟨d,m,rfl,⟨ms,hd⟩,hm,k⟩:=h
  refine⟨_,(aj (bH (aP cL (bq (bP K) (by rfl) T.dv cO (ae (pv 0) af)) ai (aW _))
   (aD (aR ai))
   bg)
  (aD (aR (av cH (qT PySem.F.plainAttrs_list PySem.F.slot_list_pop PySem.F.type_list_pop uA (pv 0)) (pv 1))))),?_⟩
  refine⟨_,rfl,_,ms.length,rfl,.inl ⟨_,.of hd,by rw[List.length_map]⟩,rfl,_,rfl,?_⟩
  refine dr (fun hl=>?_) (fun hl=>?_)
  ·exact k 0 H (Int.le_refl _) hm (KB.refl d H) ⟨ms,hd⟩
  ·have hl':0<ms.length:=by
    by_cases z:ms.length=0
    ·exact absurd (dI (show((ms.length:Nat):Int)=0 by omega)) hl
    ·omega
   obtain⟨x,hx⟩:∃x,ms[ms.length-1]? =some x:=⟨_,List.getElem?_eq_getElem (by omega)⟩
   refine⟨_,rfl,.inl ⟨rfl,_,.of hd⟩,d,_,V.int x,rfl,rfl,hd,?_,_,rfl,_,_,rfl,rfl,cpos hm,?_⟩
   ·rw[List.length_map,List.getElem?_map,hx];rfl
   ·exact k _ _ (Int.emod_nonneg _ (by omega)) (Int.emod_lt_of_pos _ hm) KB.write ⟨ms.dropLast,by rw[ag,List.map_dropLast]⟩
theorem cV:bh ["_law_script","_law_many","_law_deck_here","_law_k","_law_cell","_law_j","_law_number"] ["_law_script","_law_many"] (aw jO):=⟨rfl,rfl,rfl,by decide+kernel,rfl,by decide+kernel,by decide+kernel⟩
theorem KY (ms:List Int) (n:Nat):vn (ms.map V.int) none (some (n:Int))=(ms.take n).map V.int:=by
 unfold vn
 rw[show HT.cN (ms.map V.int).length 0 none=0 from rfl,HT.ia]
 rw[List.drop_zero,List.length_map,Nat.sub_zero,←List.map_take]
 congr 1
 by_cases h:n≤ms.length
 ·rw[Nat.min_eq_left h]
 ·rw[Nat.min_eq_right (by omega),List.take_of_length_le (Nat.le_refl _),List.take_of_length_le (by omega)]
theorem Fv {a:dG} (T:Txt K mg a):a_ P w K mg base dq 1 a.qb a.rh ["_law_script","_law_many"] (KW K):=by
 refine T.Hz.ok cV (fun vs H Q E h=>?_) (fun cdv A outer s H vs Q E hr h=>?_)
 ·obtain⟨a,ns,rfl,_⟩:=h
  rfl
 ·obtain⟨sa,ns,rfl,hS,hns,k⟩:=h
  refine⟨_,(aj (aH (i:=2) cV.nd rfl (Or.inl rfl) (bN af))
  (aj (ko PassesOwn.never rfl (gO rfl T.i_ (ae (bq (wg rfl) (by rfl) T.Jr EL (ae ai (ae (bq (bP K) (by rfl) T.dv cO (ae (pv 0) af)) af))) af)) (cR (i:=3) cV.nd rfl (Or.inl rfl))
   (aj (aH (i:=4) cV.nd rfl (Or.inl rfl) (aO (bF K) (pv 0) (pv 3) (fun _ _=>rfl)))
   (aD (bH (aP Pb (pv 4) (av Lm ai ai) (aW _))
    (aD (ko PassesOwn.never rfl (gO rfl T.i_ (ae ai af)) (cR (i:=5) cV.nd rfl (Or.inl rfl))
     (aD (bH (aP xV (pv 4) ai (aW _))
      (aj (dZ (dm PySem.F.plainAttrs_list PySem.F.slot_list_append PySem.F.type_list_append dg (pv 2) (ae (av cH (pv 4) ai) af)))
      (aD (aH (i:=4) cV.nd rfl (Or.inl rfl) (av mz (pv 4) ai))))
      bg))))
    (aj (aH (i:=6) cV.nd rfl (Or.inl rfl) (av cH (av cA (av cA (av gP (av cH (pv 4) ai) ai) (av gP ai (pv 3))) ai) ai))
    (aj (aH (i:=6) cV.nd rfl (Or.inl rfl) (av cH (av cA (av gP (pv 6) (av cA (av mz (pv 6) ai) ai)) (av gP ai (pv 3))) ai))
    (aD (dZ (dm PySem.F.plainAttrs_list PySem.F.slot_list_extend PySem.F.type_list_extend EA (pv 2) (ae (bN (ae (av cH (pv 6) ai) (ae (av cH (av cH (av gP (pv 6) ai) ai) ai) af))) af))))))))))
  (aj (ko PassesOwn.never rfl (Em rfl T.i_ (ae (bq (bP K) (by rfl) T.dv cO (ae (pv 2) af)) (ae (pv 1) af))) (cR (i:=3) cV.nd rfl (Or.inl rfl))
   (aj (aH (i:=6) cV.nd rfl (Or.inl rfl) ai)
   (aj (bH (aP xV (bq (bP K) (by rfl) T.dv cO (ae (pv 0) af)) ai (aW _))
    (aD (aH (i:=6) cV.nd rfl (Or.inl rfl) (av cH (aO (bF K) (pv 0) (av cH (pv 3) (bq (wg rfl) (by rfl) T.Jr EL (ae ai (ae (bq (bP K) (by rfl) T.dv cO (ae (pv 0) af)) af)))) (fun _ _=>rfl)) ai)))
    bg)
   (aj (aH (i:=6) cV.nd rfl (Or.inl rfl) (av cH (av cA (av cA (av gP (pv 6) ai) (av gP ai (pv 3))) ai) ai))
   (aj (aH (i:=6) cV.nd rfl (Or.inl rfl) (av cH (av cA (av gP (pv 6) (av cA (av mz (pv 6) ai) ai)) (av gP ai (pv 3))) ai))
   (aD (dZ (dm PySem.F.plainAttrs_list PySem.F.slot_list_append PySem.F.type_list_append dg (pv 2) (ae (av cH (av cH (av gP (pv 6) ai) ai) ai) af)))))))))
  (aj (aH (i:=2) cV.nd rfl (Or.inl rfl) (cT (GS K) (pv 2) fQ (cx (pv 1))))
  (aj (dZ (qT PySem.F.plainAttrs_list PySem.F.slot_list_reverse PySem.F.type_list_reverse CU (pv 2)))
  (aD (aR (pv 2)))))))),?_⟩
  refine⟨by decide,fun d hd=>?_⟩
  have s0:Same H (upd H d (.lst [])):=Same.new hd
  have HP:∀{H':Hp},Same H H'→GC K (.ref sa) H' ns.length:=fun s=>.inl ⟨_,s.seq hS,by rw[List.length_map]⟩
  have ZX:∀x:Int,0≤x % 2147483629∧x % 2147483629<2147483629:=fun x=>⟨Int.emod_nonneg _ (by decide),Int.emod_lt_of_pos _ (by decide)⟩
  have Mw:∀x y:Int,CL (x % 2147483629) y:=fun x y=>.inl (by have:=ZX x;constructor<;>omega)
  refine⟨_,rfl,_,ns.length,rfl,HP s0,63,(ns.length:Int),rfl,_,rfl,by split<;>omega,by split<;>omega,
   kr (fun i σ H'=>∃(ms:List Int) (v3 v4 v5 v6:Option V),σ=[some (.ref sa),some (.int 300),some (.ref d),v3,v4,v5,v6]∧Same H H'∧H' d=some (.lst (ms.map V.int))∧ms.length≤60*i)
    ⟨[],none,none,none,none,rfl,s0,ag,by simp⟩ ?_ ?_⟩
  ·rintro i σ H1 hi ⟨ms,v3,v4,v5,v6,rfl,s1,e1,hl⟩
   have hi':i<ns.length:=by split at hi<;>omega
   have ade:i<63:=by split at hi<;>omega
   obtain⟨c,hc⟩:∃c,ns[i]? =some c:=⟨_,List.getElem?_eq_getElem hi'⟩
   refine⟨_,rfl,_,rfl,sa,_,_,V.int c,rfl,rfl,s1.seq hS,?_,?_⟩
   ·rw[show(0:Int)+(i:Int)=(i:Int) by omega]
    exact aB (by rw[List.getElem?_map,hc];rfl)
   refine⟨_,rfl,_,_,rfl,rfl,⟨by decide,by decide,by decide⟩,_,_,rfl,rfl,_,rfl,?_⟩
   refine dr (fun _=>?_) (fun _=>?_)
   ·refine⟨(60:Int),rfl,by decide,by decide,kr (fun j σ H2=>∃(ms:List Int) (c:Int) (v5 v6:Option V),σ=[some (.ref sa),some (.int 300),some (.ref d),some (.int (0+(i:Int))),some (.int c),v5,v6]∧Same H H2∧H2 d=some (.lst (ms.map V.int))∧ms.length≤60*i+j)
     ⟨ms,c,v5,v6,rfl,s1,e1,hl⟩ ?_ ?_⟩
    ·rintro j σ H2 hj ⟨ms,c,v5,v6,rfl,s2,e2,hl2⟩
     have hj':j<60:=hj
     refine⟨_,rfl,_,_,rfl,rfl,_,rfl,?_⟩
     refine dr (fun _=>?_) (fun _=>?_)
     ·refine⟨_,rfl,.inl ⟨rfl,_,.of e2⟩,_,rfl,_,_,rfl,rfl,cpos (by decide),d,_,_,rfl,rfl,e2,?_,?_⟩
      ·rw[List.length_map];exact Nat.lt_of_lt_of_le (show ms.length<10000 by omega) (by decide)
      refine⟨_,rfl,_,_,rfl,rfl,⟨by decide,by decide⟩,ms++[c % 720720],c / 720720,_,_,rfl,s2.kbn hd KB.write,?_,?_⟩
      ·rw[ag,List.map_append];rfl
      ·rw[List.length_append];show ms.length+1≤_;omega
     ·exact⟨ms,c,_,_,rfl,s2,e2,by omega⟩
    ·rintro σ H2 ⟨ms,c,v5,v6,rfl,s2,e2,hl2⟩
     have hl2':ms.length≤60*i+60:=hl2
     exact⟨ms,_,_,_,_,rfl,s2,e2,by omega⟩
   ·refine⟨_,rfl,_,_,rfl,rfl,cpos (by decide),_,_,rfl,rfl,.inr (by decide),_,rfl,_,_,rfl,rfl,.inl (by decide),_,_,rfl,rfl,_,_,rfl,rfl,_,_,rfl,rfl,cpos (by decide),?_⟩
    refine⟨_,rfl,_,rfl,_,_,rfl,rfl,⟨by decide,by decide⟩,_,_,rfl,rfl,_,_,rfl,rfl,Mw _ _,_,rfl,_,_,rfl,rfl,.inl (by decide),_,_,rfl,rfl,_,_,rfl,rfl,cpos (by decide),?_⟩
    refine⟨_,rfl,.inl ⟨rfl,_,.of e1⟩,_,rfl,_,_,rfl,rfl,cpos (by decide),_,rfl,_,_,rfl,rfl,.inr (by decide),_,_,rfl,rfl,cpos (by decide),_,_,rfl,rfl,cpos (by decide),by show 2≤sizeLine;decide,fun L hL=>?_⟩
    have ZY:d≠L:=bj e1 hL
    refine⟨d,L,_,_,rfl,rfl,by rw[bz ZY];exact e1,ag,?_,?_⟩
    ·rw[List.length_map];exact Nat.le_trans (show ms.length+2≤10000 by omega) (by decide)
    refine⟨ms++[?x1,?x2],_,_,_,_,rfl,(s1.trans (Same.new hL)).kbn hd KB.write,?eq,?len⟩
    case eq=>rw[ag,List.map_append];rfl
    case len=>rw[List.length_append];show ms.length+2≤_;omega
  ·rintro σ H1 ⟨ms,v3,v4,v5,v6,rfl,s1,e1,hl⟩
   have hl':ms.length≤3780:=by split at hl<;>omega
   refine⟨_,rfl,_,ms.length,rfl,.inl ⟨_,.of e1,by rw[List.length_map]⟩,_,rfl,(ms.length:Int),300,rfl,by omega,kr (fun j σ H'=>∃(y8:List Int) (v3 v4 v5 v6:Option V),σ=[some (.ref sa),some (.int 300),some (.ref d),v3,v4,v5,v6]∧Same H H'∧H' d=some (.lst (y8.map V.int))∧y8.length=ms.length+j)
    ⟨ms,v3,v4,v5,v6,rfl,s1,e1,rfl⟩ ?_ ?_⟩
   ·rintro j σ H2 hj ⟨y8,v3,v4,v5,v6,rfl,s2,e2,hl2⟩
    dsimp only[c_]
    refine ES ?_
    refine yG (t:=yg _ _ _) (u:=tV _ _) (fun σ H'=>∃(x:Int),σ=[some (.ref sa),some (.int 300),some (.ref d),some (.int ((ms.length:Int)+(j:Int))),v4,v5,some (.int x)]∧H'=H2) ?_ (fun rest=>?_)
    ·rintro σ H3 ⟨x,rfl,rfl⟩
     refine⟨_,rfl,_,_,rfl,rfl,.inr (by decide),_,rfl,_,_,rfl,rfl,.inl (by decide),_,_,rfl,rfl,_,_,rfl,rfl,_,_,rfl,rfl,cpos (by decide),?_⟩
     refine⟨_,rfl,_,rfl,_,_,rfl,rfl,⟨by decide,by decide⟩,_,_,rfl,rfl,_,_,rfl,rfl,Mw _ _,_,rfl,_,_,rfl,rfl,.inl (by decide),_,_,rfl,rfl,_,_,rfl,rfl,cpos (by decide),?_⟩
     refine⟨_,rfl,.inl ⟨rfl,_,.of e2⟩,_,rfl,_,_,rfl,rfl,.inr (by decide),_,_,rfl,rfl,cpos (by decide),_,_,rfl,rfl,cpos (by decide),d,_,_,rfl,rfl,e2,?_,?_⟩
     ·rw[List.length_map];exact Nat.lt_of_lt_of_le (show y8.length<10000 by omega) (by decide)
     refine⟨y8++[?y1],_,_,_,_,rfl,s2.kbn hd KB.write,?eq2,?len2⟩
     case eq2=>rw[ag,List.map_append];rfl
     case len2=>rw[List.length_append,hl2];rfl
    ·refine⟨_,rfl,_,ns.length,rfl,HP s2,_,_,rfl,rfl,_,rfl,?_⟩
     refine dr (fun hp=>?_) (fun _=>rest _ _ ⟨11,rfl,rfl⟩)
     have hp':0<ns.length:=by have:=of_decide_eq_true hp;omega
     refine⟨_,rfl,_,rfl,_,rfl,_,ns.length,rfl,HP s2,63,(ns.length:Int),rfl,_,_,rfl,rfl,cpos (by split<;>omega),?_⟩
     obtain⟨q,hq1,hq2⟩:∃q:Nat,((ms.length:Int)+(j:Int)) % (if(ns.length:Int)<63 then(ns.length:Int) else 63)=(q:Int)∧q<ns.length:=by
      refine⟨(((ms.length:Int)+(j:Int)) % (if(ns.length:Int)<63 then(ns.length:Int) else 63)).toNat,?_,?_⟩
      ·have:=Int.emod_nonneg ((ms.length:Int)+(j:Int)) (show(if(ns.length:Int)<63 then(ns.length:Int) else 63)≠0 by split<;>omega)
       omega
      ·have:=Int.emod_nonneg ((ms.length:Int)+(j:Int)) (show(if(ns.length:Int)<63 then(ns.length:Int) else 63)≠0 by split<;>omega)
       have h2:=Int.emod_lt_of_pos ((ms.length:Int)+(j:Int)) (show(0:Int)<(if(ns.length:Int)<63 then(ns.length:Int) else 63) by split<;>omega)
       split at h2<;>split<;>omega
     obtain⟨c,hc⟩:∃c,ns[q]? =some c:=⟨_,List.getElem?_eq_getElem hq2⟩
     refine⟨sa,_,_,V.int c,rfl,rfl,s2.seq hS,?_,_,_,rfl,rfl,cpos (by decide),rest _ _ ⟨_,rfl,rfl⟩⟩
     rw[hq1]
     exact aB (by rw[List.getElem?_map,hc];rfl)
   ·rintro σ H2 ⟨y8,v3,v4,v5,v6,rfl,s2,e2,hl2⟩
    refine⟨_,rfl,_,rfl,_,rfl,d,_,rfl,.of e2,fun D hD=>?_⟩
    rw[show(some (300:Int))=some ((300:Nat):Int) from rfl,KY]
    refine⟨_,rfl,.inl ⟨rfl,_,.of ag⟩,D,_,rfl,rfl,ag,?_⟩
    exact⟨_,rfl,k D _ (s2.free hD) ((s2.trans (Same.new hD)).kbn (s2.free hD) KB.write) ⟨(y8.take 300).reverse,by rw[ag,List.map_reverse]⟩⟩
def abc (g:Bool):Str:=if g then "ABCDEFGHIJKLMNOPQRSTUVWXYZ" else "abcdefghijklmnopqrstuvwxyz"
theorem vE (g:Bool):(abc g).cps.toList.length=26:=by cases g<;>decide+kernel
theorem y9 (g:Bool):(abc g).length≤sizeLine:=by
 have:(abc g).length=26:=by cases g<;>decide+kernel
 rw[this];decide
theorem Fw (g:Bool) (r:Int) (h0:0≤r) (h1:r<26):∃c,ku (abc g).cps.toList r=some c:=by
 obtain⟨n,hn⟩:∃n:Nat,r=(n:Int):=⟨r.toNat,by omega⟩
 subst hn
 exact⟨_,aB (List.getElem?_eq_getElem (by rw[vE];omega))⟩
theorem zf (a y:PySem.Str):(a++y).cps.toList=a.cps.toList++y.cps.toList:=by
 show(a.cps++y.cps).toList=_
 rw[Array.toList_append]
def iQ (g:Bool) (x:Int):Nat:=(abc g).cps.toList.getD x.toNat 0
theorem B8 {g:Bool} {x:Int} {c:Nat} (h0:0≤x) (h1:x<26) (h:ku (abc g).cps.toList x=some c):c=iQ g x:=by
 obtain⟨n,rfl⟩:∃n:Nat,x=(n:Int):=⟨x.toNat,by omega⟩
 have e:ku (abc g).cps.toList (n:Int)=(abc g).cps.toList[n]? :=by
  have:=List.getElem?_eq_getElem (l:=(abc g).cps.toList) (i:=n) (by rw[vE];omega)
  rw[aB this,this]
 rw[e] at h
 unfold iQ
 rw[Int.toNat_natCast,List.getD_eq_getElem?_getD,h]
 rfl
theorem HQ {g:Bool} {x y:Int} (x0:0≤x) (x1:x<26) (y0:0≤y) (y1:y<26) (h:iQ g x=iQ g y):x=y:=by
 have key:∀g:Bool,∀i j:Fin 26,(abc g).cps.toList.getD i.val 0=(abc g).cps.toList.getD j.val 0→i=j:=by decide+kernel
 have:=key g ⟨x.toNat,by omega⟩ ⟨y.toNat,by omega⟩ h
 have e:x.toNat=y.toNat:=Fin.mk.inj this
 omega
def tM (rs:List Int) (pl:Int) (i j:Nat):Int:=(rs.getD j 0+(i:Int)*(if(j:Int)=pl then 1 else 0)) % 26
theorem pG (rs:List Int) (pl:Int) (i j:Nat):0≤tM rs pl i j∧tM rs pl i j<26:=⟨Int.emod_nonneg _ (by decide),Int.emod_lt_of_pos _ (by decide)⟩
def cw (g:Bool) (rs:List Int) (pl:Int) (i:Nat):List Nat:=(List.range rs.length).map fun j=>iQ g (tM rs pl i j)
theorem rM (g:Bool) (rs:List Int) (pl:Int) (i:Nat):(cw g rs pl i).length=rs.length:=by simp[cw]
theorem xY {g:Bool} {rs:List Int} {pl:Int} {i j:Nat} (h:j<rs.length):(cw g rs pl i)[j]? =some (iQ g (tM rs pl i j)):=by
 unfold cw
 rw[List.getElem?_map,List.getElem?_range h]
 rfl
theorem zg {g:Bool} {rs:List Int} {pl:Int} {i k:Nat} (p0:0≤pl) (p1:pl<rs.length) (hi:i<26) (hk:k<26) (h:cw g rs pl i=cw g rs pl k):i=k:=by
 have hp:pl.toNat<rs.length:=by omega
 have e1:=xY (g:=g) (pl:=pl) (i:=i) hp
 rw[h,xY hp] at e1
 have e2:=HQ (pG rs pl k _).1 (pG rs pl k _).2 (pG rs pl i _).1 (pG rs pl i _).2 (Option.some.inj e1)
 unfold tM at e2
 rw[if_pos (by omega)] at e2
 omega
theorem HR {g:Bool} {rs:List Int} {pl:Int} {i k j:Nat} (h:(j:Int)≠pl) (hj:j<rs.length):(cw g rs pl i)[j]? =(cw g rs pl k)[j]? :=by
 rw[xY hj,xY hj]
 unfold tM
 rw[if_neg h,Int.mul_zero,Int.mul_zero]
def mU:List (List Nat):=[("not":Str).cps.toList,("and":Str).cps.toList,("or":Str).cps.toList]
def fw (g:Bool) (rs:List Int) (pl lo:Int) (i:Nat):List Nat:=
 if cw g rs pl i∈mU then(cw g rs pl i).dropLast else if lo=1∧i % 2=1∧rs.length<3 then cw g rs pl i++[iQ g 16] else cw g rs pl i
theorem Mx {g:Bool} {rs:List Int} {pl lo:Int} {i k:Nat} (l0:0<rs.length) (p0:0≤pl) (p1:pl<rs.length) (hi:i<26) (hk:k<26) (h:fw g rs pl lo i=fw g rs pl lo k):i=k:=by
 have li:=rM g rs pl i
 have lk:=rM g rs pl k
 unfold fw at h
 by_cases ni:cw g rs pl i∈mU
 ·rw[if_pos ni] at h
  by_cases nk:cw g rs pl k∈mU
  ·rw[if_pos nk] at h
   refine zg (g:=g) p0 p1 hi hk ?_
   unfold mU at ni nk
   simp only[List.mem_cons,List.not_mem_nil,or_false] at ni nk
   have at_:∀j:Nat,(j:Int)≠pl→j<rs.length→(cw g rs pl i)[j]? =(cw g rs pl k)[j]? :=fun j a b=>HR a b
   rcases ni with a | a | a<;>rcases nk with b | b | b<;>first | (rw[a,b];done) | skip
   all_goals (exfalso;rw[a,b] at at_;rw[a] at li;rw[b] at lk)
   ·have l3:rs.length=3:=by rw[←li];decide
    have h0:=at_ 0
    have h1:=at_ 1
    by_cases z:pl=0
    ·exact absurd (h1 (by omega) (by omega)) (by decide)
    ·exact absurd (h0 (by omega) (by omega)) (by decide)
   ·rw[←lk] at li;exact absurd li (by decide)
   ·have l3:rs.length=3:=by rw[←li];decide
    have h0:=at_ 0
    have h1:=at_ 1
    by_cases z:pl=0
    ·exact absurd (h1 (by omega) (by omega)) (by decide)
    ·exact absurd (h0 (by omega) (by omega)) (by decide)
   ·rw[←lk] at li;exact absurd li (by decide)
   ·rw[←lk] at li;exact absurd li (by decide)
   ·rw[←lk] at li;exact absurd li (by decide)
  ·rw[if_neg nk] at h
   have:=congrArg List.length h
   rw[List.length_dropLast,li] at this
   split at this
   ·rw[List.length_append,lk] at this;simp at this<;>omega
   ·rw[lk] at this;omega
 ·rw[if_neg ni] at h
  by_cases nk:cw g rs pl k∈mU
  ·rw[if_pos nk] at h
   have:=congrArg List.length h
   rw[List.length_dropLast,lk] at this
   split at this
   ·rw[List.length_append,li] at this;simp at this<;>omega
   ·rw[li] at this;omega
  ·rw[if_neg nk] at h
   split at h<;>split at h
   ·exact zg p0 p1 hi hk (List.append_cancel_right h)
   ·have:=congrArg List.length h;rw[List.length_append,li,lk] at this;simp at this
   ·have:=congrArg List.length h;rw[List.length_append,li,lk] at this;simp at this
   ·exact zg p0 p1 hi hk h
theorem DA:∀l:List Nat,(Txt.join ("":Str) (l.map fun c=>(⟨#[c]⟩:Str))).cps.toList=l:=by
 intro l
 unfold Txt.join
 rw[StrLaws.glued_eq_join]
 induction l with
 | nil=>rfl
 | cons c l ih=>
  cases l with
  | nil=>rfl
  | cons c2 l=>
   rw[List.map_cons,List.map_cons] at*
   show((⟨#[c]⟩:Str)++("":Str)++Str.join "" ((⟨#[c2]⟩:Str)::l.map fun c=>(⟨#[c]⟩:Str))).cps.toList=_
   rw[zf,zf,ih]
   rfl
theorem zh {α:Type} {l:List α}:l.Nodup↔∀i j:Nat,i<j→j<l.length→l[i]? ≠l[j]? :=by
 unfold List.Nodup
 rw[List.pairwise_iff_getElem]
 constructor
 ·intro h i j hij hj e
  rw[List.getElem?_eq_getElem (by omega),List.getElem?_eq_getElem hj] at e
  exact h i j (by omega) hj hij (Option.some.inj e)
 ·intro h i j hi hj hij e
  exact h i j hij hj (by rw[List.getElem?_eq_getElem hi,List.getElem?_eq_getElem hj,e])
theorem Fx {α:Type} {l:List α} (h:l.Nodup) {y:α} (hy:y ∉ l) (q:Nat):(l.set q y).Nodup:=by
 rw[zh] at h ⊢
 intro i j hij hj
 rw[List.length_set] at hj
 intro e
 rw[List.getElem?_set,List.getElem?_set] at e
 have hm:∀t,t<l.length→l[t]? ≠some y:=fun t _ z=>hy (List.mem_of_getElem? z)
 by_cases a:q=i<;>by_cases b:q=j
 ·omega
 ·rw[if_pos a,if_neg b,if_pos (by omega)] at e;exact hm j hj e.symm
 ·rw[if_neg a,if_pos b,if_pos (by omega)] at e;exact hm i (by omega) e
 ·rw[if_neg a,if_neg b] at e;exact h i j hij hj e
def oG (g:Bool) (rs:List Int) (pl lo:Int) (i:Nat):Str:=⟨(fw g rs pl lo i).toArray⟩
theorem HS {g:Bool} {rs:List Int} {pl lo:Int} (l0:0<rs.length) (p0:0≤pl) (p1:pl<rs.length) (m:Nat) (hm:m≤26):((List.range m).map (oG g rs pl lo)).Nodup:=by
 rw[zh]
 intro i j hij hj e
 rw[List.length_map,List.length_range] at hj
 rw[List.getElem?_map,List.getElem?_map,List.getElem?_range (by omega),List.getElem?_range hj] at e
 have e1:oG g rs pl lo i=oG g rs pl lo j:=Option.some.inj e
 have e2:fw g rs pl lo i=fw g rs pl lo j:=by
  have:=congrArg (fun z:Str=>z.cps.toList) e1
  simpa[oG] using this
 have:=Mx l0 p0 p1 (by omega) (by omega) e2
 omega
theorem i5 {x y:Str} (h:x.cps.toList=y.cps.toList):x=y:=by
 obtain⟨a⟩:=x
 obtain⟨b⟩:=y
 have:a=b:=Array.toList_inj.mp h
 rw[this]
theorem mV (z:Str):∀l:List Str,inV (.str z) (l.map V.str)=decide (z∈l)
 | []=>by simp[inV]
 | x::l=>by
  have ih:=mV z l
  unfold inV at ih ⊢
  rw[List.map_cons,List.any_cons,ih]
  show((x == z)||_)=_
  by_cases e:x=z
  ·subst e;simp
  ·have e':¬z=x:=fun q=>e q.symm
   simp[e,e']
theorem sR {z:Str} {l:List Nat} (e:z.cps.toList=l):z∈(["not","and","or"]:List Str)↔l∈mU:=by
 unfold mU
 subst e
 simp only[List.mem_cons,List.not_mem_nil,or_false]
 constructor
 ·rintro(rfl | rfl | rfl)
  ·exact .inl rfl
  ·exact .inr (.inl rfl)
  ·exact .inr (.inr rfl)
 ·rintro(h | h | h)
  ·exact .inl (i5 h)
  ·exact .inr (.inl (i5 h))
  ·exact .inr (.inr (i5 h))
theorem DB {z:Str} (h:z∈(["not","and","or"]:List Str)):(Txt.slice z none (some (-1))).cps.toList=z.cps.toList.dropLast:=by
 simp only[List.mem_cons,List.not_mem_nil,or_false] at h
 rcases h with rfl | rfl | rfl<;>decide+kernel
theorem Mz {g:Bool} {rs:List Int} {pl lo:Int} {i:Nat} {z:Str} (e:z.cps.toList=cw g rs pl i) (h:z∈(["not","and","or"]:List Str)):Txt.slice z none (some (-1))=oG g rs pl lo i:=by
 refine i5 ?_
 rw[DB h,e]
 show _=(fw g rs pl lo i).toArray.toList
 unfold fw
 rw[if_pos ((sR e).mp h)]
theorem MA {g:Bool} {rs:List Int} {pl lo:Int} {i:Nat} {z:Str} {c:Nat} (e:z.cps.toList=cw g rs pl i) (h:z ∉ (["not","and","or"]:List Str)) (hc:c=iQ g 16) (h1:lo=1) (h2:i % 2=1) (h3:z.length<3):z++(⟨#[c]⟩:Str)=oG g rs pl lo i:=by
 refine i5 ?_
 rw[zf,e]
 show _=(fw g rs pl lo i).toArray.toList
 unfold fw
 have l:rs.length<3:=by rw[←rM g rs pl i,←e];exact h3
 rw[if_neg (fun q=>h ((sR e).mpr q)),if_pos ⟨h1,h2,l⟩,hc]
theorem vF {g:Bool} {rs:List Int} {pl lo:Int} {i:Nat} {z:Str} (e:z.cps.toList=cw g rs pl i) (h:z ∉ (["not","and","or"]:List Str)) (h1:¬(lo=1∧i % 2=1∧z.length<3)):z=oG g rs pl lo i:=by
 refine i5 ?_
 rw[e]
 show _=(fw g rs pl lo i).toArray.toList
 unfold fw
 have l:rs.length=z.length:=by rw[←rM g rs pl i,←e];rfl
 rw[if_neg (fun q=>h ((sR e).mpr q)),if_neg (by rw[l];exact h1)]
def seven:List Str:=["ora","orb","ort","orz","orr","oro","ors"]
theorem drop_one {n:Str}:∀(cs:List Str),cs.Nodup→cs.length≤(cs.filter fun c=> !decide (n=c)).length+1
 | [],_=>by simp
 | c::cs,h=>by
  rw[List.nodup_cons] at h
  by_cases e:n=c
  ·subst e
   have:(cs.filter fun c=> !decide (n=c))=cs:=by
    rw[List.filter_eq_self]
    intro x hx
    have:n≠x:=fun z=>h.1 (z▸hx)
    simp[this]
   simp[this]
  ·have:=drop_one (n:=n) cs h.2
   simp[e]
   omega
theorem enough:∀(ns cs:List Str),cs.Nodup→cs.length≤(cs.filter fun c=> !(inV (.str c) (ns.map V.str))).length+ns.length
 | [],cs,_=>by
  have:(cs.filter fun c=> !(inV (.str c) (([]:List Str).map V.str)))=cs:=by
   rw[List.filter_eq_self];intro x hx;rfl
  rw[this];simp
 | n::ns,cs,h=>by
  have h1:=enough ns cs h
  have h2:=drop_one (n:=n) (cs.filter fun c=> !(inV (.str c) (ns.map V.str))) (h.sublist List.filter_sublist)
  have e:(cs.filter fun c=> !(inV (.str c) ((n::ns).map V.str)))=(cs.filter fun c=> !(inV (.str c) (ns.map V.str))).filter fun c=> !decide (n=c):=by
   rw[List.filter_filter]
   congr 1
   funext c
   unfold inV
   rw[List.map_cons,List.any_cons]
   show(!((n == c)||_))=_
   rw[Bool.not_or]
   congr 1
   first | done | (by_cases z:n=c<;>simp[z])
  rw[e,List.length_cons]
  omega
def ql (g:Bool) (x:Str):Prop:=1≤x.length∧x.length≤3∧(∀c∈x.cps.toList,c∈(abc g).cps.toList)∧x ∉ (["not","and","or"]:List Str)
theorem zi {g:Bool} {x:Int} (x0:0≤x) (x1:x<26):iQ g x∈(abc g).cps.toList:=by
 unfold iQ
 rw[List.getD_eq_getElem?_getD,List.getElem?_eq_getElem (by rw[vE];omega)]
 exact List.getElem_mem _
theorem zj {g:Bool} {rs:List Int} {pl:Int} {i:Nat}:∀c∈cw g rs pl i,c∈(abc g).cps.toList:=by
 intro c hc
 unfold cw at hc
 obtain⟨j,_,rfl⟩:=List.mem_map.mp hc
 exact zi (pG rs pl i j).1 (pG rs pl i j).2
theorem PH {g:Bool} {rs:List Int} {pl lo:Int} {i:Nat} (l0:0<rs.length) (l3:rs.length≤3):ql g (oG g rs pl lo i):=by
 have ec:(oG g rs pl lo i).cps.toList=fw g rs pl lo i:=by unfold oG;simp
 have el:(oG g rs pl lo i).length=(fw g rs pl lo i).length:=by rw[←ec];simp[Str.length]
 have li:=rM g rs pl i
 have hn:(oG g rs pl lo i∈(["not","and","or"]:List Str))↔fw g rs pl lo i∈mU:=sR ec
 unfold ql
 rw[hn,ec,el]
 unfold fw
 split
 ·rename_i ni
  refine⟨?_,?_,fun c hc=>zj c ((List.dropLast_sublist _).subset hc),?_⟩
  ·unfold mU at ni
   simp only[List.mem_cons,List.not_mem_nil,or_false] at ni
   rcases ni with a | a | a<;>(rw[a];decide)
  ·rw[List.length_dropLast,li];omega
  ·unfold mU at ni
   simp only[List.mem_cons,List.not_mem_nil,or_false] at ni
   rcases ni with a | a | a<;>(rw[a];decide)
 ·rename_i ni
  split
  ·rename_i h
   refine⟨by rw[List.length_append];simp,by rw[List.length_append,li];simp;omega,fun c hc=>?_,fun z=>?_⟩
   ·rcases List.mem_append.mp hc with q | q
    ·exact zj c q
    ·rw[List.mem_singleton.mp q];exact zi (by decide) (by decide)
   ·have e:=congrArg (fun l:List Nat=>l.getLast?) (rfl:cw g rs pl i++[iQ g 16]=cw g rs pl i++[iQ g 16])
    have h1:∀l∈mU,l.getLast? ≠some (iQ g 16):=by cases g<;>decide
    exact h1 _ z (by simp)
  ·exact⟨by rw[li];omega,by rw[li];omega,zj,ni⟩
theorem HU:∀y∈seven,ql false y:=by
 unfold ql seven
 decide+kernel
def KZ:Sp:=fun vs H Q _=>∃(d:Addr) (m:Nat) (g:Bool),vs=[.ref d,.int m,.bl g]∧bY H d∧m≤6∧
 ∀(N:Addr) (ss:List Str) (H':Hp),H N=none→KB d H H'→bY H' d→H' N=some (.lst (ss.map V.str))→ss.length=m→ss.Nodup→(∀x∈ss,ql g x)→Q (.ref N) H'
theorem dw:bh ["_law_deck_here","_law_many","_law_great","_law_letters","_law_base","_law_place","_law_longer","_law_names_here","_law_k","_law_word","_law_some"] ["_law_deck_here","_law_many","_law_great"] (aw fE):=⟨rfl,rfl,rfl,by decide+kernel,rfl,by decide+kernel,by decide+kernel⟩
theorem DC {a:dG} (T:Txt K mg a):a_ P w K mg base dq 2 a.oy a.qd ["_law_deck_here","_law_many","_law_great"] KZ:=by
 have bt:=i3 (P:=P) (w:=w) (base:=base) T
 refine T.Fn.ok dw (fun vs H Q E h=>?_) (fun cdv A outer s H vs Q E hr h=>?_)
 ·obtain⟨d,m,g,rfl,_⟩:=h
  rfl
 ·obtain⟨d,m,g,rfl,hd,hm,k⟩:=h
  have bo:aU 1 _:=hr
  refine⟨_,(aj (aH (i:=3) dw.nd rfl (Or.inr rfl) (aO (bF K) (bN (ae ah (ae ah af))) (dU qR (by rfl) T.sQ pA (ae (pv 2) af)) (fun _ _=>rfl)))
  (aj (aH (i:=4) dw.nd rfl (Or.inr rfl) (pj (bO.mk' (esc:=aw fE) (N:=["_law_deck_here","_law_many","_law_great","_law_letters","_law_base","_law_place","_law_longer","_law_names_here","_law_k","_law_word","_law_some"]) (own:=["_law_k"]) (bX:=["_law_deck_here"]) (cS:=[0]) rfl rfl (by decide+kernel)) rfl (gO rfl T.i_ (ae (av cA ai (aE bt bo rfl T.bK T.bL T.bM .nil aT (ae (pv 0) (ae ai af)))) af)) (fun _ _ _ _=>(cR (i:=0) (show List.Nodup (["_law_k","_law_deck_here"]:List Str) by decide+kernel) rfl (Or.inl rfl))) (fun _ _ _ _=>gQ) (fun _ _ _ _=>(aE bt bo rfl T.bK T.bL T.bM .nil aT (ae (pv 1) (ae ai af))))))
  (aj (aH (i:=5) dw.nd rfl (Or.inr rfl) (aE bt bo rfl T.bK T.bL T.bM .nil aT (ae (pv 0) (ae (bq (bP K) (by rfl) T.dv cO (ae (pv 4) af)) af))))
  (aj (aH (i:=6) dw.nd rfl (Or.inl rfl) (aE bt bo rfl T.bK T.bL T.bM .nil aT (ae (pv 0) (ae ai af))))
  (aj (aH (i:=7) dw.nd rfl (Or.inr rfl) (bN af))
  (aj (ko PassesOwn.never rfl (gO rfl T.i_ (ae (pv 1) af)) (cR (i:=8) dw.nd rfl (Or.inr rfl))
   (aj (aH (i:=9) dw.nd rfl (Or.inl rfl) (dm PySem.F.plainAttrs_str PySem.F.slot_str_join PySem.F.type_str_join (yJ K) ah (ae (pj (bO.mk' (esc:=aw fE) (N:=["_law_deck_here","_law_many","_law_great","_law_letters","_law_base","_law_place","_law_longer","_law_names_here","_law_k","_law_word","_law_some"]) (own:=["_law_j"]) (bX:=["_law_letters","_law_base","_law_k","_law_place"]) (cS:=[3,4,8,5]) rfl rfl (by decide+kernel)) rfl (gO rfl T.i_ (ae (bq (bP K) (by rfl) T.dv cO (ae (pv 4) af)) af)) (fun _ _ _ _=>(cR (i:=0) (show List.Nodup (["_law_j","_law_letters","_law_base","_law_k","_law_place"]:List Str) by decide+kernel) rfl (Or.inl rfl))) (fun _ _ _ _=>gQ) (fun _ _ _ _=>(aO mr (pv 1) (av cH (av cA (aO (bF K) (pv 2) (pv 0) (fun _ _=>rfl)) (av gP (pv 3) (dU qR (by rfl) T.sQ pA (ae (iT cL (pv 0) (pv 4) (aW _)) af)))) ai) (fun _ _=>rfl)))) af)))
   (aj (bH (aP (pB K) (pv 9) (bN (ae ah (ae ah (ae ah af)))) (by with_unfolding_all rfl))
    (aD (aH (i:=9) dw.nd rfl (Or.inl rfl) (cT eY (pv 9) fQ (cx (CJ ym ai)))))
    (aD (bH (PW.pt (jd (aP cL (pv 6) ai (aW _)) (jd (aP cL (av cH (pv 8) ai) ai (aW _)) (jG (aP sG (bq (bP K) (by rfl) T.dv cO (ae (pv 9) af)) ai (aW _))))))
     (aD (aH (i:=9) dw.nd rfl (Or.inl rfl) (av ao (pv 9) (aO mr (pv 3) ai (fun _ _=>rfl)))))
     bg)))
   (aD (dZ (dm PySem.F.plainAttrs_list PySem.F.slot_list_append PySem.F.type_list_append dg (pv 7) (ae (pv 9) af)))))))
  (aj (bH (PW.pt (jd (aP xV (pv 1) ai (aW _)) (jd (o4 (df (pv 2) (fun _=>rfl))) (jG (aP cL (aE bt bo rfl T.bK T.bL T.bM .nil aT (ae (pv 0) (ae ai af))) ai (aW _))))))
   (aj (p_ (i:=10) (bO.mk' (esc:=aw fE) (N:=["_law_deck_here","_law_many","_law_great","_law_letters","_law_base","_law_place","_law_longer","_law_names_here","_law_k","_law_word","_law_some"]) (own:=["_law_word"]) (bX:=["_law_names_here"]) (cS:=[7]) rfl rfl (by decide+kernel)) rfl (o5 (bN (ae ah (ae ah (ae ah (ae ah (ae ah (ae ah (ae ah af))))))))) (fun _ _ _ _=>(cR (i:=0) (show List.Nodup (["_law_word","_law_names_here"]:List Str) by decide+kernel) rfl (Or.inl rfl))) (fun _ _ _ _=>(GQ (aP (EN K) (pv 0) (pv 1) (by with_unfolding_all rfl)))) (fun _ _ _ _=>(pv 0)) dw.nd rfl rfl)
   (aD (Ej (aO (bF K) (pv 10) ai (fun _ _=>rfl)) (Ei (pv 7) (aE bt bo rfl T.bK T.bL T.bM .nil aT (ae (pv 0) (ae (pv 1) af))) set_list))))
   bg)
  (aD (aR (pv 7)))))))))),?_⟩
  refine⟨by show 2≤sizeLine;decide,fun L hL=>⟨_,rfl,.inr ⟨g,rfl,L,_,_,.str (abc g),rfl,rfl,.of ag,by cases g<;>rfl,?_⟩⟩⟩
  have s1:=Same.new (o:=.lst [.str "abcdefghijklmnopqrstuvwxyz",.str "ABCDEFGHIJKLMNOPQRSTUVWXYZ"]) hL
  have d1:=hd.same s1
  refine⟨_,rfl,d,3,rfl,d1,by decide,fun t H2 t0 t1 k2 d2=>⟨_,_,rfl,rfl,_,rfl,by omega,by omega,fun B hB=>?_⟩⟩
  have Ju:B≠d:=(d2.ne hB).symm
  refine p3 (fun i σ H'=>∃(rs:List Int) (v:Option V),σ=[v,some (.ref d)]∧KB d H2 H'∧bY H' d∧H' B=some (.lst (rs.map V.int))∧rs.length=i)
   ⟨[],none,rfl,(Same.new hB).kb,d2.same (Same.new hB),ag,rfl⟩ ?_ ?_
  ·rintro i σ H3 hi ⟨rs,v,rfl,k3,d3,e3,lr⟩
   refine⟨_,rfl,d,26,rfl,d3,by decide,fun r H4 r0 r1 k4 d4=>?_⟩
   refine⟨rs.map V.int,k4 _ _ e3 Ju,?_,rs++[r],_,rfl,?_,d4.kb KB.write Ju.symm,?_,?_⟩
   ·rw[List.length_map];exact Nat.lt_of_lt_of_le (show rs.length<100 by omega) (by decide)
   ·intro b o e n
    rw[bz (bj e hB)]
    exact k4 b o (k3 b o e n) n
   ·rw[ag,List.map_append];rfl
   ·rw[List.length_append,lr];rfl
  rintro σ H3 ⟨rs,v,rfl,k3,d3,e3,lr⟩
  have MB:0<rs.length∧rs.length≤3:=by omega
  refine⟨_,rfl,_,rfl,_,rs.length,rfl,.inl ⟨_,.of e3,by rw[List.length_map]⟩,d,(rs.length:Int),rfl,d3,by omega,fun pl H4 p0 p1 k4 d4=>?_⟩
  have e4:=k4 _ _ e3 Ju
  refine⟨_,rfl,d,2,rfl,d4,by decide,fun lo H5 l0 l1 k5 d5=>?_⟩
  have e5:=k5 _ _ e4 Ju
  refine⟨by decide,fun N hN=>?_⟩
  have rN:N≠d:=(d5.ne hN).symm
  have Rj:B≠N:=bj e5 hN
  have MC:KB d H H5:=(((s1.kb).trans k2).trans k3).trans (k4.trans k5)
  have MD:H N=none:=by
   cases z:H N with
   | none=>rfl
   | some o=>
    have:=MC N o z rN
    rw[hN] at this;cases this
  refine⟨_,rfl,m,rfl,by omega,by omega,kr (n:=(m:Int).toNat) (fun i σ H'=>∃(ss:List Str) (v8 v9:Option V),σ=[some (.ref d),some (.int m),some (.bl g),some (.str (abc g)),some (.ref B),some (.int pl),some (.int lo),some (.ref N),v8,v9,none]∧KB d H H'∧bY H' d∧H' B=some (.lst (rs.map V.int))∧H' N=some (.lst (ss.map V.str))∧ss.length=i∧ss=(List.range i).map (oG g rs pl lo))
   ⟨[],none,none,rfl,MC.trans (Same.new hN).kb,d5.same (Same.new hN),by rw[bz Rj];exact e5,ag,rfl,rfl⟩ ?_ ?_⟩
  ·rintro i σ H6 hi ⟨ss,v8,v9,rfl,k6,d6,e6,n6,ls,ess⟩
   rw[Int.toNat_natCast] at hi
   refine⟨rfl,_,rfl,_,rs.length,rfl,.inl ⟨_,.of e6,by rw[List.length_map]⟩,_,rfl,by omega,by omega,fun C hC=>?_⟩
   refine p3 (fun j σ H'=>∃(ys:List Str) (v:Option V),σ=[v,some (.str (abc g)),some (.ref B),some (.int (0+(i:Int))),some (.int pl)]∧Same H6 H'∧H' C=some (.lst (ys.map V.str))∧ys.length=j∧(ys.map (·.length)).sum=j∧ys=(List.range j).map fun t=>(⟨#[iQ g (tM rs pl i t)]⟩:Str))
    ⟨[],none,rfl,Same.new hC,ag,rfl,rfl,rfl⟩ ?_ ?_
   ·rintro j σ H7 hj ⟨ys,v,rfl,s7,e7,ly,Jv,eys⟩
    rw[Int.toNat_natCast] at hj
    obtain⟨q,hq⟩:∃q,rs[j]? =some q:=⟨_,List.getElem?_eq_getElem hj⟩
    refine⟨_,rfl,_,rfl,_,rfl,B,_,_,V.int q,rfl,rfl,.of (s7 _ _ e6),?_,_,rfl,_,rfl,_,rfl,rfl,.inr ⟨_,rfl,_,_,rfl,rfl,.inl (by constructor<;>omega),_,_,rfl,rfl,_,_,rfl,rfl,cpos (by decide),?_⟩⟩
    ·rw[show(0:Int)+(j:Int)=(j:Int) by omega]
     exact aB (by rw[List.getElem?_map,hq];rfl)
    generalize hx:(q+(0+(i:Int))*(if decide (V.int (0+(j:Int))=V.int pl) then 1 else 0)) % 26=x
    have x0:0≤x:=by rw[←hx];exact Int.emod_nonneg _ (by decide)
    have x1:x<26:=by rw[←hx];exact Int.emod_lt_of_pos _ (by decide)
    obtain⟨c,hc⟩:=Fw g x x0 x1
    refine⟨abc g,x,c,rfl,by rw[←hx],y9 g,hc,ys.map V.str,e7,?_,ys++[⟨#[c]⟩],_,rfl,s7.kbn hC KB.write,?_,?_,?_,?_⟩
    ·rw[List.length_map];exact Nat.lt_of_lt_of_le (show ys.length<100 by omega) (by decide)
    ·rw[ag,List.map_append];rfl
    ·rw[List.length_append,ly];rfl
    ·rw[List.map_append,List.sum_append,Jv];rfl
    ·have ex:x=tM rs pl i j:=by
      rw[←hx]
      unfold tM
      rw[List.getD_eq_getElem?_getD,hq]
      have e1:(0:Int)+(i:Int)=(i:Int):=by omega
      have e2:(if decide (V.int (0+(j:Int))=V.int pl)=true then(1:Int) else 0)=if(j:Int)=pl then 1 else 0:=by
       by_cases z:(j:Int)=pl
       ·rw[dI (by omega),if_pos z];rfl
       ·rw[EO (by omega),if_neg z];rfl
      rw[e1,e2]
      rfl
     rw[B8 x0 x1 hc,ex,List.range_succ,List.map_append,eys]
     rfl
   rintro σ H7 ⟨ys,v,rfl,s7,e7,ly,Jv,eys⟩
   rw[Int.toNat_natCast] at ly Jv eys
   refine⟨"",C,ys,rfl,rfl,.of e7,?_,fun z hz ZZ=>?_⟩
   ·rw[Jv,ly]
    have:(Str.length ("":Str))=0:=rfl
    rw[this];omega
   have adf:z.length≤sizeLine:=hz
   have zc:z.cps.toList=cw g rs pl i:=by
    rw[ZZ,eys,show((List.range rs.length).map fun t=>(⟨#[iQ g (tM rs pl i t)]⟩:Str))=(cw g rs pl i).map fun c=>(⟨#[c]⟩:Str) by unfold cw;rw[List.map_map];rfl]
    exact DA _
   dsimp only[c_]
   have k7:KB d H H7:=k6.trans s7.kb
   refine yG (t:=yg _ _ _) (u:=IW _) (fun σ H'=>∃z:Str,σ=[some (.ref d),some (.int m),some (.bl g),some (.str (abc g)),some (.ref B),some (.int pl),some (.int lo),some (.ref N),some (.int (0+(i:Int))),some (.str z),none]∧Same H7 H'∧z=oG g rs pl lo i) ?_ (fun rest=>?_)
   ·rintro σ H8 ⟨z,rfl,s8,ez⟩
    have n8:=s8 _ _ (s7 _ _ n6)
    refine⟨_,rfl,.inl ⟨rfl,_,.of n8⟩,_,rfl,N,_,_,rfl,rfl,n8,?_,?_⟩
    ·rw[List.length_map];exact Nat.lt_of_lt_of_le (show ss.length<100 by omega) (by decide)
    refine⟨ss++[z],_,_,rfl,?_,((d6.same s7).same s8).kb KB.write rN.symm,?_,?_,?_,by rw[List.range_succ,List.map_append,ess,ez];rfl⟩
    ·intro b o e n
     rw[bz (bj e MD)]
     exact s8 _ _ (k7 b o e n)
    ·rw[bz Rj];exact s8 _ _ (s7 _ _ e6)
    ·rw[ag,List.map_append];rfl
    ·rw[List.length_append,ls];rfl
   ·refine⟨_,rfl,by show 3≤sizeLine;decide,fun W hW=>⟨W,_,rfl,.inl (.of ag),rfl,rfl,_,rfl,?_⟩⟩
    have sW:=Same.new (o:=.lst [.str "not",.str "and",.str "or"]) hW
    rw[show inV (V.str z) [V.str "not",V.str "and",V.str "or"]=decide (z∈(["not","and","or"]:List Str)) from mV z ["not","and","or"]]
    refine dr (fun hn=>?_) (fun hn=>?_)
    ·exact⟨_,rfl,_,rfl,_,rfl,z,rfl,hz,rest _ _ ⟨_,rfl,sW,Mz zc (of_decide_eq_true hn)⟩⟩
    ·have hn':z ∉ (["not","and","or"]:List Str):=fun q=>hn (decide_eq_true q)
     refine⟨_,rfl,rfl,_,rfl,?_⟩
     refine dr (fun h1=>?_) (fun h1=>aY (rest _ _ ⟨z,rfl,sW,vF zc hn' fun q=>h1 (dI q.1)⟩))
     have h1':lo=1:=V.int.inj (of_decide_eq_true h1)
     refine⟨_,rfl,_,_,rfl,rfl,cpos (by decide),rfl,_,rfl,?_⟩
     refine dr (fun h2=>?_) (fun h2=>aY (rest _ _ ⟨z,rfl,sW,vF zc hn' fun q=>h2 (dI (by have:=q.2.1;omega))⟩))
     have h2':i % 2=1:=by
      have:(0+(i:Int)) % 2=1:=V.int.inj (of_decide_eq_true h2)
      omega
     refine⟨_,rfl,_,z.length,rfl,⟨hz,rfl⟩,_,_,rfl,rfl,_,rfl,?_⟩
     refine dr (fun hl=>?_) (fun hl=>rest _ _ ⟨z,rfl,sW,vF zc hn' fun q=>hl (decide_eq_true (by have:=q.2.2;omega))⟩)
     have hl':z.length<3:=by have:=of_decide_eq_true hl;omega
     obtain⟨c,hc⟩:=Fw g 16 (by decide) (by decide)
     refine⟨_,rfl,_,rfl,abc g,16,c,rfl,rfl,y9 g,hc,z,⟨#[c]⟩,rfl,rfl,?_,rest _ _ ⟨_,rfl,sW,MA zc hn' (B8 (by decide) (by decide) hc) h1' h2' hl'⟩⟩
     show z.length+1≤sizeLine
     exact Nat.le_trans (show z.length+1≤10 by omega) (by decide)
  ·rintro σ H6 ⟨ss,v8,v9,rfl,k6,d6,e6,n6,ls,ess⟩
   rw[Int.toNat_natCast] at ls ess
   have nd:ss.Nodup:=by rw[ess];exact HS MB.1 p0 p1 m (by omega)
   have nk:∀x∈ss,ql g x:=by
    intro x hx
    rw[ess] at hx
    obtain⟨t,_,rfl⟩:=List.mem_map.mp hx
    exact PH MB.1 MB.2
   have fin:∀(σ:St) (H':Hp),(∃(ss:List Str) (v8 v9 v10:Option V),σ=[some (.ref d),some (.int m),some (.bl g),some (.str (abc g)),some (.ref B),some (.int pl),some (.int lo),some (.ref N),v8,v9,v10]∧KB d H H'∧bY H' d∧H' N=some (.lst (ss.map V.str))∧ss.length=m∧ss.Nodup∧∀x∈ss,ql g x)→
     ∃v,σ[7]? =some (some v)∧Q v H':=by
    rintro σ H' ⟨ss,v8,v9,v10,rfl,k7,d7,n7,l7,u7,w7⟩
    exact⟨_,rfl,k N ss H' MD k7 d7 n7 l7 u7 w7⟩
   refine⟨_,rfl,_,_,rfl,rfl,_,rfl,?_⟩
   refine dr (fun hm0=>?_) (fun _=>aY (fin _ _ ⟨ss,_,_,_,rfl,k6,d6,n6,ls,nd,nk⟩))
   have adg:0<m:=by have:=of_decide_eq_true hm0;omega
   refine⟨_,rfl,g,rfl,?_⟩
   refine dr (fun hgf=>?_) (fun _=>aY (fin _ _ ⟨ss,_,_,_,rfl,k6,d6,n6,ls,nd,nk⟩))
   refine⟨_,rfl,d,6,rfl,d6,by decide,fun r H7 r0 r1 k7 d7=>⟨rfl,_,rfl,?_⟩⟩
   have n7:=k7 _ _ n6 rN
   have Rk:=k6.trans k7
   refine dr (fun _=>?_) (fun _=>fin _ _ ⟨ss,_,_,_,rfl,Rk,d7,n7,ls,nd,nk⟩)
   refine⟨by show 7≤sizeLine;decide,fun S hS=>⟨S,rfl,⟨_,.of ag⟩,fun C hC=>?_⟩⟩
   have nNS:N≠S:=bj n7 hS
   have Jw:=(Same.new (o:=.lst [.str "ora",.str "orb",.str "ort",.str "orz",.str "orr",.str "oro",.str "ors"]) hS) _ _ n7
   have Z_:S≠C:=bj ag hC
   refine qU (xs:=seven.map V.str) (fun i σ H'=>∃v:Option V,σ=[v,some (.ref N)]∧KB C (upd H7 S (.lst [.str "ora",.str "orb",.str "ort",.str "orz",.str "orr",.str "oro",.str "ors"])) H'∧H' C=some (.lst (((seven.take i).filter fun c=> !(inV (.str c) (ss.map V.str))).map V.str)))
    ⟨none,rfl,(Same.new hC).kb,ag⟩ (fun i σ H' _ ⟨_,_,h,_⟩=>.of (h _ _ ag Z_)) ?_ ?_
   ·rintro i x σ H8 hx ⟨v,rfl,k8,e8⟩
    obtain⟨c,rfl,hc⟩:=vw hx
    have ME:N≠C:=bj Jw hC
    refine⟨_,rfl,_,rfl,N,_,rfl,.inl (.of (k8 _ _ Jw ME)),rfl,?_,_,rfl,?_⟩
    ·rw[List.all_map];exact List.all_eq_true.mpr fun _ _=>rfl
    have et:seven.take (i+1)=seven.take i++[c]:=by rw[List.take_add_one,hc];rfl
    refine dr (fun hin=>?_) (fun hin=>?_)
    ·refine⟨_,rfl,_,e8,?_,_,rfl,k8.trans KB.write,?_⟩
     ·rw[List.length_map]
      refine Nat.lt_of_le_of_lt (List.length_filter_le _ _) ?_
      rw[List.length_take]
      exact Nat.lt_of_le_of_lt (Nat.min_le_right _ _) (by decide)
     ·rw[ag,et,List.filter_append,List.map_append]
      have HV:(!(inV (.str c) (ss.map V.str)))=true:=hin
      simp[HV]
    ·refine⟨_,rfl,k8,?_⟩
     have HV:(!(inV (.str c) (ss.map V.str)))=false:=by
      cases z:(!(inV (.str c) (ss.map V.str))) with
      | false=>rfl
      | true=>exact absurd z hin
     rw[e8,et,List.filter_append]
     simp[HV]
   rintro σ H8 ⟨v,rfl,k8,e8⟩
   have ME:N≠C:=bj Jw hC
   have n8:=k8 _ _ Jw ME
   have hlen:=enough ss seven (by decide+kernel)
   have h7:seven.length=7:=rfl
   rw[show seven.take (seven.map V.str).length=seven from rfl] at e8
   obtain⟨y,ys,hy⟩:∃y ys,(seven.filter fun c=> !(inV (.str c) (ss.map V.str)))=y::ys:=by
    cases z:(seven.filter fun c=> !(inV (.str c) (ss.map V.str))) with
    | nil=>rw[z] at hlen;simp at hlen;omega
    | cons y ys=>exact⟨y,ys,rfl⟩
   rw[hy] at e8
   refine⟨_,rfl,C,_,0,.str y,rfl,rfl,.of e8,aB (j:=0) rfl,?_⟩
   have Z0:C≠d:=by
    obtain⟨xd,MF⟩:=(d7.same (Same.new (o:=.lst [.str "ora",.str "orb",.str "ort",.str "orz",.str "orr",.str "oro",.str "ors"]) hS)).is
    exact(bj MF hC).symm
   have d8:bY H8 d:=(d7.same (Same.new (o:=.lst [.str "ora",.str "orb",.str "ort",.str "orz",.str "orr",.str "oro",.str "ors"]) hS)).kb k8 Z0.symm
   refine⟨_,rfl,_,rfl,_,rfl,d,m,rfl,d8,by omega,fun r' H9 B9 r1' k9 d9=>?_⟩
   have n9:=k9 _ _ n8 rN
   obtain⟨q,hq⟩:∃q:Nat,r'=(q:Int):=⟨r'.toNat,by omega⟩
   subst hq
   refine⟨N,_,_,q,rfl,rfl,n9,?_,?_⟩
   ·unfold tE;rw[if_pos (by omega),List.length_map,if_pos (by omega)];rfl
   have Z1:y ∉ ss:=by
    have:y∈seven.filter fun c=> !(inV (.str c) (ss.map V.str)):=by rw[hy];exact List.mem_cons_self
    have:=(List.mem_filter.mp this).2
    rw[mV] at this
    intro z
    rw[decide_eq_true z] at this
    cases this
   have hg':g=false:=by cases g<;>first | rfl | exact absurd hgf (by decide)
   have hys:y∈seven:=(List.mem_filter.mp (by rw[hy];exact List.mem_cons_self:y∈seven.filter fun c=> !(inV (.str c) (ss.map V.str)))).1
   refine fin _ _ ⟨ss.set q y,_,_,_,rfl,?_,d9.kb KB.write rN.symm,?_,?_,Fx nd Z1 q,fun x hx=>?_⟩
   ·intro b o e n
    have n1:b≠N:=bj e MD
    rw[bz n1]
    have e7:=Rk b o e n
    have n2:b≠S:=bj e7 hS
    have Rm:=(Same.new (o:=.lst [.str "ora",.str "orb",.str "ort",.str "orz",.str "orr",.str "oro",.str "ors"]) hS) _ _ e7
    exact k9 _ _ (k8 _ _ Rm (bj Rm hC)) n
   ·rw[ag,List.map_set]
   ·rw[List.length_set,ls]
   ·rcases List.mem_or_eq_of_mem_set hx with z | z
    ·exact nk x z
    ·rw[z,hg'];exact HU y hys
structure gk where
 D:Addr
 c1:Addr
 c2:Addr
 c3:Addr
 c4:Addr
 f1:Addr
 f2:Addr
 f3:Addr
 f4:Addr
 Ro:FuncData
 fd2:FuncData
 Rp:FuncData
 MG:FuncData
abbrev zk:Stmt:=inClass (top 2) 0
abbrev zm:Stmt:=inClass (top 3) 0
abbrev zo:Stmt:=inClass (top 4) 0
abbrev vG:Stmt:=inClass (top 5) 0
structure TX (K:PySem.W.Frag) (mg:Str→Option Value) (x:gk):Prop where
 xD:XC K x.D fq
 iD:XI K x.D
 mD:mg "JudgeError"=some (.ref x.D)
 zV:mg "ValueError"=none
 x1:XC K x.c1 (.ref x.D::fq)
 x2:XC K x.c2 (.ref x.D::fq)
 x3:XC K x.c3 (.ref x.D::fq)
 x4:XC K x.c4 (.ref x.D::fq)
 M1:XM K x.c1 x.f1
 M2:XM K x.c2 x.f2
 M3:XM K x.c3 x.f3
 M4:XM K x.c4 x.f4
 m1:mg "NoRow"=some (.ref x.c1)
 m2:mg "NoSaying"=some (.ref x.c2)
 m3:mg "TooMany"=some (.ref x.c3)
 m4:mg "NoText"=some (.ref x.c4)
 F1:cF K "__init__" "NoRow.__init__" zk x.f1 x.Ro
 F2:cF K "__init__" "NoSaying.__init__" zm x.f2 x.fd2
 F3:cF K "__init__" "TooMany.__init__" zo x.f3 x.Rp
 F4:cF K "__init__" "NoText.__init__" vG x.f4 x.MG
 b1:Binds K x.Ro ["self","name"] []
 b2:Binds K x.fd2 ["self","place"] []
 b3:Binds K x.Rp ["self","place"] []
 b4:Binds K x.MG ["self"] []
 n1:PySem.W.findIn K (.ref x.c1) "name"=some none
 n2:PySem.W.findIn K (.ref x.c2) "place"=some none
 n3:PySem.W.findIn K (.ref x.c3) "place"=some none
 ne:[x.c1,x.c2,x.c3,x.c4,x.D].Nodup
 vW:∃h:Heap,K.In h
def B' (K:PySem.W.Frag):Sp:=fun vs H Q _=>∃(a C:Addr) (bm:List Value),vs=[.ref a]∧H a=some (xo true a C none)∧XC K C bm∧Q .non H
theorem PK:bh ["self"] ["self"] (aw vG):=⟨rfl,rfl,rfl,by decide+kernel,rfl,by decide+kernel,by decide+kernel⟩
theorem uU {x:gk} (T:TX K mg x):a_ P w K mg base dq 1 x.f4 x.MG ["self"] (B' K):=by
 refine T.F4.ok (k:=0) PK (fun vs H Q E h=>?_) (fun cdv A outer s H vs Q E hr h=>?_)
 ·obtain⟨a,C,bm,rfl,_⟩:=h
  rfl
 ·obtain⟨a,C,bm,rfl,Ha,c,k⟩:=h
  refine⟨_,(aD (dZ (Px T.iD (by rfl) T.mD (ae (pv 0) af)))),?_⟩
  exact⟨_,rfl,a,C,none,bm,[],rfl,by simp,Ha,c,k⟩
def kC (z:Str):Prop:=(∀c∈z.cps.toList,c<128)∧z.length≤100000
theorem kC.all {z:Str} (h:kC z):z.cps.all (· <128)=true:=by
 rw[Array.all_eq_true]
 intro i hi
 exact decide_eq_true (h.1 _ (by rw[←Array.getElem_toList];exact List.getElem_mem _))
def cP (c:Nat):Bool:=decide (48≤c)&&decide (c≤57)
def dig (z:Str):Option Nat:=match z.cps.toList with
 | [c]=>if cP c then some (c-48) else none
 | _=>none
theorem sS {z:Str} {c:Nat} (e:z.cps.toList=[c]):dig z=if cP c then some (c-48) else none:=by unfold dig;rw[e]
theorem Ca {z:Str} (h:z.length≠1):dig z=none:=by
 unfold dig
 split
 ·rename_i c e
  have:z.cps.toList.length=1:=by rw[e];rfl
  rw[cU] at this
  exact absurd this h
 ·rfl
theorem one_sign {z:Str} (h:z.length=1):∃c,z=⟨#[c]⟩:=by
 have hl:z.cps.toList.length=1:=by rw[cU];exact h
 match e:z.cps.toList,hl with
 | [c],_=>exact⟨c,cI e⟩
theorem Cb {c:Nat} (h:cP c=true):PySem.intText? ⟨#[c]⟩=some ((c-48:Nat):Int):=by
 have key:∀k:Fin 10,PySem.intText? ⟨#[k.val+48]⟩=some ((k.val:Nat):Int):=by decide+kernel
 unfold cP at h
 rw[Bool.and_eq_true] at h
 have h1:=of_decide_eq_true h.1
 have h2:=of_decide_eq_true h.2
 have:=key ⟨c-48,by omega⟩
 rw[show(c-48)+48=c by omega] at this
 exact this
theorem sT (c:Nat):(c∈("0123456789":Str).cps.toList)↔cP c=true:=by
 have e:("0123456789":Str).cps.toList=[48,49,50,51,52,53,54,55,56,57]:=by decide+kernel
 rw[e]
 unfold cP
 rw[Bool.and_eq_true,decide_eq_true_eq,decide_eq_true_eq]
 simp only[List.mem_cons,List.not_mem_nil,or_false]
 omega
def Rz (c:Addr) (H:Hp) (E:XK):Prop:=∀H' a,Same H H'→H' a=some (xo false a c none)→E (.ref a) none H'
theorem Rz.same {c:Addr} {H H':Hp} {E:XK} (h:Rz c H E) (s:Same H H'):Rz c H' E:=fun H2 a s2 e=>h H2 a (s.trans s2) e
theorem gm {K:PySem.W.Frag} {mg:Str→Option Value} {x:gk} {H:Hp} {E:XK} {D:Ends} {σ:St} (TE:TX K mg x) (rz:Rz x.c4 H E):Rb K x.c4 (Ra x.c4 (B' K) jH) E D σ H:=fun y hy=>by
 refine⟨y,x.c4,_,rfl,ag,TE.x4,rfl,y,none,rfl,ag,rz _ y (fun b o e=>?_) ag⟩
 have n:b≠y:=bj e hy
 rw[bz n,bz n]
 exact e
def ju (x y:Str):Bool:=x.cps.toList.all fun c=>decide (c∈y.cps.toList)
def MH:Sp:=fun vs H Q _=>∃x y:Str,vs=[.str x,.str y]∧kC x∧∀H',Same H H'→Q (.bl (ju x y)) H'
def nameB (y x:Str):Bool:=decide (1≤x.length)&&(decide (x.length≤3)&&(ju x y&& !decide (x∈(["not","and","or"]:List Str))))
def uV (c4:Addr):Sp:=fun vs H Q E=>∃x y:Str,vs=[.str x,.str y]∧kC x∧(nameB y x=true→∀H',Same H H'→Q (.str x) H')∧(nameB y x=false→Rz c4 H E)
def zp (c4:Addr):Sp:=fun vs H Q E=>∃z:Str,vs=[.str z]∧z.length≤100000∧(∀n,dig z=some n→∀H',Same H H'→Q (.int (n:Nat)) H')∧(dig z=none→Rz c4 H E)
def dk {α β:Type} (f:α→Option β):List α→Option (List β)
 | []=>some []
 | x::r=>match f x,dk f r with
  | some y,some ys=>some (y::ys)
  | _,_=>none
theorem wX {α β:Type} {f:α→Option β} {x:α} {y:β}:∀{l:List α} {ys:List β},dk f l=some ys→f x=some y→dk f (l++[x])=some (ys++[y])
 | [],ys,h,e=>by
  have:ys=[]:=(Option.some.inj h).symm
  subst this
  show dk f [x]=_
  unfold dk dk
  rw[e];rfl
 | a::l,ys,h,e=>by
  unfold dk at h
  cases h1:f a with
  | none=>rw[h1] at h;cases h
  | some b=>
   cases h2:dk f l with
   | none=>rw[h1,h2] at h;cases h
   | some bs=>
    rw[h1,h2] at h
    have:b::bs=ys:=Option.some.inj h
    subst this
    have:=wX (f:=f) h2 e
    show dk f (a::(l++[x]))=_
    unfold dk
    rw[h1,this]
    rfl
theorem rO {α β:Type} {f:α→Option β} {x:α}:∀{l:List α},x∈l→f x=none→dk f l=none
 | a::l,h,e=>by
  unfold dk
  rcases List.mem_cons.mp h with z | z
  ·rw[←z,e]
  ·rw[rO z e]
   cases f a<;>rfl
theorem ub {α β:Type} {f:α→Option β}:∀{l:List α} {ys:List β},dk f l=some ys→ys.length=l.length
 | [],ys,h=>by
  have:ys=[]:=(Option.some.inj h).symm
  subst this;rfl
 | a::l,ys,h=>by
  unfold dk at h
  cases h1:f a with
  | none=>rw[h1] at h;cases h
  | some b=>
   cases h2:dk f l with
   | none=>rw[h1,h2] at h;cases h
   | some bs=>
    rw[h1,h2] at h
    have:b::bs=ys:=Option.some.inj h
    subst this
    rw[List.length_cons,List.length_cons,ub h2]
theorem Fy {c:Nat}:∀{xs:List (List Nat)} {x:List Nat},x∈xs→x.length≤(jn c xs).length
 | [y],x,h=>by rw[List.mem_singleton.mp h];exact Nat.le_refl _
 | y::z::r,x,h=>by
  show x.length≤(y++c::jn c (z::r)).length
  rw[List.length_append,List.length_cons]
  rcases List.mem_cons.mp h with e | e
  ·rw[e];omega
  ·have:=Fy (c:=c) e;omega
theorem Fz {c d:Nat}:∀{xs:List (List Nat)} {x:List Nat},x∈xs→d∈x→d∈jn c xs
 | [y],x,h,hd=>by rw[←List.mem_singleton.mp h];exact hd
 | y::z::r,x,h,hd=>by
  show d∈y++c::jn c (z::r)
  rcases List.mem_cons.mp h with e | e
  ·exact List.mem_append_left _ (e▸hd)
  ·exact List.mem_append_right _ (List.mem_cons_of_mem _ (Fz e hd))
theorem K_ {c:Nat} {z p:Str} (h:p∈spl c z):p.length≤z.length:=by
 rw[←cU,←cU z,←mH c z]
 exact Fy (List.mem_map.mpr ⟨p,h,rfl⟩)
theorem vH {c:Nat}:∀xs:List (List Nat),xs.length≤(jn c xs).length+1
 | []=>Nat.zero_le _
 | [_]=>by simp
 | y::z::r=>by
  have:=vH (c:=c) (z::r)
  show _≤(y++c::jn c (z::r)).length+1
  rw[List.length_append,List.length_cons]
  rw[List.length_cons] at this ⊢
  rw[List.length_cons]
  omega
theorem HW {c:Nat} {z:Str}:(spl c z).length≤z.length+1:=by
 have:=vH (c:=c) ((spl c z).map fun x=>x.cps.toList)
 rw[mH,List.length_map,cU] at this
 exact this
theorem kC.part {c:Nat} {z p:Str} (h:kC z) (hp:p∈spl c z):kC p:=by
 refine⟨fun d hd=>h.1 d ?_,Nat.le_trans (K_ hp) h.2⟩
 rw[←mH c z]
 exact Fz (List.mem_map.mpr ⟨p,hp,rfl⟩) hd
def aG:Str:="ABCDEFGHIJKLMNOPQRSTUVWXYZ"
abbrev ak (z:Str):List Nat:=z.cps.toList
theorem FA {α β:Type} {f:α→Option β} {x:α} {l:List α} {ys:List β} (h:dk f (x::l)=some ys):∃y r,ys=y::r∧f x=some y∧dk f l=some r:=by
 unfold dk at h
 cases h1:f x with
 | none=>rw[h1] at h;cases h
 | some b=>
  cases h2:dk f l with
  | none=>rw[h1,h2] at h;cases h
  | some bs=>
   rw[h1,h2] at h
   exact⟨b,bs,(Option.some.inj h).symm,rfl,rfl⟩
theorem zq {α β:Type} {f:α→Option β} {R:α→β→Prop} (hR:∀x y,f x=some y→R x y):∀{l:List α} {ys:List β},dk f l=some ys→Paired R l ys
 | [],ys,h=>by
  have:ys=[]:=(Option.some.inj h).symm
  subst this;exact .nil
 | a::l,ys,h=>by
  obtain⟨y,r,rfl,h1,h2⟩:=FA h
  exact .cons (hR _ _ h1) (zq hR h2)
theorem Cc {α β:Type} {f:α→Option β}:∀{l:List α} {ys:List β},Paired (fun x y=>f x=some y) l ys→dk f l=some ys
 | _,_,.nil=>rfl
 | _,_,.cons h t=>by
  unfold dk
  rw[h,Cc t]
theorem uW {α β γ:Type} {R:α→β→Prop} {f:α→γ} {g:β→γ} (hR:∀x y,R x y→f x=g y):∀{l:List α} {ys:List β},Paired R l ys→l.map f=ys.map g
 | _,_,.nil=>rfl
 | _,_,.cons h t=>by rw[List.map_cons,List.map_cons,hR _ _ h,uW hR t]
theorem uX {α β:Type} {R:α→β→Prop}:∀{l:List α} {ys:List β} {y:β},Paired R l ys→y∈ys→∃x∈l,R x y
 | _,_,y,.cons h t,hy=>by
  rcases List.mem_cons.mp hy with e | e
  ·exact⟨_,List.mem_cons_self,e▸h⟩
  ·obtain⟨x,hx,r⟩:=uX t e
   exact⟨x,List.mem_cons_of_mem _ hx,r⟩
theorem qI {α β:Type} {R:α→β→Prop} {f:β→α}:∀{ys:List β},(∀y∈ys,R (f y) y)→Paired R (ys.map f) ys
 | [],_=>.nil
 | y::ys,h=>.cons (h y List.mem_cons_self) (qI fun z hz=>h z (List.mem_cons_of_mem _ hz))
def txt (l:List Nat):Str:=⟨l.toArray⟩
theorem aN (l:List Nat):ak (txt l)=l:=by unfold ak txt;simp
theorem fV (z:Str):txt (ak z)=z:=cI (aN _)
theorem tN:aG.cps.toList=(List.range 26).map (65+ ·):=by decide+kernel
theorem wY {c:Nat} (h:c∈aG.cps.toList):65≤c∧c≤90:=by
 rw[tN] at h
 obtain⟨k,hk,rfl⟩:=List.mem_map.mp h
 have:=List.mem_range.mp hk
 omega
theorem cg {x:Str} (h:nameB aG x=true):1≤x.length∧x.length≤3∧∀c∈ak x,65≤c∧c≤90:=by
 unfold nameB at h
 simp only[Bool.and_eq_true,decide_eq_true_eq] at h
 refine⟨h.1,h.2.1,fun c hc=>wY ?_⟩
 have:=List.all_eq_true.mp h.2.2.1 c hc
 exact of_decide_eq_true this
def rising (ns:List Str):Bool:=PyProof.Rows.sortedS ns&&decide ns.Nodup
theorem rP {K:PySem.W.Frag} {H:Hp}:∀l:List Str,aL K H (l.map V.str) (l.map Dt.str)
 | []=>by simp[aL]
 | x::l=>by rw[List.map_cons,List.map_cons,aL];exact⟨by rw[aA],rP l⟩
theorem wZ:∀l m:List Str,Dt.dH (l.map Dt.str) (m.map Dt.str)=decide (l=m)
 | [],[]=>by simp[Dt.dH]
 | [],_::_=>by simp[Dt.dH]
 | _::_,[]=>by simp[Dt.dH]
 | x::l,y::m=>by
  rw[List.map_cons,List.map_cons,Dt.dH,wZ l m,Dt.beq]
  by_cases e:x=y<;>by_cases e2:l=m<;>simp[e,e2]
theorem w_:∀l:List Str,Dt.deps (l.map Dt.str)=0
 | []=>by simp[Dt.deps]
 | x::l=>by rw[List.map_cons,Dt.deps,w_ l];simp[Dt.dep]
theorem DD {ns ks ss:List Str} (p:ss.Perm ks) (nd:ks.Nodup) (m:∀y,y∈ks↔y∈ns) (so:PyProof.Rows.sortedS ss=true):decide (ns=ss)=rising ns:=by
 have Jx:ss.Nodup:=p.nodup_iff.mpr nd
 have ms:∀y,y∈ss↔y∈ns:=fun y=>(p.mem_iff).trans (m y)
 unfold rising
 by_cases e:ns=ss
 ·rw[decide_eq_true e,e,so,decide_eq_true Jx];rfl
 ·rw[decide_eq_false e]
  cases h1:PyProof.Rows.sortedS ns with
  | false=>rfl
  | true=>
   by_cases h2:ns.Nodup
   ·exact absurd (tK h1 so h2 Jx fun y=>(ms y).symm) e
   ·rw[decide_eq_false h2];rfl
theorem vI {n:Nat} (h:n<10):ak (Str.ofString (toString ((n:Nat):Int)))=[48+n]:=by
 have key:∀k:Fin 10,(Str.ofString (toString ((k.val:Nat):Int))).cps.toList=[48+k.val]:=by decide+kernel
 exact key ⟨n,h⟩
theorem Cd {n:Nat} (h:n<10):((n:Nat):Int).natAbs.log2<1920:=by
 have key:∀k:Fin 10,((k.val:Nat):Int).natAbs.log2<1920:=by decide+kernel
 exact key ⟨n,h⟩
theorem Ce {n:Nat} (h:n<10):(Str.ofString (toString ((n:Nat):Int))).length=1:=by rw[←cU,show(Str.ofString (toString ((n:Nat):Int))).cps.toList=[48+n] from vI h];rfl
theorem aI (a b:Str):ak (a++b)=ak a++ak b:=mG a b
theorem bC (a:Str):a.length=(ak a).length:=(cU a).symm
theorem vJ {c:Nat}:∀xs:List (List Nat),(jn c xs).length≤(xs.map List.length).sum+xs.length
 | []=>by simp[jn]
 | [x]=>by simp[jn]
 | x::y::r=>by
  have:=vJ (c:=c) (y::r)
  show(x++c::jn c (y::r)).length≤_
  rw[List.length_append,List.length_cons,List.map_cons,List.sum_cons,List.length_cons]
  omega
theorem zr {l:List Nat} {k:Nat} (h:∀x∈l,x≤k):l.sum≤l.length*k:=by
 induction l with
 | nil=>simp
 | cons a r ih=>
  have h1:=h a List.mem_cons_self
  have h2:=ih fun x hx=>h x (List.mem_cons_of_mem _ hx)
  rw[List.sum_cons,List.length_cons,Nat.succ_mul]
  omega
theorem K0 {l:List Str} {k:Nat} (h:∀x∈l,x.length≤k):(l.map (·.length)).sum≤l.length*k:=by
 have:=zr (l:=l.map (·.length)) (k:=k) (fun y hy=>by
  obtain⟨z,hz,rfl⟩:=List.mem_map.mp hy
  exact h z hz)
 rw[List.length_map] at this
 exact this
theorem cJ (l:List Nat):(txt l).length=l.length:=by rw[bC,aN]
theorem FC {d c:Nat}:∀{xs:List (List Nat)},c∈jn d xs→c=d∨∃x∈xs,c∈x
 | [],h=>by cases h
 | [x],h=>.inr ⟨x,List.mem_singleton.mpr rfl,h⟩
 | x::y::r,h=>by
  rcases List.mem_append.mp (show c∈x++d::jn d (y::r) from h) with q | q
  ·exact .inr ⟨x,List.mem_cons_self,q⟩
  ·rcases List.mem_cons.mp q with e | e
   ·exact .inl e
   ·rcases FC e with z | ⟨z,hz,hc⟩
    ·exact .inl z
    ·exact .inr ⟨z,List.mem_cons_of_mem _ hz,hc⟩
theorem DE {x:Str} (h:ql true x):nameB aG x=true:=by
 obtain⟨h1,h2,h3,h4⟩:=h
 unfold nameB
 rw[decide_eq_true h1,decide_eq_true h2,decide_eq_false h4]
 have:ju x aG=true:=by
  unfold ju
  rw[List.all_eq_true]
  exact fun c hc=>decide_eq_true (h3 c hc)
 rw[this];rfl
theorem HX {l:List Str} {k n:Nat} (h:∀x∈l,x.length≤k) (hn:l.length≤n):(l.map (·.length)).sum≤n*k:=Nat.le_trans (K0 h) (Nat.mul_le_mul_right k hn)
def au:Str:="abcdefghijklmnopqrstuvwxyz"
theorem Bh:au.cps.toList=[97,98,99,100,101,102,103,104,105,106,107,108,109,110,111,112,113,114,115,116,117,118,119,120,121,122]:=by decide+kernel
def bD (c:Nat):Bool:=decide (97≤c)&&decide (c≤122)
def bu (c:Nat):Bool:=decide (65≤c)&&decide (c≤90)
def cK (c:Nat):Bool:=bD c||(cP c||decide (c=43))
theorem dc {c:Nat}:bD c=true↔97≤c∧c≤122:=by unfold bD;rw[Bool.and_eq_true,decide_eq_true_eq,decide_eq_true_eq]
theorem gn {c:Nat}:bu c=true↔65≤c∧c≤90:=by unfold bu;rw[Bool.and_eq_true,decide_eq_true_eq,decide_eq_true_eq]
theorem dO {c:Nat}:cP c=true↔48≤c∧c≤57:=by unfold cP;rw[Bool.and_eq_true,decide_eq_true_eq,decide_eq_true_eq]
theorem i6 {c:Nat}:cK c=true↔(97≤c∧c≤122)∨(48≤c∧c≤57)∨c=43:=by unfold cK;rw[Bool.or_eq_true,Bool.or_eq_true,dc,dO,decide_eq_true_eq]
theorem rQ (c:Nat):(c∈au.cps.toList)↔bD c=true:=by
 rw[Bh,dc]
 constructor
 ·intro h;simp only[List.mem_cons,List.not_mem_nil,or_false] at h;omega
 ·intro h;simp only[List.mem_cons,List.not_mem_nil,or_false];omega
theorem bR {x:Str} (h:nameB au x=true):1≤x.length∧x.length≤3∧(∀c∈ak x,bD c=true)∧x ∉ (["not","and","or"]:List Str):=by
 unfold nameB at h
 simp only[Bool.and_eq_true,decide_eq_true_eq,Bool.not_eq_true',decide_eq_false_iff_not] at h
 refine⟨h.1,h.2.1,fun c hc=>(rQ c).mp ?_,h.2.2.2⟩
 have:=List.all_eq_true.mp h.2.2.1 c hc
 exact of_decide_eq_true this
theorem xa (y:Str):nameB y (txt [])=false:=by
 unfold nameB
 rw[show decide (1≤(txt []).length)=false from rfl,Bool.false_and]
def fc (n:Nat):List Nat:=if n<10 then [48+n] else [48+n / 10,48+n % 10]
def dP:List Nat→Option Nat
 | [c]=>if cP c=true then some (c-48) else none
 | [c,d]=>if cP c=true∧cP d=true∧c≠48 then some ((c-48)*10+(d-48)) else none
 | _=>none
theorem lV {l:List Nat} {n:Nat} (h:dP l=some n):n<100∧l=fc n:=by
 unfold dP at h
 split at h
 ·rename_i c
  by_cases hc:cP c=true
  ·rw[if_pos hc] at h
   have hc:=dO.mp hc
   have:=Option.some.inj h
   refine⟨by omega,?_⟩
   unfold fc
   rw[if_pos (by omega),show 48+n=c by omega]
  ·rw[if_neg hc] at h;cases h
 ·rename_i c d
  by_cases hc:cP c=true∧cP d=true∧c≠48
  ·rw[if_pos hc] at h
   have h1:=dO.mp hc.1
   have h2:=dO.mp hc.2.1
   have h3:=hc.2.2
   have:=Option.some.inj h
   refine⟨by omega,?_⟩
   unfold fc
   rw[if_neg (by omega),show 48+n / 10=c by omega,show 48+n % 10=d by omega]
  ·rw[if_neg hc] at h;cases h
 ·cases h
theorem K1 {n:Nat} (h:n<100):dP (fc n)=some n:=by
 have:∀k:Fin 100,dP (fc k.val)=some k.val:=by decide+kernel
 exact this ⟨n,h⟩
theorem uc {n:Nat} (h:n<100):∀c∈fc n,cP c=true:=by
 have:∀k:Fin 100,∀c∈fc k.val,cP c=true:=by decide+kernel
 exact this ⟨n,h⟩
theorem qm {n:Nat}:(fc n).length≤2∧1≤(fc n).length:=by unfold fc;split<;>simp
theorem zt {l:List Nat} {c:Nat} (hc:c∈l) (h:cP c=false):dP l=none:=by
 cases e:dP l with
 | none=>rfl
 | some n=>
  obtain⟨h1,h2⟩:=lV e
  rw[h2] at hc
  rw[uc h1 c hc] at h
  cases h
theorem HY {n:Nat} (h:n<100):ak (Str.ofString (toString ((n:Nat):Int)))=fc n:=by
 have:∀k:Fin 100,ak (Str.ofString (toString ((k.val:Nat):Int)))=fc k.val:=by decide+kernel
 exact this ⟨n,h⟩
theorem FD {n:Nat} (h:fc n=[48]):n=0:=by
 unfold fc at h
 split at h
 ·have:=List.cons.inj h;omega
 ·simp at h
def bS (p:Str×Int):List Nat:=(if p.2=1 then [] else [48+p.2.toNat])++ak p.1
def bU (t:Term):List (List Nat):=t.parts.map bS++(if t.num≠0∨t.parts=[] then [fc t.num.toNat] else [])
def aX (t:Term):List Nat:=jn 43 (bU t)
def jv (p:Str×Int):Prop:=nameB au p.1=true∧1≤p.2∧p.2≤9
def bT (t:Term):Prop:=(0≤t.num∧t.num<100)∧rising (t.parts.map (·.1))=true∧∀p∈t.parts,jv p
def dA (x:Str):Option (Str×Int):=match ak x with
 | c::r=>if 50≤c∧c≤57 then(if nameB au (txt r)=true then some (txt r,((c-48:Nat):Int)) else none) else(if nameB au x=true then some (x,1) else none)
 | []=>none
theorem Bi {x:Str} {p:Str×Int} (h:dA x=some p):jv p∧ak x=bS p:=by
 unfold dA at h
 split at h
 ·rename_i c r e
  by_cases hc:50≤c∧c≤57
  ·rw[if_pos hc] at h
   by_cases hn:nameB au (txt r)=true
   ·rw[if_pos hn] at h
    cases h
    refine⟨⟨hn,by show(1:Int)≤((c-48:Nat):Int);omega,by show((c-48:Nat):Int)≤9;omega⟩,?_⟩
    unfold bS
    rw[if_neg (by show ¬((c-48:Nat):Int)=1;omega)]
    show ak x=[48+((c-48:Nat):Int).toNat]++ak (txt r)
    rw[aN,e,show 48+((c-48:Nat):Int).toNat=c by omega];rfl
   ·rw[if_neg hn] at h;cases h
  ·rw[if_neg hc] at h
   by_cases hn:nameB au x=true
   ·rw[if_pos hn] at h
    cases h
    refine⟨⟨hn,by show(1:Int)≤1;decide,by show(1:Int)≤9;decide⟩,?_⟩
    unfold bS
    rw[if_pos rfl];rfl
   ·rw[if_neg hn] at h;cases h
 ·cases h
theorem rR {x:Str} (h:nameB au x=true):∃c r,ak x=c::r∧97≤c∧c≤122:=by
 obtain⟨h1,_,h3,_⟩:=bR h
 cases e:ak x with
 | nil=>rw[bC,e] at h1;exact absurd h1 (by decide)
 | cons c r=>exact⟨c,r,rfl,dc.mp (h3 c (by rw[e];exact List.mem_cons_self))⟩
theorem zu {p:Str×Int} (h:jv p):dA (txt (bS p))=some p:=by
 obtain⟨h1,h2,h3⟩:=h
 obtain⟨c,r,e,hc1,hc2⟩:=rR h1
 unfold dA
 rw[aN]
 unfold bS
 by_cases h:p.2=1
 ·rw[if_pos h,List.nil_append,e]
  dsimp only
  rw[if_neg (by omega),←e,fV,if_pos h1,←h]
 ·rw[if_neg h]
  rw[List.singleton_append]
  dsimp only
  rw[if_pos (by omega),fV,if_pos h1,show((48+p.2.toNat-48:Nat):Int)=p.2 by omega]
theorem FE {p:Str×Int} (h:jv p):∀c∈bS p,bD c=true∨cP c=true:=by
 intro c hc
 unfold bS at hc
 rcases List.mem_append.mp hc with q | q
 ·by_cases h1:p.2=1
  ·rw[if_pos h1] at q;cases q
  ·rw[if_neg h1] at q
   have:=List.mem_singleton.mp q
   have h2:=h.2
   exact .inr (dO.mpr (by omega))
 ·exact .inl ((bR h.1).2.2.1 c q)
theorem Bj {p:Str×Int} (h:jv p):∃c∈bS p,bD c=true:=by
 obtain⟨c,r,e,hc⟩:=rR h.1
 exact⟨c,by unfold bS;rw[e];simp,dc.mpr hc⟩
theorem xb {t:Term} (h:bT t):∀w∈bU t,∀c∈w,bD c=true∨cP c=true:=by
 intro w hw c hc
 unfold bU at hw
 rcases List.mem_append.mp hw with q | q
 ·obtain⟨p,hp,rfl⟩:=List.mem_map.mp q
  exact FE (h.2.2 p hp) c hc
 ·split at q
  ·rw[List.mem_singleton.mp q] at hc
   exact .inr (uc (by have:=h.1;omega) c hc)
  ·cases q
theorem HZ (t:Term):bU t≠[]:=by
 unfold bU
 intro z
 have:=List.append_eq_nil_iff.mp z
 have h1:t.parts=[]:=List.map_eq_nil_iff.mp this.1
 have h2:=this.2
 rw[if_pos (.inr h1)] at h2
 cases h2
theorem jU {t:Term} (h:bT t):∀c∈aX t,cK c=true:=by
 intro c hc
 unfold aX at hc
 rcases FC hc with e | ⟨w,hw,hcw⟩
 ·exact i6.mpr (.inr (.inr e))
 ·rcases xb h w hw c hcw with q | q
  ·exact i6.mpr (.inl (dc.mp q))
  ·exact i6.mpr (.inr (.inl (dO.mp q)))
def cq (x:Str):Int×List Str:=match dP (ak ((spl 43 x).getLastD (txt []))) with
 | some n=>if x=Str.ofString "0"∨(spl 43 x).getLastD (txt [])≠Str.ofString "0" then((n:Int),(spl 43 x).dropLast) else(0,spl 43 x)
 | none=>(0,spl 43 x)
def di (x:Str):Option Term:=match dk dA (cq x).2 with
 | some ps=>if rising (ps.map (·.1))=true then some ⟨(cq x).1,ps⟩ else none
 | none=>none
theorem ud:ak (Str.ofString "0")=[48]:=by decide+kernel
theorem qo {l:List Str} (h:l≠[]):l=l.dropLast++[l.getLastD (txt [])]:=by
 rw[List.getLastD_eq_getLast?,List.getLast?_eq_some_getLast h]
 exact(List.dropLast_concat_getLast h).symm
theorem Bk {x:Str} {t:Term} (h:di x=some t):bT t∧ak x=aX t:=by
 unfold di at h
 cases e:dk dA (cq x).2 with
 | none=>rw[e] at h;cases h
 | some ps=>
  rw[e] at h
  dsimp only at h
  by_cases hr:rising (ps.map (·.1))=true
  ·rw[if_pos hr] at h
   cases h
   have pr:=zq (R:=fun w p=>jv p∧ak w=bS p) (fun w p h=>Bi h) e
   have ok:∀p∈ps,jv p:=fun p hp=>by obtain⟨w,_,r⟩:=uX pr hp;exact r.1
   have em:(cq x).2.map ak=ps.map bS:=uW (fun _ _ h=>h.2) pr
   have hj:=mH 43 x
   have ls:=qo (pF 43 x)
   unfold cq at em ⊢
   cases en:dP (ak ((spl 43 x).getLastD (txt []))) with
   | none=>
    rw[en] at em
    dsimp only at em ⊢
    refine⟨⟨⟨by show(0:Int)≤0;decide,by show(0:Int)<100;decide⟩,hr,ok⟩,?_⟩
    show x.cps.toList=jn 43 (bU ⟨0,ps⟩)
    rw[←hj]
    unfold bU
    have MI:ps≠[]:=fun z=>by
     rw[z] at em
     exact pF 43 x (List.map_eq_nil_iff.mp em)
    rw[if_neg (by rintro(z | z);exact z rfl;exact MI z),List.append_nil]
    exact congrArg (jn 43) em
   | some n=>
    rw[en] at em
    dsimp only at em ⊢
    obtain⟨adh,el⟩:=lV en
    by_cases hc:x=Str.ofString "0"∨(spl 43 x).getLastD (txt [])≠Str.ofString "0"
    ·rw[if_pos hc] at em ⊢
     dsimp only at em ⊢
     refine⟨⟨⟨by show(0:Int)≤(n:Int);omega,by show(n:Int)<100;omega⟩,hr,ok⟩,?_⟩
     show x.cps.toList=jn 43 (bU ⟨(n:Int),ps⟩)
     rw[←hj]
     unfold bU
     have cond:((n:Int)≠0∨ps=[]):=by
      rcases hc with hc | hc
      ·right
       have:spl 43 x=[Str.ofString "0"]:=yS (by simp) (by decide+kernel) (by rw[hc];decide+kernel)
       rw[this] at em
       exact List.map_eq_nil_iff.mp em.symm
      ·left
       intro z
       have z':n=0:=by omega
       rw[z'] at el
       exact hc (cI (by show ak _=ak _;rw[el,ud];rfl))
     rw[if_pos cond,ls,List.map_append]
     show jn 43 ((spl 43 x).dropLast.map ak++[ak ((spl 43 x).getLastD (txt []))])=_
     rw[em,el];rfl
    ·rw[if_neg hc] at em ⊢
     dsimp only at em ⊢
     refine⟨⟨⟨by show(0:Int)≤0;decide,by show(0:Int)<100;decide⟩,hr,ok⟩,?_⟩
     show x.cps.toList=jn 43 (bU ⟨0,ps⟩)
     rw[←hj]
     unfold bU
     have MI:ps≠[]:=fun z=>by
      rw[z] at em
      exact pF 43 x (List.map_eq_nil_iff.mp em)
     rw[if_neg (by rintro(z | z);exact z rfl;exact MI z),List.append_nil]
     exact congrArg (jn 43) em
  ·rw[if_neg hr] at h;cases h
theorem mW {t:Term} (h:bT t):di (txt (aX t))=some t:=by
 have e1:spl 43 (txt (aX t))=(bU t).map txt:=by
  refine yS (by simpa using HZ t) (fun p hp=>?_) ?_
  ·obtain⟨w,hw,rfl⟩:=List.mem_map.mp hp
   show 43 ∉ ak (txt w)
   rw[aN]
   intro z
   rcases xb h w hw 43 z with q | q
   ·have:=dc.mp q;omega
   ·have:=dO.mp q;omega
  ·show ak (txt (aX t))=_
   rw[aN,List.map_map]
   show jn 43 (bU t)=_
   congr 1
   rw[show((fun x:Str=>x.cps.toList)∘txt)=id from funext fun l=>aN l,List.map_id]
 have em:dk dA (t.parts.map fun p=>txt (bS p))=some t.parts:=Cc (qI fun p hp=>zu (h.2.2 p hp))
 have key:cq (txt (aX t))=(t.num,t.parts.map fun p=>txt (bS p)):=by
  unfold cq
  rw[e1]
  unfold bU
  by_cases hc:t.num≠0∨t.parts=[]
  ·rw[if_pos hc,List.map_append,List.map_map]
   rw[List.map_cons,List.map_nil]
   have el:(t.parts.map (txt∘bS)++[txt (fc t.num.toNat)]).getLastD (txt [])=txt (fc t.num.toNat):=by rw[List.getLastD_concat]
   have ed:(t.parts.map (txt∘bS)++[txt (fc t.num.toNat)]).dropLast=t.parts.map fun p=>txt (bS p):=by rw[List.dropLast_concat];rfl
   rw[el,aN,K1 (by have:=h.1;omega)]
   dsimp only
   rw[ed,if_pos,show((t.num.toNat:Nat):Int)=t.num by have:=h.1;omega]
   by_cases hz:t.num=0
   ·left
    have hp:t.parts=[]:=hc.resolve_left (fun z=>z hz)
    refine cI ?_
    show ak _=ak _
    rw[aN,ud]
    unfold aX bU
    rw[if_pos hc,hp,hz];rfl
   ·right
    intro z
    have:=congrArg ak z
    rw[aN,ud] at this
    have:=FD this
    have:=h.1
    omega
  ·rw[if_neg hc,List.append_nil,List.map_map]
   have hz:t.num=0:=Decidable.not_not.mp fun z=>hc (.inl z)
   have hp:t.parts≠[]:=fun z=>hc (.inr z)
   have ne:t.parts.map (txt∘bS)≠[]:=by simpa using hp
   have ll:=qo ne
   have hm:(t.parts.map (txt∘bS)).getLastD (txt [])∈t.parts.map (txt∘bS):=by
    rw[List.getLastD_eq_getLast?,List.getLast?_eq_some_getLast ne]
    exact List.getLast_mem ne
   obtain⟨p,hpm,ep⟩:=List.mem_map.mp hm
   obtain⟨c,hcm,hcs⟩:=Bj (h.2.2 p hpm)
   rw[←ep]
   rw[show(txt∘bS) p=txt (bS p) from rfl,aN,zt hcm (by
    cases q:cP c with
    | false=>rfl
    | true=>have:=dO.mp q;have:=dc.mp hcs;omega)]
   dsimp only
   rw[hz];rfl
 unfold di
 rw[key]
 dsimp only
 rw[em]
 dsimp only
 rw[if_pos h.2.1]
def ax.Ok:ax→Prop
 | .same t u=>bT t∧bT u
 | .less t u=>bT t∧bT u
 | .sign a t s=>nameB aG a=true∧bT t∧0≤s∧s<10
 | .alike a t b u=>nameB aG a=true∧bT t∧nameB aG b=true∧bT u
 | .no f=>f.Ok
 | .and f g=>f.Ok∧g.Ok
 | .or f g=>f.Ok∧g.Ok
 | .some n f=>nameB au n=true∧f.Ok
 | .each n f=>nameB au n=true∧f.Ok
def atT (a:Str) (t:Term):List Nat:=ak a++91::(aX t++[93])
def aq:ax→List Nat
 | .same t u=>aX t++([32,61,32]++aX u)
 | .less t u=>aX t++([32,60,32]++aX u)
 | .sign a t s=>atT a t++([32,61,32]++[48+s.toNat])
 | .alike a t b u=>atT a t++([32,126,32]++atT b u)
 | .no f=>[110,111,116,32]++aq f
 | .and f g=>40::(aq f++([32,97,110,100,32]++(aq g++[41])))
 | .or f g=>40::(aq f++([32,111,114,32]++(aq g++[41])))
 | .some n f=>[115,111,109,101,32]++(ak n++32::aq f)
 | .each n f=>[101,97,99,104,32]++(ak n++32::aq f)
def ax.nodes:ax→Nat
 | .no f=>f.nodes+1
 | .and f g=>f.nodes+g.nodes+1
 | .or f g=>f.nodes+g.nodes+1
 | .some _ f=>f.nodes+1
 | .each _ f=>f.nodes+1
 | _=>1
def cb (p v:List Nat):Option (List Nat):=if p.isPrefixOf v=true then some (v.drop p.length) else none
theorem bW {p v:List Nat} (h:p.isPrefixOf v=true):v=p++v.drop p.length:=by
 obtain⟨r,rfl⟩:=List.isPrefixOf_iff_prefix.mp h
 rw[List.drop_left]
theorem de (p r:List Nat):p.isPrefixOf (p++r)=true:=List.isPrefixOf_iff_prefix.mpr ⟨r,rfl⟩
theorem dC {p v r:List Nat} (h:cb p v=some r):v=p++r:=by
 unfold cb at h
 split at h
 ·rename_i hp
  rw[←Option.some.inj h];exact bW hp
 ·cases h
theorem d_ (p r:List Nat):cb p (p++r)=some r:=by
 unfold cb
 rw[if_pos (de p r),List.drop_left]
def Stop (p:Nat→Bool) (r:List Nat):Prop:=∀c r',r=c::r'→p c=false
theorem gN {p:Nat→Bool}:∀{l r:List Nat},(∀c∈l,p c=true)→Stop p r→(l++r).takeWhile p=l∧(l++r).dropWhile p=r
 | [],r,_,h=>by
  cases r with
  | nil=>exact⟨rfl,rfl⟩
  | cons c r=>rw[List.nil_append,List.takeWhile_cons,List.dropWhile_cons,h c r rfl];exact⟨rfl,rfl⟩
 | a::l,r,ha,h=>by
  obtain⟨h1,h2⟩:=gN (l:=l) (fun c hc=>ha c (List.mem_cons_of_mem _ hc)) h
  rw[List.cons_append,List.takeWhile_cons,List.dropWhile_cons,ha a List.mem_cons_self]
  exact⟨by rw[if_pos rfl,h1],by rw[if_pos rfl,h2]⟩
def fj (v:List Nat):Option (Term×List Nat):=(di (txt (v.takeWhile cK))).bind fun t=>some (t,v.dropWhile cK)
theorem ka {v r:List Nat} {t:Term} (h:fj v=some (t,r)):bT t∧v=aX t++r:=by
 unfold fj at h
 obtain⟨t',h1,h2⟩:=Option.bind_eq_some_iff.mp h
 cases h2
 obtain⟨ok,e⟩:=Bk h1
 rw[aN] at e
 exact⟨ok,by rw[←e,List.takeWhile_append_dropWhile]⟩
theorem iR {t:Term} {r:List Nat} (ok:bT t) (h:Stop cK r):fj (aX t++r)=some (t,r):=by
 obtain⟨h1,h2⟩:=gN (jU ok) h
 unfold fj
 rw[h1,h2,mW ok];rfl
def gU (v:List Nat):Option (Str×Term×List Nat):=if nameB aG (txt (v.takeWhile bu))=true then((cb [91] (v.dropWhile bu)).bind fun v1=>(fj v1).bind fun q=>(cb [93] q.2).bind fun v3=>some (txt (v.takeWhile bu),q.1,v3)) else none
theorem uY {v r:List Nat} {a:Str} {t:Term} (h:gU v=some (a,t,r)):nameB aG a=true∧bT t∧v=atT a t++r:=by
 unfold gU at h
 split at h
 ·rename_i hn
  obtain⟨v1,h1,h⟩:=Option.bind_eq_some_iff.mp h
  obtain⟨⟨t',v2⟩,h2,h⟩:=Option.bind_eq_some_iff.mp h
  obtain⟨v3,h3,h⟩:=Option.bind_eq_some_iff.mp h
  cases h
  have e1:=dC h1
  obtain⟨ok,e2⟩:=ka h2
  have e3:=dC h3
  dsimp only at e3
  refine⟨hn,ok,?_⟩
  unfold atT
  rw[aN]
  have:v=v.takeWhile bu++v.dropWhile bu:=List.takeWhile_append_dropWhile.symm
  rw[e1,e2,e3] at this
  rw[List.append_assoc,List.cons_append,List.append_assoc]
  exact this
 ·cases h
theorem rS {a:Str} (h:nameB aG a=true):∀c∈ak a,bu c=true:=fun c hc=>gn.mpr ((cg h).2.2 c hc)
theorem aQ {p:Nat→Bool} {c:Nat} {r:List Nat} (h:p c=false):Stop p (c::r):=fun c' r' e=>by
 rw[←(List.cons.inj e).1];exact h
theorem jV {p:Nat→Bool}:Stop p []:=fun c r e=>by cases e
theorem jW {a:Str} {t:Term} {r:List Nat} (ha:nameB aG a=true) (ok:bT t):gU (atT a t++r)=some (a,t,r):=by
 have e:atT a t++r=ak a++(91::(aX t++(93::r))):=by unfold atT;simp
 obtain⟨h1,h2⟩:=gN (p:=bu) (rS ha) (aQ (c:=91) (r:=aX t++(93::r)) (by decide))
 unfold gU
 rw[e,h1,h2,fV,if_pos ha]
 rw[show(91::(aX t++(93::r)))=[91]++(aX t++(93::r)) from rfl,d_,Option.bind_some,iR ok (aQ (by decide)),Option.bind_some]
 dsimp only
 rw[show(93::r)=[93]++r from rfl,d_];rfl
def fW (v:List Nat):Option (ax×List Nat):=(fj v).bind fun q=>if [32,60,32].isPrefixOf q.2=true then((cb [32,60,32] q.2).bind fun v2=>(fj v2).bind fun q2=>some (.less q.1 q2.1,q2.2)) else((cb [32,61,32] q.2).bind fun v2=>(fj v2).bind fun q2=>some (.same q.1 q2.1,q2.2))
theorem zv {v r:List Nat} {f:ax} (h:fW v=some (f,r)):f.Ok∧v=aq f++r:=by
 unfold fW at h
 obtain⟨⟨t,v1⟩,h1,h⟩:=Option.bind_eq_some_iff.mp h
 obtain⟨ok1,e1⟩:=ka h1
 dsimp only at h
 split at h
 ·obtain⟨v2,h2,h⟩:=Option.bind_eq_some_iff.mp h
  obtain⟨⟨u,v3⟩,h3,h⟩:=Option.bind_eq_some_iff.mp h
  cases h
  obtain⟨ok2,e3⟩:=ka h3
  refine⟨⟨ok1,ok2⟩,?_⟩
  rw[e1,dC h2,e3]
  unfold aq
  simp
 ·obtain⟨v2,h2,h⟩:=Option.bind_eq_some_iff.mp h
  obtain⟨⟨u,v3⟩,h3,h⟩:=Option.bind_eq_some_iff.mp h
  cases h
  obtain⟨ok2,e3⟩:=ka h3
  refine⟨⟨ok1,ok2⟩,?_⟩
  rw[e1,dC h2,e3]
  unfold aq
  simp
def k_ (v:List Nat):Option (Nat×List Nat):=match v with
 | c::r=>if cP c=true then some (c-48,r) else none
 | []=>none
def dW (v:List Nat):Option (ax×List Nat):=(gU v).bind fun q=>if [32,61,32].isPrefixOf q.2.2=true then((k_ (q.2.2.drop 3)).bind fun g=>some (.sign q.1 q.2.1 (g.1:Nat),g.2)) else((cb [32,126,32] q.2.2).bind fun v2=>(gU v2).bind fun q2=>some (.alike q.1 q.2.1 q2.1 q2.2.1,q2.2.2))
theorem zx {v r:List Nat} {f:ax} (h:dW v=some (f,r)):f.Ok∧v=aq f++r:=by
 unfold dW at h
 obtain⟨⟨a,t,v1⟩,h1,h⟩:=Option.bind_eq_some_iff.mp h
 obtain⟨ha,ok1,e1⟩:=uY h1
 dsimp only at h
 split at h
 ·rename_i hp
  obtain⟨⟨g,v2⟩,h2,h⟩:=Option.bind_eq_some_iff.mp h
  cases h
  have e2:=bW hp
  unfold k_ at h2
  split at h2
  ·rename_i c r' e3
   split at h2
   ·rename_i hc
    cases h2
    have hc:=dO.mp hc
    refine⟨⟨ha,ok1,by show(0:Int)≤((c-48:Nat):Int);omega,by show((c-48:Nat):Int)<10;omega⟩,?_⟩
    rw[e1,e2]
    unfold aq
    rw[show(48+(((c-48:Nat):Int)).toNat)=c by omega]
    show _++([32,61,32]++v1.drop 3)=_
    rw[e3]
    simp
   ·cases h2
  ·cases h2
 ·obtain⟨v2,h2,h⟩:=Option.bind_eq_some_iff.mp h
  obtain⟨⟨b,u,v3⟩,h3,h⟩:=Option.bind_eq_some_iff.mp h
  cases h
  obtain⟨hb,ok2,e3⟩:=uY h3
  refine⟨⟨ha,ok1,hb,ok2⟩,?_⟩
  rw[e1,dC h2,e3]
  unfold aq
  simp
def eA (v:List Nat):Option (ax×List Nat):=if v.takeWhile bu=[] then fW v else dW v
theorem tO {v r:List Nat} {f:ax} (h:eA v=some (f,r)):f.Ok∧v=aq f++r:=by
 unfold eA at h
 split at h
 ·exact zv h
 ·exact zx h
theorem rV {t:Term} (ok:bT t) (r:List Nat):(aX t++r).takeWhile bu=[]:=by
 cases e:aX t with
 | nil=>
  exfalso
  have:=mW ok
  rw[e] at this
  exact absurd this (by rw[show di (txt [])=none by decide+kernel];exact fun z=>by cases z)
 | cons c l=>
  have hc:=i6.mp (jU ok c (by rw[e];exact List.mem_cons_self))
  rw[List.cons_append,List.takeWhile_cons,show bu c=false by
   cases q:bu c with
   | false=>rfl
   | true=>have:=gn.mp q;omega]
  rfl
theorem zy {a:Str} {t:Term} (ha:nameB aG a=true) (r:List Nat):(atT a t++r).takeWhile bu≠[]:=by
 have e:atT a t++r=ak a++(91::(aX t++(93::r))):=by unfold atT;simp
 rw[e,(gN (p:=bu) (rS ha) (aQ (c:=91) (r:=aX t++(93::r)) (by decide))).1]
 intro z
 have:=(cg ha).1
 rw[bC,z] at this
 exact absurd this (by decide)
def ax.atom:ax→Bool
 | .same _ _=>true
 | .less _ _=>true
 | .sign _ _ _=>true
 | .alike _ _ _ _=>true
 | _=>false
theorem uf {f:ax} {r:List Nat} (at':f.atom=true) (ok:f.Ok) (st:Stop cK r):eA (aq f++r)=some (f,r):=by
 cases f with
 | same t u=>
  obtain⟨o1,o2⟩:=ok
  unfold eA aq
  rw[List.append_assoc,if_pos (rV o1 _)]
  unfold fW
  rw[List.append_assoc,iR o1 (show Stop cK ([32,61,32]++(aX u++r)) from aQ (by decide)),Option.bind_some]
  dsimp only
  rw[if_neg (by show ¬(false=true);decide),d_,Option.bind_some,iR o2 st];rfl
 | less t u=>
  obtain⟨o1,o2⟩:=ok
  unfold eA aq
  rw[List.append_assoc,if_pos (rV o1 _)]
  unfold fW
  rw[List.append_assoc,iR o1 (show Stop cK ([32,60,32]++(aX u++r)) from aQ (by decide)),Option.bind_some]
  dsimp only
  rw[if_pos (de [32,60,32] _),d_,Option.bind_some,iR o2 st];rfl
 | sign a t s=>
  obtain⟨ha,o1,s0,s9⟩:=ok
  unfold eA aq
  rw[List.append_assoc,if_neg (zy ha _)]
  unfold dW
  rw[jW ha o1,Option.bind_some]
  dsimp only
  rw[List.append_assoc,if_pos (de [32,61,32] _)]
  show(k_ ((48+s.toNat)::r)).bind _=_
  unfold k_
  dsimp only
  rw[if_pos (dO.mpr (by omega))]
  show some (ax.sign a t ((48+s.toNat-48:Nat):Int),r)=_
  rw[show((48+s.toNat-48:Nat):Int)=s by omega]
 | alike a t b u=>
  obtain⟨ha,o1,hb,o2⟩:=ok
  unfold eA aq
  rw[List.append_assoc,if_neg (zy ha _)]
  unfold dW
  rw[jW ha o1,Option.bind_some]
  dsimp only
  rw[List.append_assoc,if_neg (by show ¬(false=true);decide),d_,Option.bind_some,jW hb o2];rfl
 | _=>cases at'
inductive Hd where
 | par | no | some (n:Str) | each (n:Str) | and (f:ax) | or (f:ax)
def openP (v:List Nat):Option (Option (Hd×List Nat)):=
 if [40].isPrefixOf v=true then some (some (.par,v.drop 1))
 else if [110,111,116,32].isPrefixOf v=true then some (some (.no,v.drop 4))
 else if [115,111,109,101,32].isPrefixOf v=true∨[101,97,99,104,32].isPrefixOf v=true then
  (if nameB au (txt ((v.drop 5).takeWhile bD))=true then((cb [32] ((v.drop 5).dropWhile bD)).bind fun r=>
   some (some (if [115,111,109,101,32].isPrefixOf v=true then .some (txt ((v.drop 5).takeWhile bD)) else .each (txt ((v.drop 5).takeWhile bD)),r))) else none)
 else some none
def bp:List Nat→List Hd→ax→Option (Option ax×List Nat×List Hd)
 | v,[],f=>some (some f,v,[])
 | v,.par::w,f=>if [32,111,114,32].isPrefixOf v=true then some (none,v.drop 4,.or f::w) else(cb [32,97,110,100,32] v).bind fun r=>some (none,r,.and f::w)
 | v,.and g::w,f=>(cb [41] v).bind fun r=>bp r w (.and g f)
 | v,.or g::w,f=>(cb [41] v).bind fun r=>bp r w (.or g f)
 | v,.no::w,f=>bp v w (.no f)
 | v,.some n::w,f=>bp v w (.some n f)
 | v,.each n::w,f=>bp v w (.each n f)
def run:Nat→List Nat→List Hd→Option (ax×List Nat)
 | 0,_,_=>none
 | n+1,v,w=>match openP v with
  | none=>none
  | some (some (h,v'))=>run n v' (h::w)
  | some none=>match eA v with
   | none=>none
   | some (a,v2)=>match bp v2 w a with
    | none=>none
    | some (some f,v3,_)=>some (f,v3)
    | some (none,v3,w3)=>run n v3 w3
def aM (z:Str):Option ax:=match run ((ak z).length+1) (ak z) [] with
 | some (f,[])=>some f
 | _=>none
def cont (n:Nat) (v:List Nat) (w:List Hd) (f:ax):Option (ax×List Nat):=match bp v w f with
 | none=>none
 | some (some f,v3,_)=>some (f,v3)
 | some (none,v3,w3)=>run n v3 w3
theorem uZ {n:Str} {r:List Nat} (hn:nameB au n=true):openP ([115,111,109,101,32]++(ak n++32::r))=some (some (.some n,r)):=by
 obtain⟨h1,h2⟩:=gN (p:=bD) (bR hn).2.2.1 (aQ (c:=32) (r:=r) (by decide))
 unfold openP
 rw[if_neg (by show ¬(false=true);decide),if_neg (by show ¬(false=true);decide),if_pos (.inl (de _ _))]
 have e5:List.drop 5 (([115,111,109,101,32]:List Nat)++(ak n++32::r))=ak n++32::r:=rfl
 rw[e5,h1,h2,fV,if_pos hn,show(32::r)=[32]++r from rfl,d_,Option.bind_some,if_pos (de _ _)]
theorem DF {n:Str} {r:List Nat} (hn:nameB au n=true):openP ([101,97,99,104,32]++(ak n++32::r))=some (some (.each n,r)):=by
 obtain⟨h1,h2⟩:=gN (p:=bD) (bR hn).2.2.1 (aQ (c:=32) (r:=r) (by decide))
 unfold openP
 rw[if_neg (by show ¬(false=true);decide),if_neg (by show ¬(false=true);decide),if_pos (.inr (de _ _))]
 have e5:List.drop 5 (([101,97,99,104,32]:List Nat)++(ak n++32::r))=ak n++32::r:=rfl
 rw[e5,h1,h2,fV,if_pos hn,show(32::r)=[32]++r from rfl,d_,Option.bind_some,if_neg (by show ¬(false=true);decide)]
theorem mh {v p:List Nat} {c:Nat} (hp:∀x∈p,cK x=true) (hc:cK c=false) (h:(p++[c]).isPrefixOf v=true):v.takeWhile cK=p:=by
 have e:=bW h
 rw[e,List.append_assoc]
 exact(gN hp (aQ hc)).1
theorem qp {f:ax} {r:List Nat} (at':f.atom=true) (ok:f.Ok):openP (aq f++r)=some none:=by
 have term:∀{t:Term} {x:List Nat},bT t→openP (aX t++32::x)=some none:=fun {t x} o=>by
  have tk:=(gN (p:=cK) (jU o) (aQ (c:=32) (r:=x) (by decide))).1
  have no:∀l:List Nat,di (txt l)=none→aX t≠l:=fun l hl e=>by
   have:=mW o
   rw[e,hl] at this
   cases this
  have n0:=no [] (by decide+kernel)
  unfold openP
  have g1:¬([40].isPrefixOf (aX t++32::x)=true):=by
   intro h
   have e:=bW h
   cases et:aX t with
   | nil=>exact n0 et
   | cons c l=>
    rw[et] at e
    have hc:c=40:=(List.cons.inj e).1
    have:=jU o c (by rw[et];exact List.mem_cons_self)
    rw[hc] at this
    exact absurd this (by decide)
  have g2:¬([110,111,116,32].isPrefixOf (aX t++32::x)=true):=by
   intro h
   have:=mh (p:=[110,111,116]) (c:=32) (by decide) (by decide) h
   rw[tk] at this
   exact no _ (by decide+kernel) this
  have g3:¬([115,111,109,101,32].isPrefixOf (aX t++32::x)=true∨[101,97,99,104,32].isPrefixOf (aX t++32::x)=true):=by
   rintro(h | h)
   ·have:=mh (p:=[115,111,109,101]) (c:=32) (by decide) (by decide) h
    rw[tk] at this
    exact no _ (by decide+kernel) this
   ·have:=mh (p:=[101,97,99,104]) (c:=32) (by decide) (by decide) h
    rw[tk] at this
    exact no _ (by decide+kernel) this
  rw[if_neg g1,if_neg g2,if_neg g3]
 have row:∀{a:Str} {t:Term} {x:List Nat},nameB aG a=true→openP (atT a t++x)=some none:=fun {a t x} ha=>by
  have h1:=(cg ha).1
  cases ea:ak a with
  | nil=>rw[bC,ea] at h1;exact absurd h1 (by decide)
  | cons c l=>
   have hc:=(cg ha).2.2 c (by rw[ea];exact List.mem_cons_self)
   have no:∀d p,(d<65∨90<d)→¬((d::p).isPrefixOf (atT a t++x)=true):=fun d p hd h=>by
    have e:=bW h
    unfold atT at e
    rw[ea] at e
    have:=(List.cons.inj e).1
    omega
   unfold openP
   rw[if_neg (no _ _ (by decide)),if_neg (no _ _ (by decide)),if_neg (by rintro(h | h);exact no _ _ (by decide) h;exact no _ _ (by decide) h)]
 cases f with
 | same t u=>unfold aq;rw[List.append_assoc,List.append_assoc];exact term ok.1
 | less t u=>unfold aq;rw[List.append_assoc,List.append_assoc];exact term ok.1
 | sign a t s=>unfold aq;rw[List.append_assoc];exact row ok.1
 | alike a t b u=>unfold aq;rw[List.append_assoc];exact row ok.1
 | _=>cases at'
theorem MJ:∀(f:ax) (m:Nat) (r:List Nat) (w:List Hd),f.Ok→Stop cK r→run (m+f.nodes) (aq f++r) w=cont m r w f:=by
 have xZ:∀(f:ax) (m:Nat) (r:List Nat) (w:List Hd),f.atom=true→f.Ok→Stop cK r→run (m+1) (aq f++r) w=cont m r w f:=fun f m r w ha ok st=>by
  show(match openP (aq f++r) with | none=>none | some (some (h,v'))=>run m v' (h::w) | some none=>_)=_
  rw[qp ha ok,uf ha ok st];rfl
 intro f
 induction f with
 | same t u=>intro m r w ok st;exact xZ _ m r w rfl ok st
 | less t u=>intro m r w ok st;exact xZ _ m r w rfl ok st
 | sign a t s=>intro m r w ok st;exact xZ _ m r w rfl ok st
 | alike a t b u=>intro m r w ok st;exact xZ _ m r w rfl ok st
 | no f ih=>
  intro m r w ok st
  show run (m+f.nodes+1) ([110,111,116,32]++(aq f++r)) w=_
  show run (m+f.nodes) (aq f++r) (.no::w)=_
  rw[ih m r (.no::w) ok st];rfl
 | some n f ih=>
  intro m r w ok st
  have e:aq (.some n f)++r=[115,111,109,101,32]++(ak n++32::(aq f++r)):=by simp[aq]
  rw[e]
  show(match openP ([115,111,109,101,32]++(ak n++32::(aq f++r))) with | none=>none | some (some (h,v'))=>run (m+f.nodes) v' (h::w) | some none=>_)=_
  rw[uZ ok.1]
  show run (m+f.nodes) (aq f++r) (.some n::w)=_
  rw[ih m r (.some n::w) ok.2 st];rfl
 | each n f ih=>
  intro m r w ok st
  have e:aq (.each n f)++r=[101,97,99,104,32]++(ak n++32::(aq f++r)):=by simp[aq]
  rw[e]
  show(match openP ([101,97,99,104,32]++(ak n++32::(aq f++r))) with | none=>none | some (some (h,v'))=>run (m+f.nodes) v' (h::w) | some none=>_)=_
  rw[DF ok.1]
  show run (m+f.nodes) (aq f++r) (.each n::w)=_
  rw[ih m r (.each n::w) ok.2 st];rfl
 | and f g ih1 ih2=>
  intro m r w ok st
  have e:aq (.and f g)++r=40::(aq f++([32,97,110,100,32]++(aq g++(41::r)))):=by simp[aq]
  rw[e]
  show run (m+(f.nodes+g.nodes+1)) _ w=_
  rw[show m+(f.nodes+g.nodes+1)=(m+g.nodes+f.nodes)+1 by omega]
  show run (m+g.nodes+f.nodes) (aq f++([32,97,110,100,32]++(aq g++(41::r)))) (.par::w)=_
  rw[ih1 _ ([32,97,110,100,32]++(aq g++(41::r))) _ ok.1 (aQ (c:=32) (by decide))]
  show(match (if [32,111,114,32].isPrefixOf ([32,97,110,100,32]++(aq g++(41::r)))=true then some (none,([32,97,110,100,32]++(aq g++(41::r))).drop 4,Hd.or f::w) else(cb [32,97,110,100,32] ([32,97,110,100,32]++(aq g++(41::r)))).bind fun r=>some (none,r,Hd.and f::w):Option (Option ax×List Nat×List Hd)) with | none=>none | some (some f,v3,_)=>some (f,v3) | some (none,v3,w3)=>run (m+g.nodes) v3 w3)=_
  rw[if_neg (by show ¬(false=true);decide),d_]
  show run (m+g.nodes) (aq g++(41::r)) (.and f::w)=_
  rw[ih2 _ _ _ ok.2 (aQ (by decide))]
  have e2:bp (41::r) (.and f::w) g=bp r w (.and f g):=by
   show(cb [41] ([41]++r)).bind (fun r=>bp r w (.and f g))=_
   rw[d_];rfl
  unfold cont
  rw[e2]
 | or f g ih1 ih2=>
  intro m r w ok st
  have e:aq (.or f g)++r=40::(aq f++([32,111,114,32]++(aq g++(41::r)))):=by simp[aq]
  rw[e]
  show run (m+(f.nodes+g.nodes+1)) _ w=_
  rw[show m+(f.nodes+g.nodes+1)=(m+g.nodes+f.nodes)+1 by omega]
  show run (m+g.nodes+f.nodes) (aq f++([32,111,114,32]++(aq g++(41::r)))) (.par::w)=_
  rw[ih1 _ ([32,111,114,32]++(aq g++(41::r))) _ ok.1 (aQ (c:=32) (by decide))]
  show(match (if [32,111,114,32].isPrefixOf ([32,111,114,32]++(aq g++(41::r)))=true then some (none,([32,111,114,32]++(aq g++(41::r))).drop 4,Hd.or f::w) else(cb [32,97,110,100,32] ([32,111,114,32]++(aq g++(41::r)))).bind fun r=>some (none,r,Hd.and f::w):Option (Option ax×List Nat×List Hd)) with | none=>none | some (some f,v3,_)=>some (f,v3) | some (none,v3,w3)=>run (m+g.nodes) v3 w3)=_
  rw[if_pos (de _ _)]
  show run (m+g.nodes) (aq g++(41::r)) (.or f::w)=_
  rw[ih2 _ _ _ ok.2 (aQ (by decide))]
  have e2:bp (41::r) (.or f::w) g=bp r w (.or f g):=by
   show(cb [41] ([41]++r)).bind (fun r=>bp r w (.or f g))=_
   rw[d_];rfl
  unfold cont
  rw[e2]
theorem fg:∀f:ax,f.nodes≤(aq f).length
 | .same t u=>by simp[aq,ax.nodes];try omega
 | .less t u=>by simp[aq,ax.nodes];try omega
 | .sign a t s=>by simp[aq,ax.nodes];try omega
 | .alike a t b u=>by simp[aq,ax.nodes];try omega
 | .no f=>by have:=fg f;simp[aq,ax.nodes];try omega
 | .and f g=>by have:=fg f;have:=fg g;simp[aq,ax.nodes];try omega
 | .or f g=>by have:=fg f;have:=fg g;simp[aq,ax.nodes];try omega
 | .some n f=>by have:=fg f;simp[aq,ax.nodes];try omega
 | .each n f=>by have:=fg f;simp[aq,ax.nodes];try omega
theorem H_ {f:ax} {z:Str} (ok:f.Ok) (e:ak z=aq f):aM z=some f:=by
 have hl:=fg f
 have:=MJ f ((aq f).length+1-f.nodes) [] [] ok jV
 rw[show(aq f).length+1-f.nodes+f.nodes=(aq f).length+1 by omega,List.append_nil] at this
 unfold aM
 rw[e,this];rfl
def Jy (ss:List Str):Prop:=ss.Nodup∧∀x∈ss,nameB au x=true
def MK (rs:List Str):Prop:=∀x∈rs,nameB aG x=true
def eB (t:Term):Prop:=bT t∧t.parts.length≤3
def ax.gV:ax→Prop
 | .same t u=>eB t∧eB u
 | .less t u=>eB t∧eB u
 | .sign a t s=>nameB aG a=true∧eB t∧0≤s∧s<10
 | .alike a t b u=>nameB aG a=true∧eB t∧nameB aG b=true∧eB u
 | .no f=>f.gV
 | .and f g=>f.gV∧g.gV
 | .or f g=>f.gV∧g.gV
 | .some n f=>nameB au n=true∧f.gV
 | .each n f=>nameB au n=true∧f.gV
theorem ax.gV.ok:∀{f:ax},f.gV→f.Ok
 | .same _ _,h=>⟨h.1.1,h.2.1⟩
 | .less _ _,h=>⟨h.1.1,h.2.1⟩
 | .sign _ _ _,h=>⟨h.1,h.2.1.1,h.2.2⟩
 | .alike _ _ _ _,h=>⟨h.1,h.2.1.1,h.2.2.1,h.2.2.2.1⟩
 | .no f,h=>ax.gV.ok (f:=f) h
 | .and f g,h=>⟨ax.gV.ok (f:=f) h.1,ax.gV.ok (f:=g) h.2⟩
 | .or f g,h=>⟨ax.gV.ok (f:=f) h.1,ax.gV.ok (f:=g) h.2⟩
 | .some _ f,h=>⟨h.1,ax.gV.ok (f:=f) h.2⟩
 | .each _ f,h=>⟨h.1,ax.gV.ok (f:=f) h.2⟩
def ax.comps:ax→Nat
 | .no f=>f.comps+1
 | .and f g=>f.comps+g.comps+1
 | .or f g=>f.comps+g.comps+1
 | .some _ f=>f.comps+1
 | .each _ f=>f.comps+1
 | _=>0
theorem rW {p:Str×Int} (h:jv p):(bS p).length≤4:=by
 have h1:=(bR h.1).2.1
 unfold bS
 rw[List.length_append,←bC]
 split
 ·simp;omega
 ·simp;omega
theorem gW {t:Term} (h:eB t):(aX t).length≤20∧1≤(aX t).length:=by
 have h1:=vJ (c:=43) (bU t)
 have h2:((bU t).map List.length).sum≤14:=by
  unfold bU
  rw[List.map_append,List.sum_append,List.map_map]
  have h3:=zr (l:=t.parts.map (List.length∘bS)) (k:=4) (fun x hx=>by
   obtain⟨p,hp,rfl⟩:=List.mem_map.mp hx
   exact rW (h.1.2.2 p hp))
  rw[List.length_map] at h3
  have h4:=h.2
  have h5:((if t.num≠0∨t.parts=[] then [fc t.num.toNat] else []).map List.length).sum≤2:=by
   split
   ·have:=(qm (n:=t.num.toNat)).1
    simp;exact this
   ·simp
  omega
 have h3:(bU t).length≤4:=by
  unfold bU
  rw[List.length_append,List.length_map]
  have:=h.2
  split
  ·simp;omega
  ·simp;omega
 refine⟨by unfold aX;omega,?_⟩
 cases e:aX t with
 | nil=>
  exfalso
  have:=mW h.1
  rw[e] at this
  exact absurd this (by rw[show di (txt [])=none by decide+kernel];exact fun z=>by cases z)
 | cons c l=>simp
theorem vK {a:Str} {t:Term} (ha:nameB aG a=true) (h:eB t):(atT a t).length≤25:=by
 have h1:=(cg ha).2.1
 have h2:=(gW h).1
 unfold atT
 simp only[List.length_append,List.length_cons,List.length_nil,←bC]
 omega
theorem gX:∀{f:ax},f.gV→(aq f).length≤60*(f.comps+1)+10*f.comps
 | .same t u,h=>by have:=(gW h.1).1;have:=(gW h.2).1;simp[aq,ax.comps];omega
 | .less t u,h=>by have:=(gW h.1).1;have:=(gW h.2).1;simp[aq,ax.comps];omega
 | .sign a t s,h=>by have:=vK h.1 h.2.1;simp[aq,ax.comps];omega
 | .alike a t b u,h=>by have:=vK h.1 h.2.1;have:=vK h.2.2.1 h.2.2.2;simp[aq,ax.comps];omega
 | .no f,h=>by have:=gX (f:=f) h;simp[aq,ax.comps];omega
 | .and f g,h=>by have:=gX h.1;have:=gX h.2;simp[aq,ax.comps];omega
 | .or f g,h=>by have:=gX h.1;have:=gX h.2;simp[aq,ax.comps];omega
 | .some n f,h=>by have:=gX h.2;have h1:=(bR h.1).2.1;simp only[aq,ax.comps,List.length_append,List.length_cons,List.length_nil,←bC];omega
 | .each n f,h=>by have:=gX h.2;have h1:=(bR h.1).2.1;simp only[aq,ax.comps,List.length_append,List.length_cons,List.length_nil,←bC];omega
theorem DG {x:Str} (h:ql false x):nameB au x=true:=by
 obtain⟨h1,h2,h3,h4⟩:=h
 unfold nameB
 rw[decide_eq_true h1,decide_eq_true h2,decide_eq_false h4]
 have:ju x au=true:=by
  unfold ju
  rw[List.all_eq_true]
  exact fun c hc=>decide_eq_true (h3 c hc)
 rw[this];rfl
theorem zz {l:List Str} (h:PyProof.Rows.sortedS l=true):l.Pairwise fun a b=>PySem.Spec.ltCps b.cps.toList a.cps.toList=false:=by
 rw[List.pairwise_iff_getElem]
 intro i j hi hj hij
 rw[PyProof.Rows.ltCps_eq]
 exact decide_eq_false (List.not_lt.mpr (uL h (Nat.le_of_lt hij) (List.getElem?_eq_getElem hi) (List.getElem?_eq_getElem hj)))
theorem DH {l m:List Str} (h:PyProof.Rows.sortedS l=true) (nd:l.Nodup) (s:m.Sublist l):rising m=true:=by
 unfold rising
 rw[PyProof.Rows.sortedS_of_pairwise _ ((zz h).sublist s),decide_eq_true (s.nodup nd)];rfl
def pz (x:Int):Int:=max x 0
def ML (K:PySem.W.Frag):Sp:=fun vs H Q _=>∃(d nm:Addr) (ss:List Str),vs=[.ref d,.ref nm]∧bY H d∧cf K H nm (ss.map V.str)∧nm≠d∧ss.length≤10∧Jy ss∧
 ∀(p:Addr) (t:Term) (H':Hp),aA K H' (.ref p) t.dt→eB t→(∀q∈t.parts,q.1∈ss)→KB d H H'→bY H' d→Q (.ref p) H'
def Cf (K:PySem.W.Frag):Sp:=fun vs H Q _=>∃(d nm rw:Addr) (ss rs:List Str),vs=[.ref d,.ref nm,.ref rw]∧bY H d∧cf K H nm (ss.map V.str)∧nm≠d∧ss.length≤10∧Jy ss∧cf K H rw (rs.map V.str)∧rw≠d∧rs.length≤10∧MK rs∧
 ∀(p:Addr) (f:ax) (H':Hp),aA K H' (.ref p) f.dt→f.deep=0∧f.gV→KB d H H'→bY H' d→Q (.ref p) H'
theorem Jz (a b c:Int) (r:Int) (h0:0≤r) (h1:r<3):∃x,ku ([.int a,.int b,.int c]:List V) r=some (.int x)∧(x=a∨x=b∨x=c):=by
 have:r=0∨r=1∨r=2:=by omega
 rcases this with rfl | rfl | rfl
 ·exact⟨a,rfl,.inl rfl⟩
 ·exact⟨b,rfl,.inr (.inl rfl)⟩
 ·exact⟨c,rfl,.inr (.inr rfl)⟩
theorem x5 {α:Type} (a b:α) (r:Int) (h0:0≤r) (h1:r<2):∃x,ku [a,b] r=some x∧(x=a∨x=b):=by
 have:r=0∨r=1:=by omega
 rcases this with rfl | rfl
 ·exact⟨a,rfl,.inl rfl⟩
 ·exact⟨b,rfl,.inr rfl⟩
theorem x6 (ss:List Str) (r:Int) (h0:0≤r) (h1:r<ss.length):∃x,ku (ss.map V.str) r=some (.str x)∧x∈ss:=by
 obtain⟨n,rfl⟩:∃n:Nat,r=(n:Int):=⟨r.toNat,by omega⟩
 have hn:n<ss.length:=by omega
 exact⟨ss[n],aB (by rw[List.getElem?_map,List.getElem?_eq_getElem hn];rfl),List.getElem_mem hn⟩
theorem rX:bh ["_law_deck_here","_law_names_here","_law_parts","_law_name"] ["_law_deck_here","_law_names_here"] (aw jQ):=⟨rfl,rfl,rfl,by decide+kernel,rfl,by decide+kernel,by decide+kernel⟩
theorem FF {a:dG} (T:Txt K mg a):a_ P w K mg base dq 2 a.qe a.rk ["_law_deck_here","_law_names_here"] (ML K):=by
 have bt:=i3 (P:=P) (w:=w) (base:=base) T
 refine T.HE.ok rX (fun vs H Q E h=>?_) (fun cdv A outer s H vs Q E hr h=>?_)
 ·obtain⟨d,nm,ss,rfl,_⟩:=h
  rfl
 ·obtain⟨d,nm,ss,rfl,hd,hS,hne,hss,oW,k⟩:=h
  have bo:aU 1 _:=hr
  refine⟨_,(aj (aH (i:=2) rX.nd rfl (Or.inl rfl) (bN af))
  (aj (ko PassesOwn.never rfl (o5 (bq (AE K) (by rfl) T.y3 wA (ae (pv 1) af))) (cR (i:=3) rX.nd rfl (Or.inl rfl))
   (aD (bH (PW.pt (jd (aP cL (aE bt bo rfl T.bK T.bL T.bM .nil aT (ae (pv 0) (ae ai af))) ai (aW _)) (jG (aP sG (bq (bP K) (by rfl) T.dv cO (ae (pv 2) af)) ai (aW _)))))
    (aD (dZ (dm PySem.F.plainAttrs_list PySem.F.slot_list_append PySem.F.type_list_append dg (pv 2) (ae (br (ae (pv 3) (ae (av cA ai (aE bt bo rfl T.bK T.bL T.bM .nil aT (ae (pv 0) (ae (aO (bF K) (bN (ae ai (ae ai (ae ai af)))) (aE bt bo rfl T.bK T.bL T.bM .nil aT (ae (pv 0) (ae ai af))) (fun _ _=>rfl)) af)))) af))) af))))
    bg)))
  (aD (aR (br (ae (aO (bF K) (bN (ae ai (ae (aE bt bo rfl T.bK T.bL T.bM .nil aT (ae (pv 0) (ae ai af))) (ae (aE bt bo rfl T.bK T.bL T.bM .nil aT (ae (pv 0) (ae ai af))) af)))) (aE bt bo rfl T.bK T.bL T.bM .nil aT (ae (pv 0) (ae ai af))) (fun _ _=>rfl)) (ae (dU (tG K) (by rfl) T.B4 yE (ae (pv 2) af)) af))))))),?_⟩
  refine⟨by decide,fun L hL=>?_⟩
  have s1:=Same.new (o:=.lst []) hL
  have zA:L≠d:=(hd.ne hL).symm
  refine⟨_,rfl,nm,ss,rfl,s1.seq hS,by omega,fun Z zs hZ hperm PL=>⟨Z,rfl,⟨_,.of ag⟩,?_⟩⟩
  have Rq:L≠Z:=bj ag hZ
  have MM:Z≠d:=(((hd.same s1).ne hZ)).symm
  refine yk (xs:=zs.map V.str) (fun i σ H'=>∃(xs:List V) (ps:List (Str×Int)) (v3:Option V),σ=[some (.ref d),some (.ref nm),some (.ref L),v3]∧KB d H H'∧bY H' d∧H' Z=some (.lst (zs.map V.str))∧H' L=some (.lst xs)∧aL K H' xs (ps.map fU)∧ps.length≤3∧(∀q∈ps,q.1∈ss)∧(ps.map (·.1)).Sublist (zs.take i)∧∀q∈ps,1≤q.2∧q.2≤9)
   ⟨[],[],none,rfl,(s1.trans (Same.new hZ)).kb,(hd.same s1).same (Same.new hZ),ag,by rw[bz Rq];exact ag,bB,by simp,fun q h=>(nomatch h),by simp,fun q h=>(nomatch h)⟩ (fun i σ H' _ ⟨_,_,_,_,_,_,h,_⟩=>.of h) ?_ ?_
  ·rintro i x σ H1 hx ⟨xs,ps,v3,rfl,k1,d1,z1,l1,zB,lp,mp,sb,tms⟩
   obtain⟨z,rfl,hz⟩:=vw hx
   have tk:zs.take (i+1)=zs.take i++[z]:=by rw[List.take_add_one,hz];rfl
   have EW:(ps.map (·.1)).Sublist (zs.take (i+1)):=by rw[tk];exact sb.trans (List.sublist_append_left _ _)
   have Z2:z∈ss:=hperm.mem_iff.mp (List.mem_of_getElem? hz)
   have lx:xs.length=ps.length:=by rw[zB.length,List.length_map]
   refine⟨_,rfl,d,2,rfl,d1,by decide,fun r H2 r0 r1 k2 d2=>⟨rfl,_,rfl,?_⟩⟩
   have z2:=k2 _ _ z1 MM
   have l2:=k2 _ _ l1 zA
   have pH:=cz (d1.kts k2) _ _ (dh ps) zB
   refine dr (fun _=>?_) (fun _=>aY ⟨xs,ps,_,rfl,k1.trans k2,d2,z2,l2,pH,lp,mp,EW,tms⟩)
   refine⟨_,rfl,_,xs.length,rfl,.inl ⟨_,.of l2,rfl⟩,_,_,rfl,rfl,_,rfl,?_⟩
   refine dr (fun hlt=>?_) (fun _=>⟨xs,ps,_,rfl,k1.trans k2,d2,z2,l2,pH,lp,mp,EW,tms⟩)
   have hlt':xs.length<3:=by have:=of_decide_eq_true hlt;omega
   refine⟨_,rfl,.inl ⟨rfl,_,.of l2⟩,_,rfl,_,rfl,by show 3≤sizeLine;decide,fun O hO=>?_⟩
   have sO:=Same.new (o:=.lst [.int 1,.int 2,.int 9]) hO
   refine⟨_,rfl,d,3,rfl,d2.same sO,by decide,fun r' H3 B9 r1' k3 d3=>?_⟩
   obtain⟨m,hm,Z3⟩:=Jz 1 2 9 r' B9 r1'
   have FG:O≠d:=(d2.ne hO).symm
   refine⟨O,_,_,.int m,rfl,rfl,.of (k3 _ _ ag FG),hm,d,m,rfl,d3,by omega,fun q H4 q0 q1 k4 d4=>⟨_,_,rfl,rfl,by show 2≤sizeLine;decide,fun p hp=>?_⟩⟩
   have l4:=k4 _ _ (k3 _ _ (sO _ _ l2) zA) zA
   have z4:=k4 _ _ (k3 _ _ (sO _ _ z2) MM) MM
   have MN:=cz (d3.kts k4) _ _ (dh ps) (cz ((d2.same sO).kts k3) _ _ (dh ps) (cz sO.kts _ _ (dh ps) pH))
   have sp:=Same.new (o:=.tup [.str z,.int (1+q)]) hp
   have l5:=sp _ _ l4
   refine⟨L,_,_,rfl,rfl,l5,Nat.lt_of_lt_of_le (show xs.length<10 by omega) (by decide),xs++[.ref p],ps++[(z,1+q)],_,rfl,?_,?_,?_,ag,?_,?_,?_,?_,?_⟩
   ·intro b o e n
    have n1:b≠L:=bj e hL
    rw[bz n1]
    exact sp _ _ (k4 _ _ (k3 _ _ (sO _ _ (k2 _ _ (k1 _ _ e n) n)) n) n)
   ·exact(d4.same sp).kb KB.write zA.symm
   ·rw[bz Rq.symm];exact sp _ _ z4
   ·rw[List.map_append]
    have kk:fm K (upd H4 p (.tup [.str z,.int (1+q)])) (upd (upd H4 p (.tup [.str z,.int (1+q)])) L (.lst (xs++[.ref p]))):=KB.kts l5 KB.write
    refine cz kk _ _ ?_ (p5 (cz sp.kts _ _ (dh ps) MN) (aF (cy (.of ag) (aF bJ (aF mf bB))) bB))
    rw[yK,dh]
    simp[fU,Dt.bG,Dt.eG]
   ·rw[List.length_append];show ps.length+1≤3;omega
   ·intro y hy
    rcases List.mem_append.mp hy with e | e
    ·exact mp y e
    ·have:y=(z,1+q):=by simpa using e
     subst this;exact Z2
   ·rw[List.map_append,tk];exact List.Sublist.append sb (List.Sublist.refl _)
   ·intro y hy
    rcases List.mem_append.mp hy with e | e
    ·exact tms y e
    ·have:y=(z,1+q):=by simpa using e
     subst this
     show(1:Int)≤1+q∧1+q≤9
     omega
  ·rintro σ H1 ⟨xs,ps,v3,rfl,k1,d1,z1,l1,zB,lp,mp,sb,tms⟩
   rw[List.length_map,List.take_length] at sb
   have lx:xs.length=ps.length:=by rw[zB.length,List.length_map]
   refine⟨_,rfl,d,5,rfl,d1,by decide,fun r1 H2 a1 a2 k2 d2=>?_⟩
   refine⟨_,rfl,d,100,rfl,d2,by decide,fun r2 H3 a3 a4 k3 d3=>⟨by show 3≤sizeLine;decide,fun O hO=>?_⟩⟩
   have sO:=Same.new (o:=.lst [.int 0,.int r1,.int r2]) hO
   have FG:O≠d:=(d3.ne hO).symm
   refine⟨_,rfl,d,3,rfl,d3.same sO,by decide,fun r H4 r0 r1' k4 d4=>?_⟩
   obtain⟨m,hm,Z3⟩:=Jz 0 r1 r2 r r0 r1'
   have l4:=k4 _ _ (sO _ _ (k3 _ _ (k2 _ _ l1 zA) zA)) zA
   have MN:=cz ((d3.same sO).kts k4) _ _ (dh ps) (cz sO.kts _ _ (dh ps) (cz (d2.kts k3) _ _ (dh ps) (cz (d1.kts k2) _ _ (dh ps) zB)))
   refine⟨O,_,_,.int m,rfl,rfl,.of (k4 _ _ ag FG),hm,_,rfl,L,xs,rfl,.inl ⟨.of l4,fun t ht=>⟨by show 2≤sizeLine;decide,fun p hp=>?_⟩⟩⟩
   have st:=Same.new (o:=.tup xs) ht
   have sp:=Same.new (o:=.tup [.int m,.ref t]) hp
   refine k p ⟨m,ps⟩ _ (cy (.of ag) (aF mf (aF (cy (sp.iP (.of ag)) (cz (st.trans sp).kts _ _ (dh ps) MN)) bB))) ⟨⟨⟨by show 0≤m;omega,by show m<100;omega⟩,DH PL (hperm.nodup_iff.mpr oW.1) sb,fun q hq=>⟨oW.2 _ (mp q hq),tms q hq⟩⟩,lp⟩ mp ?_ ((d4.same st).same sp)
   exact((((k1.trans k2).trans k3).trans sO.kb).trans k4).trans (st.trans sp).kb
theorem lX:bh ["_law_deck_here","_law_names_here","_law_rows","_law_goes","_law_one","_law_other"] ["_law_deck_here","_law_names_here","_law_rows"] (aw iY):=⟨rfl,rfl,rfl,by decide+kernel,rfl,by decide+kernel,by decide+kernel⟩
theorem DI {a:dG} (T:Txt K mg a):a_ P w K mg base dq 3 a.oz a.qf ["_law_deck_here","_law_names_here","_law_rows"] (Cf K):=by
 have bt:=i3 (P:=P) (w:=w) (base:=base) T
 have zC:=FF (P:=P) (w:=w) (base:=base) T
 refine T.Fp.ok lX (fun vs H Q E h=>?_) (fun cdv A outer s H vs Q E hr h=>?_)
 ·obtain⟨d,nm,rw,ss,rs,rfl,_⟩:=h
  rfl
 ·obtain⟨d,nm,rw,ss,rs,rfl,hd,hS,hne,hss,oW,hR,hnr,hrs,vL,k⟩:=h
  have bo:aU 1 _:=hr.mono (by decide)
  have xc:aU 2 _:=hr
  refine⟨_,(aj (aH (i:=3) lX.nd rfl (Or.inl rfl) (aE bt bo rfl T.bK T.bL T.bM .nil aT (ae (pv 0) (ae ai af))))
  (aj (aH (i:=4) lX.nd rfl (Or.inl rfl) (aE zC xc rfl T.yY T.yZ T.y_ .nil aT (ae (pv 0) (ae (pv 1) af))))
  (aj (aH (i:=5) lX.nd rfl (Or.inl rfl) (aE zC xc rfl T.yY T.yZ T.y_ .nil aT (ae (pv 0) (ae (pv 1) af))))
  (aj (bH (PW.pt (je (aP cL (pv 3) ai (aW _)) (jc (aP (yI K hr.units) (pv 2) (bN af) (aW _)))))
   (aD (aR (br (ae (aO (bF K) (bN (ae ah (ae ah af))) (aE bt bo rfl T.bK T.bL T.bM .nil aT (ae (pv 0) (ae ai af))) (fun _ _=>rfl)) (ae (pv 4) (ae (pv 5) af))))))
   bg)
  (aj (bH (aP cL (pv 3) ai (aW _))
   (aD (aR (br (ae ah (ae (pv 4) (ae (pv 5) af))))))
   bg)
  (aj (bH (aP cL (pv 3) ai (aW _))
   (aD (aR (br (ae ah (ae (aO (bF K) (pv 2) (aE bt bo rfl T.bK T.bL T.bM .nil aT (ae (pv 0) (ae (bq (bP K) (by rfl) T.dv cO (ae (pv 2) af)) af))) (fun _ _=>rfl)) (ae (pv 4) (ae (aE bt bo rfl T.bK T.bL T.bM .nil aT (ae (pv 0) (ae (aO (bF K) (bN (ae ai (ae ai af))) (aE bt bo rfl T.bK T.bL T.bM .nil aT (ae (pv 0) (ae ai af))) (fun _ _=>rfl)) af))) af)))))))
   bg)
  (aD (aR (br (ae ah (ae (aO (bF K) (pv 2) (aE bt bo rfl T.bK T.bL T.bM .nil aT (ae (pv 0) (ae (bq (bP K) (by rfl) T.dv cO (ae (pv 2) af)) af))) (fun _ _=>rfl)) (ae (pv 4) (ae (aO (bF K) (pv 2) (aE bt bo rfl T.bK T.bL T.bM .nil aT (ae (pv 0) (ae (bq (bP K) (by rfl) T.dv cO (ae (pv 2) af)) af))) (fun _ _=>rfl)) (ae (pv 5) af)))))))))))))),?_⟩
  refine⟨_,rfl,d,4,rfl,hd,by decide,fun go H1 g0 g1 k1 d1=>?_⟩
  refine⟨_,rfl,_,rfl,d,nm,ss,rfl,d1,k1.seq hne hS,hne,hss,oW,fun p1 t1 H2 zB o1 _ k2 d2=>?_⟩
  have k12:=k1.trans k2
  refine⟨_,rfl,_,rfl,d,nm,ss,rfl,d2,k12.seq hne hS,hne,hss,oW,fun p2 t2 H3 pH o2 _ k3 d3=>?_⟩
  have k13:=k12.trans k3
  have MO:=aJ (d2.kts k3) _ _ t1.bG zB
  have Rr:=k13.seq hnr hR
  have case1:∀H4,Same H3 H4→∀(Q':VK),(∀(p:Addr) (f:ax) (H':Hp),aA K H' (.ref p) f.dt→f.deep=0∧f.gV→KB d H H'→bY H' d→Q' (.ref p) H')→
    GF (jY (BG (GH K) (Ls (jY (tC (.str "same")) (jY (tC (.str "less")) jH))) (I0 B7 [] E0 (jY (qQ 0) (jY (tC (.int 2)) jH)))) (jY (qQ 4) (jY (qQ 5) jH)))
     [some (.ref d),some (.ref nm),some (.ref rw),some (.int go),some (.ref p1),some (.ref p2)] H4 Q':=by
   intro H4 s4 Q' k'
   have d4:=d3.same s4
   refine⟨by show 2≤sizeLine;decide,fun O hO=>?_⟩
   have sO:=Same.new (o:=.lst [.str "same",.str "less"]) hO
   have FG:O≠d:=(d4.ne hO).symm
   refine⟨_,rfl,d,2,rfl,d4.same sO,by decide,fun r H5 r0 r1 k5 d5=>?_⟩
   obtain⟨x,hx,hv⟩:=x5 (V.str "same") (V.str "less") r r0 r1
   refine⟨O,_,_,x,rfl,rfl,.of (k5 _ _ ag FG),hx,_,rfl,_,rfl,by show 3≤sizeLine;decide,fun p hp=>?_⟩
   have kk:fm K H3 H5:=(s4.trans sO).kts.trans ((d4.same sO).kts k5)
   have a1:=aJ kk _ _ t1.bG MO
   have a2:=aJ kk _ _ t2.bG pH
   have kf:KB d H (upd H5 p (.tup [x,.ref p1,.ref p2])):=((k13.trans (s4.trans sO).kb).trans k5).trans (Same.new hp).kb
   have b1:=aJ (Same.new (o:=.tup [x,.ref p1,.ref p2]) hp).kts _ _ t1.bG a1
   have b2:=aJ (Same.new (o:=.tup [x,.ref p1,.ref p2]) hp).kts _ _ t2.bG a2
   rcases hv with rfl | rfl
   ·exact k' p (.same t1 t2) _ (cy (.of ag) (aF bJ (aF b1 (aF b2 bB)))) ⟨rfl,o1,o2⟩ kf (d5.same (Same.new hp))
   ·exact k' p (.less t1 t2) _ (cy (.of ag) (aF bJ (aF b1 (aF b2 bB)))) ⟨rfl,o1,o2⟩ kf (d5.same (Same.new hp))
  refine⟨_,rfl,rfl,_,rfl,?_⟩
  refine dr (fun _=>bE (case1 H3 (Same.refl _) _ k)) (fun _=>?_)
  refine⟨_,rfl,by decide,fun O hO=>?_⟩
  have sO:=Same.new (o:=.lst []) hO
  refine⟨.lst (rs.map .str),.lst [],BZ (sO.seq Rr) (wB rs),BZ (.of ag) bB,rfl,rfl,?_,_,rfl,?_⟩
  ·have:∀l:List Str,Dt.deps (l.map Dt.str)=0:=fun l=>by
    induction l with
    | nil=>simp[Dt.deps]
    | cons y ys ih=>rw[List.map_cons,Dt.deps,ih];simp[Dt.dep]
   rw[Dt.dep,this];decide
  have eb:(if false=true then !(Dt.lst (rs.map .str)).beq (.lst []) else(Dt.lst (rs.map .str)).beq (.lst []))=decide (rs=[]):=by
   rw[if_neg (by decide),Dt.beq]
   cases rs with
   | nil=>simp[Dt.dH]
   | cons y ys=>simp[Dt.dH]
  rw[eb]
  refine dr (fun _=>case1 _ sO _ k) (fun Tn=>?_)
  have ac':0<rs.length:=by
   cases rs with
   | nil=>exact absurd (by simp) Tn
   | cons y ys=>simp
  have d4:=d3.same sO
  have k14:=k13.trans (sO.kb (d:=d))
  have c1:=aJ sO.kts _ _ t1.bG MO
  have c2:=aJ sO.kts _ _ t2.bG pH
  have FH:=sO.seq Rr
  generalize upd H3 O (.lst [])=H4 at d4 k14 c1 c2 FH
  refine⟨_,rfl,rfl,_,rfl,?_⟩
  refine dr (fun _=>?_) (fun _=>?_)
  ·refine⟨_,rfl,_,rfl,by show 3≤sizeLine;decide,fun p hp=>?_⟩
   have sp:=Same.new (o:=.tup [.str "less",.ref p1,.ref p2]) hp
   exact k p (.less t1 t2) _ (cy (.of ag) (aF bJ (aF (aJ sp.kts _ _ t1.bG c1) (aF (aJ sp.kts _ _ t2.bG c2) bB)))) ⟨rfl,o1,o2⟩ (k14.trans sp.kb) (d4.same sp)
  refine⟨_,rfl,rfl,_,rfl,?_⟩
  refine dr (fun _=>?_) (fun _=>?_)
  ·refine⟨_,rfl,_,rfl,_,rfl,_,rs.length,rfl,.inl ⟨_,FH,by rw[List.length_map]⟩,d,(rs.length:Int),rfl,d4,by omega,fun r H5 r0 r1 k5 d5=>?_⟩
   obtain⟨x,hx,MP⟩:=x6 rs r r0 r1
   have FI:=k5.seq hnr FH
   refine⟨rw,_,_,.str x,rfl,rfl,FI,hx,_,rfl,_,rfl,by show 2≤sizeLine;decide,fun O2 Rt=>?_⟩
   have JA:=Same.new (o:=.lst [.int 2,.int 10]) Rt
   have To:O2≠d:=(d5.ne Rt).symm
   refine⟨_,rfl,d,2,rfl,d5.same JA,by decide,fun r' H6 B9 r1' k6 d6=>?_⟩
   obtain⟨m,hm,hv⟩:=x5 (V.int 2) (V.int 10) r' B9 r1'
   obtain⟨mi,rfl,hmi,adi⟩:∃mi:Int,m=.int mi∧0<mi∧mi≤10:=by
    rcases hv with rfl | rfl
    ·exact⟨2,rfl,by decide,by decide⟩
    ·exact⟨10,rfl,by decide,by decide⟩
   refine⟨O2,_,_,.int mi,rfl,rfl,.of (k6 _ _ ag To),hm,d,mi,rfl,d6,hmi,fun sg H7 s0 s1 k7 d7=>⟨by show 4≤sizeLine;decide,fun p hp=>?_⟩⟩
   have sp:=Same.new (o:=.tup [.str "sign",.str x,.ref p1,.int sg]) hp
   have kk:fm K H4 (upd H7 p (.tup [.str "sign",.str x,.ref p1,.int sg])):=((d4.kts k5).trans JA.kts).trans ((((d5.same JA).kts k6).trans (d6.kts k7)).trans sp.kts)
   refine k p (.sign x t1 sg) _ (cy (.of ag) (aF bJ (aF bJ (aF (aJ kk _ _ t1.bG c1) (aF mf bB))))) ⟨rfl,vL x MP,o1,s0,by omega⟩ ?_ (d7.same sp)
   exact((((k14.trans k5).trans JA.kb).trans k6).trans k7).trans sp.kb
  ·refine⟨_,rfl,_,rfl,_,rfl,_,rs.length,rfl,.inl ⟨_,FH,by rw[List.length_map]⟩,d,(rs.length:Int),rfl,d4,by omega,fun r H5 r0 r1 k5 d5=>?_⟩
   obtain⟨x,hx,MP⟩:=x6 rs r r0 r1
   have FI:=k5.seq hnr FH
   refine⟨rw,_,_,.str x,rfl,rfl,FI,hx,_,rfl,_,rfl,_,rfl,_,rfl,_,rs.length,rfl,.inl ⟨_,FI,by rw[List.length_map]⟩,d,(rs.length:Int),rfl,d5,by omega,fun r' H6 B9 r1' k6 d6=>?_⟩
   obtain⟨y,hy,Z4⟩:=x6 rs r' B9 r1'
   refine⟨rw,_,_,.str y,rfl,rfl,k6.seq hnr FI,hy,_,rfl,by show 5≤sizeLine;decide,fun p hp=>?_⟩
   have sp:=Same.new (o:=.tup [.str "alike",.str x,.ref p1,.str y,.ref p2]) hp
   have kk:fm K H4 (upd H6 p (.tup [.str "alike",.str x,.ref p1,.str y,.ref p2])):=(d4.kts k5).trans ((d5.kts k6).trans sp.kts)
   refine k p (.alike x t1 y t2) _ (cy (.of ag) (aF bJ (aF bJ (aF (aJ kk _ _ t1.bG c1) (aF bJ (aF (aJ kk _ _ t2.bG c2) bB)))))) ⟨rfl,vL x MP,o1,vL y Z4,o2⟩ ?_ (d6.same sp)
   exact((k14.trans k5).trans k6).trans sp.kb
theorem DJ {f:ax} (h:f.deep=0):f.comps=0:=by cases f<;>first | rfl | (simp[ax.deep] at h)
def ug (K:PySem.W.Frag) (n:Nat):Sp:=fun vs H Q _=>∃(d nm rw bx:Addr) (ss rs:List Str) (bk:Int) (deep:Nat),vs=[.ref d,.ref nm,.ref rw,.ref bx,.int deep]∧bY H d∧(cf K H nm (ss.map V.str)∧nm≠d∧nm≠bx∧0<ss.length∧ss.length≤10∧Jy ss)∧(cf K H rw (rs.map V.str)∧rw≠d∧rw≠bx∧rs.length≤10∧MK rs)∧
 H bx=some (.lst [.int bk])∧bx≠d∧deep<n∧
 ∀(p:Addr) (f:ax) (H':Hp) (xf:Int),aA K H' (.ref p) f.dt→f.deep≤deep∧f.gV∧(f.comps:Int)≤pz (bk-2)-pz (xf-2)→jz d bx H H'→bY H' d→H' bx=some (.lst [.int xf])→Q (.ref p) H'
theorem kc:bh ["_law_deck_here","_law_names_here","_law_rows","_law_box","_law_deep","_law_goes","_law_one","_law_name"] ["_law_deck_here","_law_names_here","_law_rows","_law_box","_law_deep"] (aw ie):=⟨rfl,rfl,rfl,by decide+kernel,rfl,by decide+kernel,by decide+kernel⟩
theorem tP {a:dG} (T:Txt K mg a):∀n:Nat,a_ P w K mg base dq (n+4) a.jq a.j6 ["_law_deck_here","_law_names_here","_law_rows","_law_box","_law_deep"] (ug K n)
 | 0=>a_.none fun vs H Q E h=>by
  obtain⟨d,nm,rw,bx,ss,rs,bk,deep,_,_,_,_,_,_,hlt,_⟩:=h
  omega
 | n+1=>by
  have iu:=tP T n
  have bt:=i3 (P:=P) (w:=w) (base:=base) T
  have FJ:=DI (P:=P) (w:=w) (base:=base) T
  refine T.Du.ok kc (fun vs H Q E h=>?_) (fun cdv A outer s H vs Q E hr h=>?_)
  ·obtain⟨d,nm,rw,bx,ss,rs,bk,deep,rfl,_⟩:=h
   rfl
  ·obtain⟨d,nm,rw,bx,ss,rs,bk,deep,rfl,hd,⟨hS,hne,hnb,hs0,hss,oW⟩,⟨hR,hnr,hrb,hrs,vL⟩,hb,hbd,hlt,k⟩:=h
   have bo:aU 1 _:=hr.mono (by omega)
   have DK:aU 3 _:=hr.mono (by omega)
   have gK:aU (n+4) _:=hr
   refine⟨_,(aj (Ej (av o7 (aO (bF K) (pv 3) ai (fun _ _=>rfl)) ai) (Ei (pv 3) ai set_list))
   (aj (aH (i:=5) kc.nd rfl (Or.inl rfl) (aE bt bo rfl T.bK T.bL T.bM .nil aT (ae (pv 0) (ae ai af))))
   (aj (bH (PW.pt (je (aP cL (pv 4) ai (aW _)) (je (aP sG (aO (bF K) (pv 3) ai (fun _ _=>rfl)) ai (aW _)) (jc (aP sG (pv 5) ai (aW _))))))
    (aD (aR (aE FJ DK rfl T.Fq T.Fs T.Ft .nil aT (ae (pv 0) (ae (pv 1) (ae (pv 2) af))))))
    bg)
   (aj (bH (aP cL (pv 5) ai (aW _))
    (aD (aR (br (ae ah (ae (aE iu gK rfl T.jr T.js T.jt .nil aT (ae (pv 0) (ae (pv 1) (ae (pv 2) (ae (pv 3) (ae (av o7 (pv 4) ai) af)))))) af)))))
    bg)
   (aj (bH (aP sG (pv 5) ai (aW _))
    (aj (aH (i:=6) kc.nd rfl (Or.inl rfl) (aE iu gK rfl T.jr T.js T.jt .nil aT (ae (pv 0) (ae (pv 1) (ae (pv 2) (ae (pv 3) (ae (av o7 (pv 4) ai) af)))))))
    (aD (aR (br (ae (aO (bF K) (bN (ae ah (ae ah af))) (av cH (pv 5) ai) (fun _ _=>rfl)) (ae (pv 6) (ae (aE iu gK rfl T.jr T.js T.jt .nil aT (ae (pv 0) (ae (pv 1) (ae (pv 2) (ae (pv 3) (ae (av o7 (pv 4) ai) af)))))) af)))))))
    bg)
   (aj (aH (i:=7) kc.nd rfl (Or.inl rfl) (aO (bF K) (pv 1) (aE bt bo rfl T.bK T.bL T.bM .nil aT (ae (pv 0) (ae (bq (bP K) (by rfl) T.dv cO (ae (pv 1) af)) af))) (fun _ _=>rfl)))
   (aD (aR (br (ae (aO (bF K) (bN (ae ah (ae ah af))) (av o7 (pv 5) ai) (fun _ _=>rfl)) (ae (pv 7) (ae (aE iu gK rfl T.jr T.js T.jt .nil aT (ae (pv 0) (ae (pv 1) (ae (pv 2) (ae (pv 3) (ae (av o7 (pv 4) ai) af)))))) af)))))))))))),?_⟩
   refine⟨_,rfl,bx,_,0,.int bk,rfl,rfl,.of hb,aB (j:=0) rfl,_,_,rfl,rfl,?_⟩
   refine⟨_,rfl,bx,_,0,0,rfl,rfl,hb,rfl,?_⟩
   have b1:(upd H bx (.lst ([V.int bk].set 0 (V.int (bk-1))))) bx=some (.lst [.int (bk-1)]):=ag
   have k1:jz d bx H (upd H bx (.lst ([V.int bk].set 0 (V.int (bk-1))))):=KB.r KB.write
   have d1:bY (upd H bx (.lst ([V.int bk].set 0 (V.int (bk-1))))) d:=hd.kb KB.write hbd.symm
   generalize upd H bx (.lst ([V.int bk].set 0 (V.int (bk-1))))=H1 at b1 k1 d1
   refine⟨_,rfl,d,9,rfl,d1,by decide,fun go H2 g0 g1 k2 d2=>?_⟩
   have b2:=k2 _ _ b1 hbd
   have k12:=k1.trans (k2.l (e:=bx))
   have hS2:=k12.seq hne hnb hS
   have Z5:=k12.seq hnr hrb hR
   have plain:∃v,([some (.ref d),some (.ref nm),some (.ref rw),some (.ref bx),some (.int deep),some (.int go),none,none]:St)[0]? =some (some v)∧∃v',([some (.ref d),some (.ref nm),some (.ref rw),some (.ref bx),some (.int deep),some (.int go),none,none]:St)[1]? =some (some v')∧
     ∃v'',([some (.ref d),some (.ref nm),some (.ref rw),some (.ref bx),some (.int deep),some (.int go),none,none]:St)[2]? =some (some v'')∧Cf K ([v,v',v'']++[]) H2 Q E0:=by
    refine⟨_,rfl,_,rfl,_,rfl,d,nm,rw,ss,rs,rfl,d2,hS2,hne,hss,oW,Z5,hnr,hrs,vL,fun p f H' dt dp kk dd=>?_⟩
    have c0:f.comps=0:=DJ dp.1
    exact k p f H' (bk-1) dt ⟨by have:=dp.1;omega,dp.2,by rw[c0];unfold pz;omega⟩ (k12.trans (kk.l (e:=bx))) dd (kk _ _ b2 hbd)
   refine⟨_,rfl,rfl,_,rfl,?_⟩
   refine dr (fun _=>bE plain) (fun JB=>?_)
   refine⟨_,rfl,bx,_,0,.int (bk-1),rfl,rfl,.of b2,aB (j:=0) rfl,_,_,rfl,rfl,_,rfl,?_⟩
   refine dr (fun _=>bE plain) (fun Tp=>?_)
   have adj:3≤bk:=by
    have:¬(bk-1<2):=fun z=>Tp (decide_eq_true z)
    omega
   refine⟨_,rfl,_,_,rfl,rfl,_,rfl,?_⟩
   refine dr (fun _=>plain) (fun adk=>?_)
   have ada:0<deep:=by
    by_cases z:deep=0
    ·exact absurd (dI (by omega)) JB
    ·omega
   obtain⟨e,he⟩:∃e:Nat,(deep:Int)-1=(e:Int):=⟨deep-1,by omega⟩
   have he':e=deep-1:=by omega
   have self:∀(H3:Hp) (b3:Int) (Q':VK),bY H3 d→H3 bx=some (.lst [.int b3])→jz d bx H H3→
     (∀(p:Addr) (f:ax) (H':Hp) (xf:Int),aA K H' (.ref p) f.dt→f.deep≤deep-1∧f.gV∧(f.comps:Int)≤pz (b3-2)-pz (xf-2)→jz d bx H3 H'→bY H' d→H' bx=some (.lst [.int xf])→Q' (.ref p) H')→
     ug K n ([.ref d,.ref nm,.ref rw,.ref bx,.int ((deep:Int)-1)]++[]) H3 Q' E0:=by
    intro H3 b3 Q' d3 h3 k3 kq
    refine⟨d,nm,rw,bx,ss,rs,b3,e,by rw[he];rfl,d3,⟨k3.seq hne hnb hS,hne,hnb,hs0,hss,oW⟩,⟨k3.seq hnr hrb hR,hnr,hrb,hrs,vL⟩,h3,hbd,by omega,fun p f H' xf dt dp kk dd hb'=>?_⟩
    exact kq p f H' xf dt ⟨by have:=dp.1;omega,dp.2⟩ kk dd hb'
   refine⟨_,rfl,rfl,_,rfl,?_⟩
   refine dr (fun _=>?_) (fun _=>?_)
   ·refine⟨_,rfl,_,rfl,_,rfl,_,rfl,_,rfl,_,_,rfl,rfl,?_⟩
    dsimp only[jH]
    refine self H2 _ _ d2 b2 k12 fun p f H3 b3 dt dp kk dd hb3=>⟨by show 2≤sizeLine;decide,fun q hq=>?_⟩
    have sq:=Same.new (o:=.tup [.str "not",.ref p]) hq
    exact k q (.no f) _ b3 (cy (.of ag) (aF bJ (aF (aJ sq.kts _ _ f.bG dt) bB))) ⟨by have:=dp.1;simp only[ax.deep];omega,dp.2.1,by have:=dp.2.2;simp only[ax.comps];unfold pz at *; omega⟩ ((k12.trans kk).trans sq.kb2) (dd.same sq) (sq _ _ hb3)
   refine⟨_,rfl,_,_,rfl,rfl,_,rfl,?_⟩
   refine dr (fun _=>?_) (fun Tq=>?_)
   ·refine⟨_,rfl,_,rfl,_,rfl,_,rfl,_,rfl,_,_,rfl,rfl,?_⟩
    dsimp only[jH]
    refine self H2 _ _ d2 b2 k12 fun p f H3 b3 dt dp kk dd hb3=>?_
    refine⟨by show 2≤sizeLine;decide,fun O hO=>?_⟩
    have sO:=Same.new (o:=.lst [.str "and",.str "or"]) hO
    obtain⟨x,hx,hv⟩:=x5 (V.str "and") (V.str "or") (go % 2) (Int.emod_nonneg _ (by decide)) (Int.emod_lt_of_pos _ (by decide))
    refine⟨_,rfl,_,_,rfl,rfl,cpos (by decide),O,_,_,x,rfl,rfl,.of ag,hx,_,rfl,_,rfl,_,rfl,_,rfl,_,rfl,_,rfl,_,_,rfl,rfl,?_⟩
    dsimp only[jH]
    refine self _ _ _ (dd.same sO) (sO _ _ hb3) ((k12.trans kk).trans sO.kb2) fun p2 f2 H4 b4 pH Cg Ru dd2 hb4=>⟨by show 3≤sizeLine;decide,fun q hq=>?_⟩
    have sq:=Same.new (o:=.tup [x,.ref p,.ref p2]) hq
    obtain⟨xd,MF⟩:=(dd.same sO).is
    have kt:fm K H3 (upd H4 q (.tup [x,.ref p,.ref p2])):=sO.kts.trans ((jz.kts MF (sO _ _ hb3) Ru).trans sq.kts)
    have m1:=aJ kt _ _ f.bG dt
    have m2:=aJ sq.kts _ _ f2.bG pH
    have kf:jz d bx H (upd H4 q (.tup [x,.ref p,.ref p2])):=(((k12.trans kk).trans sO.kb2).trans Ru).trans sq.kb2
    rcases hv with rfl | rfl
    ·exact k q (.and f f2) _ b4 (cy (.of ag) (aF bJ (aF m1 (aF m2 bB)))) ⟨by have:=dp.1;have:=Cg.1;simp only[ax.deep];omega,⟨dp.2.1,Cg.2.1⟩,by have:=dp.2.2;have:=Cg.2.2;simp only[ax.comps];unfold pz at *; omega⟩ kf (dd2.same sq) (sq _ _ hb4)
    ·exact k q (.or f f2) _ b4 (cy (.of ag) (aF bJ (aF m1 (aF m2 bB)))) ⟨by have:=dp.1;have:=Cg.1;simp only[ax.deep];omega,⟨dp.2.1,Cg.2.1⟩,by have:=dp.2.2;have:=Cg.2.2;simp only[ax.comps];unfold pz at *; omega⟩ kf (dd2.same sq) (sq _ _ hb4)
   ·refine⟨_,rfl,_,rfl,_,rfl,_,ss.length,rfl,.inl ⟨_,hS2,by rw[List.length_map]⟩,d,(ss.length:Int),rfl,d2,by omega,fun r H3 r0 r1 k3 d3=>?_⟩
    obtain⟨nx,hnx,MQ⟩:=x6 ss r r0 r1
    have k13:=k12.trans (k3.l (e:=bx))
    have b3:=k3 _ _ b2 hbd
    refine⟨nm,_,_,.str nx,rfl,rfl,k13.seq hne hnb hS,hnx,?_⟩
    refine⟨by show 2≤sizeLine;decide,fun O hO=>?_⟩
    have sO:=Same.new (o:=.lst [.str "some",.str "each"]) hO
    have adb:7≤go:=by
     have:¬(go<7):=fun z=>Tq (decide_eq_true z)
     omega
    obtain⟨x,hx,hv⟩:=x5 (V.str "some") (V.str "each") (go-7) (by omega) (by omega)
    refine⟨_,rfl,_,_,rfl,rfl,O,_,_,x,rfl,rfl,.of ag,hx,_,rfl,_,rfl,_,rfl,_,rfl,_,rfl,_,rfl,_,_,rfl,rfl,?_⟩
    dsimp only[jH]
    refine self _ _ _ (d3.same sO) (sO _ _ b3) (k13.trans sO.kb2) fun p f H4 b4 dt dp kk dd hb4=>⟨by show 3≤sizeLine;decide,fun q hq=>?_⟩
    have sq:=Same.new (o:=.tup [x,.str nx,.ref p]) hq
    have m1:=aJ sq.kts _ _ f.bG dt
    have kf:jz d bx H (upd H4 q (.tup [x,.str nx,.ref p])):=((k13.trans sO.kb2).trans kk).trans sq.kb2
    rcases hv with rfl | rfl
    ·exact k q (.some nx f) _ b4 (cy (.of ag) (aF bJ (aF bJ (aF m1 bB)))) ⟨by have:=dp.1;simp only[ax.deep];omega,⟨oW.2 _ MQ,dp.2.1⟩,by have:=dp.2.2;simp only[ax.comps];unfold pz at *; omega⟩ kf (dd.same sq) (sq _ _ hb4)
    ·exact k q (.each nx f) _ b4 (cy (.of ag) (aF bJ (aF bJ (aF m1 bB)))) ⟨by have:=dp.1;simp only[ax.deep];omega,⟨oW.2 _ MQ,dp.2.1⟩,by have:=dp.2.2;simp only[ax.comps];unfold pz at *; omega⟩ kf (dd.same sq) (sq _ _ hb4)
def ax.word:ax→Str
 | .same _ _=>"same" | .less _ _=>"less" | .sign _ _ _=>"sign" | .alike _ _ _ _=>"alike" | .no _=>"not" | .and _ _=>"and" | .or _ _=>"or" | .some _ _=>"some" | .each _ _=>"each"
def ax.inner:ax→List ax
 | .no f=>[f] | .and f g=>[f,g] | .or f g=>[f,g] | .some _ f=>[f] | .each _ f=>[f] | _=>[]
def ax.spots:ax→List Nat
 | .no _=>[1] | .and _ _=>[1,2] | .or _ _=>[1,2] | .some _ _=>[2] | .each _ _=>[2] | _=>[]
structure rY where
 d:Addr
 no:Addr
 an:Addr
 or:Addr
 so:Addr
 ea:Addr
def eS (b:rY):List (Str×Option V):=
 [("not",some (.ref b.no)),("and",some (.ref b.an)),("or",some (.ref b.or)),("some",some (.ref b.so)),("each",some (.ref b.ea)),("same",none),("less",none),("sign",none),("alike",none)]
structure oH (K:PySem.W.Frag) (pr:Params) (mg:Str→Option Value) (b:rY):Prop where
 MR:mg "PART_SPOTS"=some (.ref b.d)
 MS:vv K pr b.d (eS b)
 no:∀H,cp K H b.no [.int 1]
 an:∀H,cp K H b.an [.int 1,.int 2]
 or:∀H,cp K H b.or [.int 1,.int 2]
 so:∀H,cp K H b.so [.int 2]
 ea:∀H,cp K H b.ea [.int 2]
theorem oH.spots {K:PySem.W.Frag} {pr:Params} {mg:Str→Option Value} {b:rY} (U:oH K pr mg b) (f:ax) (H:Hp) (e:Addr) (he:cp K H e []):
  ∃r p,(f.word,r)∈eS b∧r.getD (.ref e)=.ref p∧cp K H p (f.spots.map fun(n:Nat)=>V.int (n:Int)):=by
 cases f with
 | same t u=>exact⟨none,e,by simp[eS,ax.word],rfl,he⟩
 | less t u=>exact⟨none,e,by simp[eS,ax.word],rfl,he⟩
 | sign a t s=>exact⟨none,e,by simp[eS,ax.word],rfl,he⟩
 | alike a t c u=>exact⟨none,e,by simp[eS,ax.word],rfl,he⟩
 | no f=>exact⟨some (.ref b.no),b.no,by simp[eS,ax.word],rfl,U.no H⟩
 | and f g=>exact⟨some (.ref b.an),b.an,by simp[eS,ax.word],rfl,U.an H⟩
 | or f g=>exact⟨some (.ref b.or),b.or,by simp[eS,ax.word],rfl,U.or H⟩
 | some n f=>exact⟨some (.ref b.so),b.so,by simp[eS,ax.word],rfl,U.so H⟩
 | each n f=>exact⟨some (.ref b.ea),b.ea,by simp[eS,ax.word],rfl,U.ea H⟩
theorem dD {K:PySem.W.Frag} {H:Hp} {xs:List V} {d:Dt} {ds:List Dt} (h:aL K H xs (d::ds)):∃y ys,xs=y::ys∧aA K H y d∧aL K H ys ds:=by
 cases xs with
 | nil=>simp[aL] at h
 | cons y ys=>rw[aL] at h;exact⟨y,ys,rfl,h.1,h.2⟩
theorem iI {K:PySem.W.Frag} {H:Hp} {x:V} {ds:List Dt} (h:aA K H x (.tup ds)):∃a xs,x=.ref a∧cp K H a xs∧aL K H xs ds:=by rw[aA] at h;exact h
theorem ax.isTup (f:ax):∃ds,f.dt=.tup (.str f.word::ds):=by
 cases f<;>exact⟨_,rfl⟩
theorem MT {K:PySem.W.Frag} {H:Hp} {x:V} (f:ax) (h:aA K H x f.dt):∃a xs,x=.ref a∧cp K H a xs∧xs[0]? =some (.str f.word)∧
  ∀(i n:Nat),f.spots[i]? =some n→∃y g,xs[n]? =some y∧f.inner[i]? =some g∧aA K H y g.dt:=by
 obtain⟨ds,e⟩:=f.isTup
 have h':=h
 rw[e] at h'
 obtain⟨a,xs,rfl,hq,hd⟩:=iI h'
 obtain⟨y0,ys,rfl,h0,hd1⟩:=dD hd
 clear hd
 refine⟨a,_,rfl,hq,by rw[aA] at h0;rw[h0];rfl,?_⟩
 have one:∀{i n m:Nat},([m]:List Nat)[i]? =some n→i=0∧n=m:=fun {i n m} z=>by
  cases i with
  | zero=>simp at z;exact⟨rfl,z.symm⟩
  | succ i=>simp at z
 have two:∀{i n m k:Nat},([m,k]:List Nat)[i]? =some n→(i=0∧n=m)∨(i=1∧n=k):=fun {i n m k} z=>by
  match i with
  | 0=>simp at z;exact .inl ⟨rfl,z.symm⟩
  | 1=>simp at z;exact .inr ⟨rfl,z.symm⟩
  | i+2=>simp at z
 cases f with
 | same t u=>intro i n z;simp[ax.spots] at z
 | less t u=>intro i n z;simp[ax.spots] at z
 | sign b t s=>intro i n z;simp[ax.spots] at z
 | alike b t c u=>intro i n z;simp[ax.spots] at z
 | no f=>
  cases e
  obtain⟨y1,ys,rfl,h1,_⟩:=dD hd1
  intro i n z
  obtain⟨rfl,rfl⟩:=one z
  exact⟨y1,f,rfl,rfl,h1⟩
 | and f g=>
  cases e
  obtain⟨y1,ys,rfl,h1,hd2⟩:=dD hd1
  obtain⟨y2,ys,rfl,h2,_⟩:=dD hd2
  intro i n z
  rcases two z with⟨rfl,rfl⟩ | ⟨rfl,rfl⟩
  ·exact⟨y1,f,rfl,rfl,h1⟩
  ·exact⟨y2,g,rfl,rfl,h2⟩
 | or f g=>
  cases e
  obtain⟨y1,ys,rfl,h1,hd2⟩:=dD hd1
  obtain⟨y2,ys,rfl,h2,_⟩:=dD hd2
  intro i n z
  rcases two z with⟨rfl,rfl⟩ | ⟨rfl,rfl⟩
  ·exact⟨y1,f,rfl,rfl,h1⟩
  ·exact⟨y2,g,rfl,rfl,h2⟩
 | some m f=>
  cases e
  obtain⟨y1,ys,rfl,h1,hd2⟩:=dD hd1
  obtain⟨y2,ys,rfl,h2,_⟩:=dD hd2
  intro i n z
  obtain⟨rfl,rfl⟩:=one z
  exact⟨y2,f,rfl,rfl,h2⟩
 | each m f=>
  cases e
  obtain⟨y1,ys,rfl,h1,hd2⟩:=dD hd1
  obtain⟨y2,ys,rfl,h2,_⟩:=dD hd2
  intro i n z
  obtain⟨rfl,rfl⟩:=one z
  exact⟨y2,f,rfl,rfl,h2⟩
theorem xg (f:ax):f.spots.length=f.inner.length:=by cases f<;>rfl
theorem kd (f:ax):f.inner.length≤2:=by cases f<;>simp[ax.inner]
theorem DL (f g:ax) (h:g∈f.inner):g.deep<f.deep:=by
 cases f with
 | no f=>
  have:g=f:=by simpa[ax.inner] using h
  subst this;simp[ax.deep]
 | and f1 f2=>
  have:g=f1∨g=f2:=by simpa[ax.inner] using h
  rcases this with rfl | rfl<;>simp only[ax.deep]<;>omega
 | or f1 f2=>
  have:g=f1∨g=f2:=by simpa[ax.inner] using h
  rcases this with rfl | rfl<;>simp only[ax.deep]<;>omega
 | some n f=>
  have:g=f:=by simpa[ax.inner] using h
  subst this;simp[ax.deep]
 | each n f=>
  have:g=f:=by simpa[ax.inner] using h
  subst this;simp[ax.deep]
 | _=>simp[ax.inner] at h
theorem zD:∀fs:List ax,Dt.eG (fs.map ax.dt)=true
 | []=>by simp[Dt.eG]
 | f::fs=>by rw[List.map_cons,Dt.eG,zD fs,f.bG];rfl
def vM (K:PySem.W.Frag):Sp:=fun vs H Q _=>∃(x:V) (f:ax),vs=[x]∧aA K H x f.dt∧∀(D:Addr) (xs:List V) (H':Hp),H D=none→Same H H'→H' D=some (.lst xs)→aL K H' xs (f.inner.map ax.dt)→Q (.ref D) H'
theorem vN:bh ["saying"] ["saying"] (aw eI):=⟨rfl,rfl,rfl,by decide+kernel,rfl,by decide+kernel,by decide+kernel⟩
theorem pI {a:dG} {b:rY} (T:Txt K mg a) (U:oH K w.params mg b):a_ P w K mg base dq 1 a.fC a.fT ["saying"] (vM K):=by
 refine T.xM.ok vN (fun vs H Q E h=>?_) (fun cdv A outer s H vs Q E hr h=>?_)
 ·obtain⟨x,f,rfl,_⟩:=h
  rfl
 ·obtain⟨x,f,rfl,hf,k⟩:=h
  obtain⟨a,xs,rfl,hq,h0,hsp⟩:=MT f hf
  refine⟨_,(aD (aR (pj (bO.mk' (esc:=aw eI) (N:=["saying"]) (own:=["spot"]) (bX:=["saying"]) (cS:=[0]) rfl rfl (by decide+kernel)) rfl (El (ER U.MS rfl U.MR (aO (aS K) (pv 0) ai (fun _ _=>rfl)) (br af))) (fun _ _ _ _=>(cR (i:=0) (show List.Nodup (["spot","saying"]:List Str) by decide+kernel) rfl (Or.inl rfl))) (fun _ _ _ _=>gQ) (fun _ _ _ _=>(aO (aS K) (pv 1) (pv 0) (fun _ _=>rfl)))))),?_⟩
  refine⟨_,rfl,a,xs,0,.str f.word,rfl,rfl,hq,aB (j:=0) h0,by decide,fun e he=>?_⟩
  have s1:=Same.new (o:=.tup []) he
  obtain⟨r,p,hr1,hr2,Rv⟩:=U.spots f (upd H e (.tup [])) e (.of ag)
  refine⟨f.word,r,rfl,hr1,p,hr2,⟨_,Rv⟩,fun C hC=>?_⟩
  refine yD (xs:=f.spots.map fun(n:Nat)=>V.int (n:Int)) (fun i σ H'=>∃(ys:List V) (v:Option V),σ=[v,some (.ref a)]∧Same (upd H e (.tup [])) H'∧H' C=some (.lst ys)∧aL K H' ys ((f.inner.take i).map ax.dt)∧ys.length=i)
   ⟨[],none,rfl,Same.new hC,ag,bB,rfl⟩ (fun i σ H' _ ⟨_,_,_,h,_⟩=>h.iP Rv) ?_ ?_
  ·rintro i y σ H1 hy ⟨ys,v,rfl,s2,e2,pH,ly⟩
   rw[List.getElem?_map] at hy
   cases en:f.spots[i]? with
   | none=>rw[en] at hy;cases hy
   | some n=>
    rw[en] at hy
    have ey:y=.int (n:Int):=(Option.some.inj hy).symm
    subst ey
    obtain⟨z,g,hz,hg,MU⟩:=hsp i n en
    have kt:fm K H H1:=(s1.trans s2).kts
    refine⟨_,rfl,_,rfl,a,xs,_,z,rfl,rfl,kt _ _ hq,aB hz,ys,e2,?_,ys++[z],_,rfl,s2.kbn hC KB.write,ag,?_,?_⟩
    ·have:i<f.spots.length:=(List.getElem?_eq_some_iff.mp en).1
     have h2:=kd f
     rw[xg] at this
     exact Nat.lt_of_lt_of_le (show ys.length<10 by omega) (by decide)
    ·have e1:f.inner.take (i+1)=f.inner.take i++[g]:=by rw[List.take_add_one,hg];rfl
     rw[e1,List.map_append]
     have kk:fm K H1 (upd H1 C (.lst (ys++[z]))):=KB.kts e2 KB.write
     exact p5 (cz kk _ _ (zD _) pH) (aF (aJ (kt.trans kk) _ _ g.bG MU) bB)
    ·rw[List.length_append,ly];rfl
  ·rintro σ H1 ⟨ys,v,rfl,s2,e2,pH,ly⟩
   rw[List.length_map,xg,List.take_length] at pH
   exact k C ys H1 (s1.free hC) (s1.trans s2) e2 pH
theorem take_snoc {α:Type} {xs:List α} {i:Nat} {x:α} (h:xs[i]? =some x):xs.take (i+1)=xs.take i++[x]:=by rw[List.take_add_one,h];rfl
def dj (ns:List Nat):List V:=ns.map fun(n:Nat)=>V.int (n:Int)
def ax.at :ax→List Nat→Option ax
 | f,[]=>Option.some f
 | f,n::ns=>(f.inner[n]?).bind fun g=>g.at ns
theorem FK:∀(ns:List Nat) (f g h:ax) (k:Nat),f.at ns=some g→g.inner[k]? =some h→f.at (ns++[k])=some h
 | [],f,g,h,k,e,e2=>by
  have e':f=g:=Option.some.inj e
  subst e'
  show(f.inner[k]?).bind (fun g=>g.at [])=some h
  rw[e2];rfl
 | n::ns,f,g,h,k,e,e2=>by
  have e':(f.inner[n]?).bind (fun g=>g.at ns)=some g:=e
  obtain⟨u,eu,ea⟩:=Option.bind_eq_some_iff.mp e'
  show(f.inner[n]?).bind (fun g=>g.at (ns++[k]))=some h
  rw[eu]
  exact FK ns u g h k ea e2
def ax.size:ax→Nat
 | .no f=>f.size+1 | .and f g=>f.size+g.size+1 | .or f g=>f.size+g.size+1 | .some _ f=>f.size+1 | .each _ f=>f.size+1 | _=>1
theorem size_inner (f:ax):(f.inner.map ax.size).sum+1=f.size:=by cases f<;>simp[ax.inner,ax.size]
abbrev Ent:=List Nat×ax
def kids (ns:List Nat):Nat→List ax→List Ent
 | _,[]=>[]
 | k,h::t=>(ns++[k],h)::kids ns (k+1) t
theorem sU (ns:List Nat):∀(l:List ax) (k i:Nat),(kids ns k l)[i]? =(l[i]?).map fun h=>(ns++[k+i],h)
 | [],k,i=>by simp[kids]
 | h::t,k,0=>rfl
 | h::t,k,i+1=>by
  rw[kids,List.getElem?_cons_succ,List.getElem?_cons_succ,sU ns t (k+1) i,show k+1+i=k+(i+1) by omega]
theorem uh (ns:List Nat):∀(l:List ax) (k:Nat),(kids ns k l).length=l.length
 | [],_=>rfl
 | h::t,k=>by rw[kids,List.length_cons,uh ns t,List.length_cons]
theorem zE (ns:List Nat):∀(l:List ax) (k:Nat),((kids ns k l).map fun e=>e.2.size).sum=(l.map ax.size).sum
 | [],_=>rfl
 | h::t,k=>by rw[kids,List.map_cons,List.map_cons,List.sum_cons,List.sum_cons,zE ns t]
def ui (K:PySem.W.Frag) (H:Hp) (q:Addr) (e:Ent):Prop:=∃pl y,H q=some (.tup [.ref pl,y])∧H pl=some (.tup (dj e.1))∧aA K H y e.2.dt
theorem ui.keep {K:PySem.W.Frag} {H H':Hp} {q:Addr} {e:Ent} (h:ui K H q e) (k:eX H H') (ks:fm K H H'):ui K H' q e:=by
 obtain⟨pl,y,h1,h2,h3⟩:=h
 exact⟨pl,y,k _ _ h1,k _ _ h2,aJ ks _ _ e.2.bG h3⟩
abbrev cM (K:PySem.W.Frag) (H:Hp):List Addr→List Ent→Prop:=Paired (ui K H)
theorem cM.keep {K:PySem.W.Frag} {H H':Hp} (k:eX H H') (ks:fm K H H'):∀{qs:List Addr} {es:List Ent},cM K H qs es→cM K H' qs es
 | _,_,.nil=>.nil
 | _,_,.cons h t=>.cons (h.keep k ks) (cM.keep k ks t)
theorem sV {K:PySem.W.Frag} {H:Hp} {qs rs:List Addr} {es ds:List Ent} (a:cM K H qs es) (b:cM K H rs ds):cM K H (qs++rs) (es++ds):=gx a b
theorem Ci {K:PySem.W.Frag} {H:Hp}:∀{qs:List Addr} {es:List Ent} {i:Nat} {q:Addr},cM K H qs es→qs[i]? =some q→∃e,es[i]? =some e∧ui K H q e
 | _,_,_,_,.nil,h=>by simp at h
 | _,_,0,_,.cons a _,h=>by simp at h;subst h;exact⟨_,rfl,a⟩
 | _,_,i+1,_,.cons _ t,h=>by
  simp only[List.getElem?_cons_succ] at h ⊢
  exact Ci t h
theorem zF {K:PySem.W.Frag} {H:Hp}:∀{qs:List Addr} {es:List Ent},cM K H qs es→qs≠[]→∃JC q es' e,qs=JC++[q]∧es=es'++[e]∧cM K H JC es'∧ui K H q e
 | _,_,.nil,h=>absurd rfl h
 | [q],[e],.cons a .nil,_=>⟨[],q,[],e,rfl,rfl,.nil,a⟩
 | q::q2::qs,e::e2::es,.cons a (.cons b t),_=>by
  obtain⟨JC,r,es',d,e1,e3,h1,h2⟩:=zF (.cons b t) (by simp)
  exact⟨q::JC,r,e::es',d,by rw[e1];rfl,by rw[e3];rfl,.cons a h1,h2⟩
structure Ord (f:ax) (we fe:List Ent):Prop where
 here:∀e,e∈we∨e∈fe→f.at e.1=some e.2
 kid:∀(i:Nat) (ns:List Nat) (g:ax),fe[i]? =some (ns,g)→∀k h,g.inner[k]? =some h→(ns++[k],h)∈we∨∃j,i<j∧fe[j]? =some (ns++[k],h)
 root:([],f)∈we∨([],f)∈fe
theorem Ord.step {f:ax} {we fe:List Ent} {ns:List Nat} {g:ax} (o:Ord f (we++[(ns,g)]) fe):Ord f (we++kids ns 0 g.inner) (fe++[(ns,g)]) where
 here:=fun e he=>by
  have hg:f.at ns=some g:=o.here (ns,g) (.inl (by simp))
  rcases he with he | he
  ·rcases List.mem_append.mp he with he | he
   ·exact o.here e (.inl (List.mem_append.mpr (.inl he)))
   ·obtain⟨i,hi⟩:=List.getElem?_of_mem he
    rw[sU] at hi
    cases eh:g.inner[i]? with
    | none=>rw[eh] at hi;cases hi
    | some h=>
     rw[eh] at hi
     have hi':(ns++[0+i],h)=e:=Option.some.inj hi
     rw[←hi',Nat.zero_add]
     exact FK ns f g h i hg eh
  ·rcases List.mem_append.mp he with he | he
   ·exact o.here e (.inr he)
   ·rw[List.mem_singleton.mp he];exact hg
 kid:=fun i ms u hi k h hk=>by
  by_cases lt:i<fe.length
  ·rw[List.getElem?_append_left lt] at hi
   rcases o.kid i ms u hi k h hk with z | ⟨j,hj,z⟩
   ·rcases List.mem_append.mp z with z | z
    ·exact .inl (List.mem_append.mpr (.inl z))
    ·refine .inr ⟨fe.length,lt,?_⟩
     rw[List.getElem?_append_right (Nat.le_refl _),Nat.sub_self,List.mem_singleton.mp z];rfl
   ·have hj2:=(List.getElem?_eq_some_iff.mp z).1
    exact .inr ⟨j,hj,by rw[List.getElem?_append_left hj2];exact z⟩
  ·have hl:=(List.getElem?_eq_some_iff.mp hi).1
   rw[List.length_append] at hl
   have hl':i<fe.length+1:=hl
   have e:i=fe.length:=by omega
   subst e
   rw[List.getElem?_append_right (Nat.le_refl _),Nat.sub_self] at hi
   have hi':(ns,g)=(ms,u):=Option.some.inj hi
   cases hi'
   refine .inl (List.mem_append.mpr (.inr (List.mem_of_getElem? (i:=k) ?_)))
   rw[sU,hk,Nat.zero_add];rfl
 root:=by
  rcases o.root with z | z
  ·rcases List.mem_append.mp z with z | z
   ·exact .inl (List.mem_append.mpr (.inl z))
   ·exact .inr (List.mem_append.mpr (.inr z))
  ·exact .inr (List.mem_append.mpr (.inl z))
structure MV (f:ax) (es:List Ent):Prop where
 here:∀e∈es,f.at e.1=some e.2
 kid:∀(i:Nat) (ns:List Nat) (g:ax),es[i]? =some (ns,g)→∀k h,g.inner[k]? =some h→∃j,j<i∧es[j]? =some (ns++[k],h)
 root:([],f)∈es
theorem Ord.late {f:ax} {fe:List Ent} (o:Ord f [] fe):MV f fe.reverse where
 here:=fun e he=>o.here e (.inr (List.mem_reverse.mp he))
 kid:=fun i ns g hi k h hk=>by
  have lt:i<fe.length:=by have:=(List.getElem?_eq_some_iff.mp hi).1;rwa [List.length_reverse] at this
  rw[List.getElem?_reverse lt] at hi
  rcases o.kid _ ns g hi k h hk with z | ⟨j,hj,z⟩
  ·cases z
  ·have hj2:=(List.getElem?_eq_some_iff.mp z).1
   refine⟨fe.length-1-j,by omega,?_⟩
   rw[List.getElem?_reverse (by omega),show fe.length-1-(fe.length-1-j)=j by omega]
   exact z
 root:=by
  rcases o.root with z | z
  ·cases z
  ·exact List.mem_reverse.mpr z
theorem Cj:∀we:List Ent,we.length≤(we.map fun e=>e.2.size).sum
 | []=>Nat.le_refl _
 | e::we=>by
  have h1:=Cj we
  have h2:=size_inner e.2
  rw[List.map_cons,List.sum_cons,List.length_cons]
  omega
theorem Ck:∀(ns:List Nat) (f g:ax),f.at ns=some g→ns.length+g.deep≤f.deep
 | [],f,g,e=>by
  have e':f=g:=Option.some.inj e
  subst e'
  simp
 | n::ns,f,g,e=>by
  have e':(f.inner[n]?).bind (fun g=>g.at ns)=some g:=e
  obtain⟨u,eu,ea⟩:=Option.bind_eq_some_iff.mp e'
  have h1:=Ck ns u g ea
  have h2:=DL f u (List.mem_of_getElem? eu)
  rw[List.length_cons]
  omega
theorem zG {f g:ax} {ns:List Nat} (h:f.deep≤1000∧f.size≤70000) (e:f.at ns=some g):ns.length≤1000:=by
 have:=Ck ns f g e
 have:=h.1
 omega
theorem Cm {K:PySem.W.Frag} {H:Hp}:∀{qs:List Addr} {es:List Ent},cM K H qs es→cM K H qs.reverse es.reverse
 | _,_,.nil=>.nil
 | _,_,.cons a t=>by
  rw[List.reverse_cons,List.reverse_cons]
  exact sV (Cm t) (.cons a .nil)
def Cn (K:PySem.W.Frag):Sp:=fun vs H Q _=>∃(x:V) (f:ax),vs=[x]∧aA K H x f.dt∧(f.deep≤1000∧f.size≤70000)∧
 ∀(D:Addr) (qs:List Addr) (es:List Ent) (H':Hp),H D=none→Same H H'→H' D=some (.lst (qs.map V.ref))→cM K H' qs es→MV f es→es.length≤100000→Q (.ref D) H'
theorem Co {rs:List Addr} {i:Nat} {x:V} (h:(rs.map V.ref)[i]? =some x):∃r,x=.ref r∧rs[i]? =some r:=by
 rw[List.getElem?_map] at h
 cases e:rs[i]? with
 | none=>rw[e] at h;cases h
 | some r=>rw[e] at h;exact⟨r,(Option.some.inj h).symm,rfl⟩
theorem dE:bh ["saying","waiting","found","pair","number","part"] ["saying"] (aw dN):=⟨rfl,rfl,rfl,by decide+kernel,rfl,by decide+kernel,by decide+kernel⟩
theorem tq {a:dG} {b:rY} (T:Txt K mg a) (U:oH K w.params mg b):a_ P w K mg base dq 2 a.fb a.fP ["saying"] (Cn K):=by
 have lj:a_ P w K mg base dq 1 a.fC a.fT ["saying"] (vM K):=pI T U
 refine T.tY.ok dE (fun vs H Q E h=>?_) (fun cdv A outer s H vs Q E hr h=>?_)
 ·obtain⟨x,f,rfl,_⟩:=h
  rfl
 ·obtain⟨x,f,rfl,hf,hdp,k⟩:=h
  have jX:aU 1 _:=hr
  refine⟨_,(aj (aH (i:=1) dE.nd rfl (Or.inl rfl) (bN (ae (br (ae (br af) (ae (pv 0) af))) af)))
  (aj (aH (i:=2) dE.nd rfl (Or.inl rfl) (bN af))
  (aj (mn PassesOwn.never (df (pv 1) (fun _=>rfl))
   (aj (aH (i:=3) dE.nd rfl (Or.inl rfl) (qT PySem.F.plainAttrs_list PySem.F.slot_list_pop PySem.F.type_list_pop uA (pv 1)))
   (aj (dZ (dm PySem.F.plainAttrs_list PySem.F.slot_list_append PySem.F.type_list_append dg (pv 2) (ae (pv 3) af)))
   (aD (ko PassesOwn.never rfl (Kz rfl T.Bg (ae (aE lj jX rfl T.qC T.qD T.qE .nil aT (ae (aO (aS K) (pv 3) ai (fun _ _=>rfl)) af)) af)) (Eh rfl (pT (cR (i:=4) dE.nd rfl (Or.inl rfl)) (pT (cR (i:=5) dE.nd rfl (Or.inl rfl)) BD)))
    (aD (dZ (dm PySem.F.plainAttrs_list PySem.F.slot_list_append PySem.F.type_list_append dg (pv 1) (ae (br (ae (av (yF K) (aO (aS K) (pv 3) ai (fun _ _=>rfl)) (br (ae (pv 4) af))) (ae (pv 5) af))) af)))))))))
  (aD (aR (C3 K rfl rfl T.Mv rfl T.Dz (ae (pv 2) af))))))),?_⟩
  have Z6:f.size≤70000:=hdp.2
  refine⟨by decide,fun e0 Z7=>⟨_,rfl,by show 2≤sizeLine;decide,fun q0 hq0=>⟨by show 1≤sizeLine;decide,fun Wt Rw=>?_⟩⟩⟩
  have s0:=Same.new (o:=.tup []) Z7
  have s1:=Same.new (o:=.tup [.ref e0,x]) hq0
  have s2:=Same.new (o:=.lst [.ref q0]) Rw
  refine⟨by decide,fun Fo MW=>?_⟩
  have s3:=Same.new (o:=.lst []) MW
  have eW:=s3 _ _ (ag (H:=upd (upd H e0 (.tup [])) q0 (.tup [.ref e0,x])) (a:=Wt) (o:=.lst [.ref q0]))
  have eF:(upd (upd (upd (upd H e0 (.tup [])) q0 (.tup [.ref e0,x])) Wt (.lst [.ref q0])) Fo (.lst [])) Fo=some (.lst []):=ag
  have pr:ui K (upd (upd (upd (upd H e0 (.tup [])) q0 (.tup [.ref e0,x])) Wt (.lst [.ref q0])) Fo (.lst [])) q0 ([],f):=
   ⟨e0,x,s3 _ _ (s2 _ _ ag),s3 _ _ (s2 _ _ (s1 _ _ ag)),aJ (((s0.trans s1).trans s2).trans s3).kts _ _ f.bG hf⟩
  have sA:=((s0.trans s1).trans s2).trans s3
  have MX:Wt≠Fo:=bj ag MW
  have hW0:H Wt=none:=(s0.trans s1).free Rw
  have MY:H Fo=none:=((s0.trans s1).trans s2).free MW
  generalize upd (upd (upd (upd H e0 (.tup [])) q0 (.tup [.ref e0,x])) Wt (.lst [.ref q0])) Fo (.lst [])=H1 at eW eF pr sA ⊢
  refine⟨fun m σ H'=>∃(ws fs:List Addr) (we fe:List Ent) (v3 v4 v5:Option V),σ=[some x,some (.ref Wt),some (.ref Fo),v3,v4,v5]∧Same H H'∧H' Wt=some (.lst (ws.map V.ref))∧H' Fo=some (.lst (fs.map V.ref))∧cM K H' ws we∧cM K H' fs fe∧Ord f we fe∧
    m=(we.map fun e=>e.2.size).sum∧fe.length+(we.map fun e=>e.2.size).sum≤70000,
   ⟨_,[q0],[],[([],f)],[],none,none,none,rfl,sA,eW,eF,.cons pr .nil,.nil,⟨fun e he=>?_,fun i ns g z=>by simp at z,.inl (by simp)⟩,rfl,by simpa using Z6⟩,?_⟩
  ·have e':e=([],f):=by simpa using he
   rw[e'];rfl
  rintro m σ H2 ⟨ws,fs,we,fe,v3,v4,v5,rfl,s2',i7,Rx,pw,pf,od,rfl,hsz⟩
  refine⟨_,rfl, !(ws.map V.ref).isEmpty,.inl ⟨_,.of i7,rfl⟩,?_⟩
  refine dr (fun hne=>?_) (fun hem=>?_)
  ·have Z8:ws≠[]:=fun z=>by subst z;simp at hne
   obtain⟨ws',q,zH,⟨ns,g⟩,rfl,rfl,pw',pq⟩:=zF pw Z8
   refine⟨fun σ' H'=>∃(ws fs:List Addr) (we fe:List Ent) (v3 v4 v5:Option V),σ'=[some x,some (.ref Wt),some (.ref Fo),v3,v4,v5]∧Same H H'∧H' Wt=some (.lst (ws.map V.ref))∧H' Fo=some (.lst (fs.map V.ref))∧cM K H' ws we∧cM K H' fs fe∧Ord f we fe∧
     (we.map fun e=>e.2.size).sum<((zH++[(ns,g)]).map fun e=>e.2.size).sum∧fe.length+(we.map fun e=>e.2.size).sum≤70000,
    fun σ' H' ⟨ws,fs,we,fe,v3,v4,v5,a1,a2,a3,a4,a5,a6,a7,a8,a9⟩=>⟨_,a8,ws,fs,we,fe,v3,v4,v5,a1,a2,a3,a4,a5,a6,a7,rfl,a9⟩,?_⟩
   refine⟨_,rfl,.inl ⟨rfl,_,.of i7⟩,Wt,_,.ref q,rfl,rfl,i7,by simp,?_⟩
   have dl:((ws'++[q]).map V.ref).dropLast=ws'.map V.ref:=by rw[List.map_append];simp
   rw[dl]
   have kW:=KB.write (d:=Wt) (H:=H2) (o:=.lst (ws'.map V.ref))
   have MZ:=eX.lst (o:=.lst (ws'.map V.ref)) i7
   have M_:=KB.kts (K:=K) i7 kW
   have lD:(upd H2 Wt (.lst (ws'.map V.ref))) Wt=some (.lst (ws'.map V.ref)):=ag
   have FL:=kW _ _ Rx MX.symm
   have Ry:=cM.keep MZ M_ pw'
   have RA:=cM.keep MZ M_ pf
   have RB:=pq.keep MZ M_
   have RC:=s2'.kbn hW0 kW
   generalize upd H2 Wt (.lst (ws'.map V.ref))=H3 at lD FL Ry RA RB RC ⊢
   have lfe:fs.length=fe.length:=Paired.length pf
   refine⟨_,rfl,.inl ⟨rfl,_,.of FL⟩,_,rfl,Fo,_,_,rfl,rfl,FL,?_,?_⟩
   ·rw[List.length_map];exact Nat.lt_of_le_of_lt (show fs.length≤70000 by omega) (by decide)
   have kF:=KB.write (d:=Fo) (H:=H3) (o:=.lst (fs.map V.ref++[.ref q]))
   have M0:=eX.lst (o:=.lst (fs.map V.ref++[.ref q])) FL
   have M':=KB.kts (K:=K) FL kF
   have RD:(upd H3 Fo (.lst (fs.map V.ref++[.ref q]))) Fo=some (.lst ((fs++[q]).map V.ref)):=by rw[ag,List.map_append];rfl
   have rZ:=kF _ _ lD MX
   have RE:=cM.keep M0 M' Ry
   have RF:=cM.keep M0 M' RA
   have Na:=RB.keep M0 M'
   have RG:=RC.kbn MY kF
   generalize upd H3 Fo (.lst (fs.map V.ref++[.ref q]))=H4 at RD rZ RE RF Na RG ⊢
   obtain⟨pl,y,eq,Cp,dy⟩:=id Na
   refine⟨_,rfl,q,_,_,_,rfl,rfl,.of eq,aB (j:=1) (v:=y) rfl,y,g,rfl,dy,fun D xs H5 hD s5 eD JD=>?_⟩
   have mX:=s5 _ _ rZ
   have Z9:D≠Wt:=(bj rZ hD).symm
   have lx:xs.length=g.inner.length:=by rw[JD.length,List.length_map]
   have RH:=kd g
   refine⟨D,rfl,⟨_,.of eD⟩,GP (xs:=xs) (fun i σ H'=>∃(rs:List Addr) (v4 v5:Option V),σ=[some x,some (.ref Wt),some (.ref Fo),some (.ref q),v4,v5]∧KB Wt H5 H'∧H' Wt=some (.lst ((ws'++rs).map V.ref))∧cM K H' rs ((kids ns 0 g.inner).take i))
    ⟨[],_,_,rfl,KB.refl _ _,by rw[List.append_nil];exact mX,.nil⟩ (fun i σ H' _ ⟨_,_,_,_,h,_⟩=>.of (h _ _ eD Z9)) ?_ ?_⟩
   ·rintro i z pp σ H6 hz ⟨rs,v4,v5,rfl,k6,Nb,zI⟩ hpp
    have sp:=Same.new (o:=.tup [.int i,z]) hpp
    refine⟨pp,_,rfl,.of ag,rfl,_,_,rfl,_,_,rfl,rfl,?_⟩
    obtain⟨dz,FN,MU⟩:=JD.get hz
    rw[List.getElem?_map] at FN
    cases eh:g.inner[i]? with
    | none=>rw[eh] at FN;cases FN
    | some h=>
     rw[eh] at FN
     have Tr:h.dt=dz:=Option.some.inj FN
     subst Tr
     have Cq:eX H5 H6:=eX.kb mX k6
     have FO:fm K H5 H6:=KB.kts mX k6
     have Ia:H6 pl=some (.tup (dj ns)):=Cq _ _ (s5 _ _ Cp)
     have Z':H6 q=some (.tup [.ref pl,y]):=Cq _ _ (s5 _ _ eq)
     have Nc:=sp _ _ Nb
     have Nd:=aJ (FO.trans sp.kts) _ _ h.bG MU
     have Nf:=cM.keep sp.kt sp.kts zI
     have Ng:=sp _ _ Ia
     have RI:=sp _ _ Z'
     have k7:KB Wt H5 (upd H6 pp (.tup [.int i,z])):=k6.trans sp.kb
     generalize upd H6 pp (.tup [.int i,z])=H7 at Nc Nd Nf Ng RI k7 ⊢
     refine⟨_,rfl,.inl ⟨rfl,_,.of Nc⟩,_,rfl,q,_,_,_,rfl,rfl,.of RI,aB (j:=0) (v:=.ref pl) rfl,_,rfl,by show 1≤sizeLine;decide,fun oo hoo=>?_⟩
     have so:=Same.new (o:=.tup [.int (i:Int)]) hoo
     have FP:(upd H7 oo (.tup [.int (i:Int)])) oo=some (.tup [.int (i:Int)]):=ag
     have done:∀(pn:Addr) (H8:Hp),Same H7 H8→H8 pn=some (.tup (dj (ns++[i])))→∀kD,H8 kD=none→
       H8 Wt=some (.lst ((ws'++rs).map V.ref))∧(∃(rs':List Addr) (v4 v5:Option V),[some x,some (.ref Wt),some (.ref Fo),some (.ref q),some (.int (i:Int)),some z]=[some x,some (.ref Wt),some (.ref Fo),some (.ref q),v4,v5]∧
        KB Wt H5 (upd (upd H8 kD (.tup [.ref pn,z])) Wt (.lst ((ws'++rs).map V.ref++[.ref kD])))∧(upd (upd H8 kD (.tup [.ref pn,z])) Wt (.lst ((ws'++rs).map V.ref++[.ref kD]))) Wt=some (.lst ((ws'++rs').map V.ref))∧
        cM K (upd (upd H8 kD (.tup [.ref pn,z])) Wt (.lst ((ws'++rs).map V.ref++[.ref kD]))) rs' ((kids ns 0 g.inner).take (i+1))):=fun pn H8 s8 Nh kD uj=>by
      have RJ:=s8 _ _ Nc
      have s9:=Same.new (o:=.tup [.ref pn,z]) uj
      have RK:=s9 _ _ RJ
      have kt9:=eX.lst (o:=.lst ((ws'++rs).map V.ref++[.ref kD])) RK
      have RL:fm K (upd H8 kD (.tup [.ref pn,z])) (upd (upd H8 kD (.tup [.ref pn,z])) Wt (.lst ((ws'++rs).map V.ref++[.ref kD]))):=KB.kts RK KB.write
      refine⟨RJ,rs++[kD],_,_,rfl,((k7.trans s8.kb).trans s9.kb).trans KB.write,?_,?_⟩
      ·rw[ag];simp
      ·have ek:(kids ns 0 g.inner).take (i+1)=(kids ns 0 g.inner).take i++[(ns++[i],h)]:=take_snoc (by rw[sU,eh,Nat.zero_add];rfl)
       rw[ek]
       refine sV (cM.keep ((s8.kt.trans s9.kt).trans kt9) ((s8.kts.trans s9.kts).trans RL) Nf) (.cons ⟨pn,z,kt9 _ _ ag,kt9 _ _ (s9 _ _ Nh),aJ ((s8.kts.trans s9.kts).trans RL) _ _ h.bG Nd⟩ .nil)
     have lr:rs.length≤2:=by rw[Paired.length Nf,List.length_take,uh];omega
     have lw:((ws'++rs).map V.ref).length<sizeLine:=by
      rw[List.length_map,List.length_append]
      have lw':ws'.length=zH.length:=Paired.length pw'
      have:zH.length≤(zH.map fun e=>e.2.size).sum:=Cj zH
      rw[List.map_append,List.sum_append] at hsz
      exact Nat.lt_of_le_of_lt (show _≤80000 by omega) (by decide)
     refine⟨pl,oo,dj ns,[.int (i:Int)],rfl,rfl,.of (so _ _ Ng),.of FP,by simp,?_,fun hn=>?_,fun hn pn hpn=>?_⟩
     ·have:ns.length≤1000:=zG hdp (od.here (ns,g) (.inl (by simp)))
      show(dj ns).length+1≤sizeLine
      rw[dj,List.length_map]
      exact Nat.le_trans (show _≤2000 by omega) (by decide)
     ·have hn':ns=[]:=by cases ns with | nil=>rfl | cons _ _=>cases hn
      subst hn'
      refine⟨_,rfl,by show 2≤sizeLine;decide,fun kD uj=>?_⟩
      obtain⟨d1,d2⟩:=done oo _ so FP kD uj
      exact⟨Wt,_,_,rfl,rfl,(Same.new uj) _ _ d1,lw,d2⟩
     ·have spn:=Same.new (o:=.tup (dj ns++[.int (i:Int)])) hpn
      refine⟨_,rfl,by show 2≤sizeLine;decide,fun kD uj=>?_⟩
      obtain⟨d1,d2⟩:=done pn _ (so.trans spn) (by rw[ag,dj,dj,List.map_append];rfl) kD uj
      exact⟨Wt,_,_,rfl,rfl,(Same.new uj) _ _ d1,lw,d2⟩
   ·rintro σ H6 ⟨rs,v4,v5,rfl,k6,Nb,zI⟩
    rw[lx,List.take_of_length_le (by rw[uh];exact Nat.le_refl _)] at zI
    have Cq:eX H4 H6:=s5.kt.trans (eX.kb mX k6)
    have FO:fm K H4 H6:=s5.kts.trans (KB.kts mX k6)
    have nFW:=MX.symm
    have sz:=zE ns g.inner 0
    have sg:=size_inner g
    refine⟨ws'++rs,fs++[q],zH++kids ns 0 g.inner,fe++[(ns,g)],_,_,_,rfl,(RG.trans s5).kbn hW0 k6,Nb,k6 _ _ (s5 _ _ RD) nFW,sV (cM.keep Cq FO RE) zI,sV (cM.keep Cq FO RF) (.cons (Na.keep Cq FO) .nil),od.step,?_,?_⟩
    ·rw[List.map_append,List.map_append,List.sum_append,List.sum_append,sz]
     show _<_+(g.size+0)
     omega
    ·rw[List.map_append,List.sum_append,sz,List.length_append]
     rw[List.map_append,List.sum_append] at hsz
     have hsz':fe.length+((zH.map fun e=>e.2.size).sum+(g.size+0))≤70000:=hsz
     show fe.length+1+_≤70000
     omega
  ·have wem:ws=[]:=by
    cases ws with
    | nil=>rfl
    | cons q qs=>exact absurd rfl hem
   subst wem
   have wee:we=[]:=by cases pw;rfl
   subst wee
   refine⟨_,rfl,Fo,_,rfl,.of Rx,fun l hl=>?_⟩
   have sl:=Same.new (o:=.lst (fs.map V.ref).reverse) hl
   refine k l fs.reverse fe.reverse _ (s2'.free hl) (s2'.trans sl) (by rw[ag,List.map_reverse]) ?_ od.late (by rw[List.length_reverse];omega)
   exact Cm (cM.keep sl.kt sl.kts pf)
theorem KB.Ts {K:PySem.W.Frag} {d:Addr} {kvs:List (List Key×V)} {H H':Hp} (h:H d=some (.dT kvs)) (k:KB d H H'):fm K H H':=fun a ys e=>by
 rcases e with(e | ⟨o,e⟩) | e
 ·exact .inl (.inl (k _ _ e (iM e h (fun z=>nomatch z))))
 ·exact .inl (.inr ⟨o,k _ _ e (iM e h (fun z=>nomatch z))⟩)
 ·exact .inr e
theorem eX.dT {d:Addr} {kvs:List (List Key×V)} {H H':Hp} (h:H d=some (.dT kvs)) (k:KB d H H'):eX H H':=fun b ys e=>k b _ e (iM e h (fun z=>nomatch z))
def keyOf (ns:List Nat):List Key:=ns.map fun(n:Nat)=>Sum.inl (n:Int)
theorem zJ (ns:List Nat):dj ns=(keyOf ns).map kV:=by
 unfold dj keyOf
 rw[List.map_map]
 rfl
theorem xh:∀{ns ms:List Nat},keyOf ns=keyOf ms→ns=ms
 | [],[],_=>rfl
 | [],_::_,h=>by cases h
 | _::_,[],h=>by cases h
 | n::ns,m::ms,h=>by
  have h1:(Sum.inl (n:Int):Key)=Sum.inl (m:Int):=(List.cons.inj h).1
  have h2:(n:Int)=m:=Sum.inl.inj h1
  rw[xh (List.cons.inj h).2,Int.ofNat_inj.mp h2]
def zK (K:PySem.W.Frag):Sp:=fun vs H Q _=>∃(D pl:Addr) (y:V) (g:ax) (kvs:List (List Key×V)) (ns:List Nat) (us:List V),vs=[.ref D,.ref pl,y]∧aA K H y g.dt∧H D=some (.dT kvs)∧H pl=some (.tup (dj ns))∧ns.length≤1000∧us.length=g.inner.length∧
 (∀(j:Nat) (u:V),us[j]? =some u→fJ kvs (keyOf (ns++[j]))=some u)∧∀(C:Addr) (H':Hp),H C=none→Same H H'→H' C=some (.lst us)→Q (.ref C) H'
theorem uk:bh ["told","place","saying"] ["told","place","saying"] (aw du):=⟨rfl,rfl,rfl,by decide+kernel,rfl,by decide+kernel,by decide+kernel⟩
theorem um {a:dG} {b:rY} (T:Txt K mg a) (U:oH K w.params mg b):a_ P w K mg base dq 2 a.fF a.gj ["told","place","saying"] (zK K):=by
 have lj:a_ P w K mg base dq 1 a.fC a.fT ["saying"] (vM K):=pI T U
 refine T.uQ.ok uk (fun vs H Q E h=>?_) (fun cdv A outer s H vs Q E hr h=>?_)
 ·obtain⟨D,pl,y,g,kvs,ns,us,rfl,_⟩:=h
  rfl
 ·obtain⟨D,pl,y,g,kvs,ns,us,rfl,dy,eD,Cp,hns,lus,hus,k⟩:=h
  have jX:aU 1 _:=hr
  refine⟨_,(aD (aR (pj (bO.mk' (esc:=aw du) (N:=["told","place","saying"]) (own:=["number"]) (bX:=["told","place"]) (cS:=[0,1]) rfl rfl (by decide+kernel)) rfl (gO rfl T.i_ (ae (bq (bP K) (by rfl) T.dv cO (ae (aE lj jX rfl T.qC T.qD T.qE .nil aT (ae (pv 2) af)) af)) af)) (fun _ _ _ _=>(cR (i:=0) (show List.Nodup (["number","told","place"]:List Str) by decide+kernel) rfl (Or.inl rfl))) (fun _ _ _ _=>gQ) (fun _ _ _ _=>(BP (sH hr) (pv 1) (av (yF K) (pv 2) (br (ae (pv 0) af))) (fun _ _=>rfl)))))),?_⟩
  refine⟨_,rfl,y,g,rfl,dy,fun D2 xs H4 hD2 s4 Tt JD=>?_⟩
  have lx:xs.length=g.inner.length:=by rw[JD.length,List.length_map]
  refine⟨_,xs.length,rfl,.inl ⟨_,.of Tt,rfl⟩,?_⟩
  have RH:=kd g
  have eD4:=s4 _ _ eD
  have Tv:=s4 _ _ Cp
  refine⟨_,rfl,by omega,by omega,fun C hC=>?_⟩
  refine p3 (lo:=0) (fun j σ H'=>∃(v:Option V),σ=[v,some (.ref D),some (.ref pl)]∧Same H4 H'∧H' C=some (.lst (us.take j)))
   ⟨none,?sg,Same.new hC,ag⟩ ?_ ?_
  case sg=>rfl
  ·rintro j σ H5 hj ⟨v,rfl,s5,eC⟩
   have hj':j<us.length:=by omega
   have ej:(0:Int)+(j:Int)=(j:Int):=by omega
   obtain⟨u,hu⟩:∃u,us[j]? =some u:=⟨_,List.getElem?_eq_getElem hj'⟩
   have ev:=hus j u hu
   have done:∀(pn:Addr) (H6:Hp),Same H5 H6→H6 pn=some (.tup (dj (ns++[j])))→∃(a:Addr) (v:V),V.ref D=.ref a∧CZ H6 a (.ref pn) (some v)∧∃ys,H6 C=some (.lst ys)∧ys.length<sizeLine∧
     ∃(v':Option V),[some (V.int (0+(j:Int))),some (.ref D),some (.ref pl)]=[v',some (.ref D),some (.ref pl)]∧Same H4 (upd H6 C (.lst (ys++[v])))∧(upd H6 C (.lst (ys++[v]))) C=some (.lst (us.take (j+1))):=fun pn H6 s6 Nh=>by
    have RM:=s5.trans s6
    have JE:=s6 _ _ eC
    refine⟨D,u,rfl,.inr ⟨kvs,keyOf (ns++[j]),pn,.inl (RM _ _ eD4),rfl,by rw[Nh,zJ],ev.symm⟩,_,JE,?_,_,rfl,RM.kbn hC KB.write,by rw[ag,take_snoc hu]⟩
    rw[List.length_take];exact Nat.lt_of_lt_of_le (show min j us.length<10 by omega) (by decide)
   refine⟨_,rfl,_,rfl,_,rfl,by show 1≤sizeLine;decide,fun oo hoo=>?_⟩
   have so:=Same.new (o:=.tup [.int (0+(j:Int))]) hoo
   have FP:(upd H5 oo (.tup [.int (0+(j:Int))])) oo=some (.tup (dj [j])):=by rw[ag,ej];rfl
   have Tw:=s5 _ _ Tv
   refine⟨pl,oo,dj ns,dj [j],rfl,rfl,.of (so _ _ Tw),.of FP,by simp[dj],?_,fun hn=>?_,fun hn pn hpn=>?_⟩
   ·rw[dj,dj,List.length_map,List.length_map]
    exact Nat.le_trans (show _≤2000 by simp;omega) (by decide)
   ·have hn':ns=[]:=by cases ns with | nil=>rfl | cons _ _=>cases hn
    have e1:dj (ns++[j])=dj [j]:=by rw[hn'];rfl
    exact done oo _ so (by rw[e1];exact FP)
   ·exact done pn _ (so.trans (Same.new hpn)) (by rw[ag,dj,dj,dj,List.map_append])
  rintro σ H5 ⟨v,rfl,s5,eC⟩
  rw[Int.toNat_natCast,lx,←lus,List.take_length] at eC
  exact k C H5 (s4.free hC) (s4.trans s5) eC
theorem Ni (l:List Str):ak (Txt.join (Str.ofString "+") l)=jn 43 (l.map ak):=by
 unfold ak Txt.join;rw[StrLaws.glued_eq_join,show Str.ofString "+"=⟨#[43]⟩ by decide+kernel,kY]
def DM (K:PySem.W.Frag):Sp:=fun vs H Q _=>∃(x:V) (p:Str×Int),vs=[x]∧aA K H x (fU p)∧jv p∧∀H',Same H H'→Q (.str (txt (bS p))) H'
def DN (K:PySem.W.Frag):Sp:=fun vs H Q _=>∃(x:V) (t:Term),vs=[x]∧aA K H x t.dt∧bT t∧t.parts.length≤10000∧∀H',Same H H'→Q (.str (txt (aX t))) H'
def Ib (K:PySem.W.Frag):Sp:=fun vs H Q _=>∃(a:Str) (x:V) (t:Term),vs=[.str a,x]∧aA K H x t.dt∧bT t∧t.parts.length≤10000∧a.length≤10∧∀H',Same H H'→Q (.str (txt (atT a t))) H'
theorem Ic {K:PySem.W.Frag} {H:Hp} {x:V} {p:Str×Int} (h:aA K H x (fU p)):∃a,x=.ref a∧cp K H a [.str p.1,.int p.2]:=by
 obtain⟨a,xs,rfl,hq,hd⟩:=iI h
 obtain⟨y,ys,rfl,h1,hd⟩:=dD hd
 obtain⟨z,zs,rfl,h2,hd⟩:=dD hd
 cases zs with
 | cons _ _=>simp[aL] at hd
 | nil=>
  rw[aA] at h1
  rw[aA] at h2
  subst h1 h2
  exact⟨a,rfl,hq⟩
theorem Ie {K:PySem.W.Frag} {H:Hp} {x:V} {t:Term} (h:aA K H x t.dt):∃a b ys,x=.ref a∧cp K H a [.int t.num,.ref b]∧cp K H b ys∧aL K H ys (t.parts.map fU):=by
 obtain⟨a,xs,rfl,hq,hd⟩:=iI h
 obtain⟨y,ys,rfl,h1,hd⟩:=dD hd
 obtain⟨z,zs,rfl,h2,hd⟩:=dD hd
 cases zs with
 | cons _ _=>simp[aL] at hd
 | nil=>
  rw[aA] at h1
  subst h1
  obtain⟨b,ws,rfl,hb,hw⟩:=iI h2
  exact⟨a,b,ws,rfl,hq,hb,hw⟩
theorem xi {n:Nat} (h:n<1000):((n:Nat):Int).natAbs.log2<1920:=by
 rw[Int.natAbs_natCast]
 by_cases h0:n=0
 ·subst h0;decide
 ·exact Nat.lt_of_lt_of_le ((Nat.log2_lt h0).mpr (Nat.lt_of_lt_of_le h (by decide:1000≤2 ^ 10))) (by decide)
theorem sz {n:Nat} (h:n≤1000000):n≤sizeLine:=by rw[PySem.sizeLine_eq];omega
theorem mY:bh ["part","name","times"] ["part"] (aw gH):=⟨rfl,rfl,rfl,by decide+kernel,rfl,by decide+kernel,by decide+kernel⟩
theorem zL {a:dG} (T:Txt K mg a):a_ P w K mg base dq 1 a.j2 a.mM ["part"] (DM K):=by
 refine T.A2.ok mY (fun vs H Q E h=>?_) (fun cdv A outer s H vs Q E hr h=>?_)
 ·obtain⟨x,p,rfl,_⟩:=h
  rfl
 ·obtain⟨x,p,rfl,hx,ok,k⟩:=h
  obtain⟨q,rfl,hq⟩:=Ic hx
  refine⟨_,(aj (aH (i:=1) mY.nd rfl (Or.inl rfl) (aO (aS K) (pv 0) ai (fun _ _=>rfl)))
  (aj (aH (i:=2) mY.nd rfl (Or.inl rfl) (aO (aS K) (pv 0) ai (fun _ _=>rfl)))
  (aD (aR (pS (aP cL (pv 2) ai (aW _)) (pv 1) (vB (rg (pv 2) (rg (pv 1) yR)))))))),?_⟩
  refine⟨_,rfl,q,_,_,_,rfl,rfl,hq,aB (j:=0) (v:=.str p.1) rfl,_,rfl,q,_,_,_,rfl,rfl,hq,aB (j:=1) (v:=.int p.2) rfl,_,rfl,rfl,_,rfl,dr (fun h=>⟨_,rfl,?_⟩) (fun h=>?_)⟩
  ·have e1:p.2=1:=V.int.inj (of_decide_eq_true h)
   have:=k H (Same.refl _)
   unfold bS at this
   rw[if_pos e1,List.nil_append,fV] at this
   exact this
  ·have e1:¬p.2=1:=fun z=>h (decide_eq_true (by rw[z]))
   obtain⟨n1,n2,n3⟩:=ok
   have nl:=(bR n1).2.1
   obtain⟨n,en⟩:∃n:Nat,p.2=(n:Int):=⟨p.2.toNat,by omega⟩
   have hn:n<10:=by omega
   have z0:(Str.empty++Str.ofString (toString ((n:Nat):Int))).length=1:=by rw[strLen_append,Ce hn];rfl
   have z1:(Str.empty++Str.ofString (toString ((n:Nat):Int))++p.1).length≤4:=by rw[strLen_append,z0];omega
   have et:Str.empty++Str.ofString (toString ((n:Nat):Int))++p.1=txt (bS p):=by
    refine cI ?_
    show ak _=ak _
    rw[aI,aI,aN,vI hn]
    unfold bS
    rw[if_neg e1,show p.2.toNat=n by omega];rfl
   rw[en]
   refine⟨_,rfl,.inl ⟨_,rfl,Cd hn,by rw[z0];decide,_,rfl,.inr ⟨p.1,rfl,Nat.le_trans z1 (by decide),Nat.le_trans z1 (by decide),?_⟩⟩⟩
   rw[et]
   exact k H (Same.refl _)
theorem r_:bh ["term","pieces"] ["term"] (aw fM):=⟨rfl,rfl,rfl,by decide+kernel,rfl,by decide+kernel,by decide+kernel⟩
theorem r6 {a:dG} (T:Txt K mg a):a_ P w K mg base dq 2 a.j3 a.mN ["term"] (DN K):=by
 have Bl:=zL (P:=P) (w:=w) (base:=base) T
 refine T.A6.ok r_ (fun vs H Q E h=>?_) (fun cdv A outer s H vs Q E hr h=>?_)
 ·obtain⟨x,t,rfl,_⟩:=h
  rfl
 ·obtain⟨x,t,rfl,hx,ok,hl,k⟩:=h
  obtain⟨q,b,ys,rfl,hq,hb,hy⟩:=Ie hx
  have zM:aU 1 _:=hr
  refine⟨_,(aj (p_ (i:=1) (bO.mk' (esc:=aw fM) (N:=["term","pieces"]) (own:=["part"]) (bX:=[]) (cS:=[]) rfl rfl (by decide+kernel)) rfl (El (aO (aS K) (pv 0) ai (fun _ _=>rfl))) (fun _ _ _ _=>(cR (i:=0) (show List.Nodup (["part"]:List Str) by decide+kernel) rfl (Or.inl rfl))) (fun _ _ _ _=>gQ) (fun _ _ _ _=>(aE Bl zM rfl T.A3 T.A4 T.A5 .nil aT (ae (pv 0) af))) r_.nd rfl rfl)
  (aj (bH (PW.pt (je (aP og (aO (aS K) (pv 0) ai (fun _ _=>rfl)) ai (aW _)) (jc (o4 (df (pv 1) (fun _=>rfl))))))
   (aD (dZ (dm PySem.F.plainAttrs_list PySem.F.slot_list_append PySem.F.type_list_append dg (pv 1) (ae (dU qS (by rfl) T.Jt EM (ae (aO (aS K) (pv 0) ai (fun _ _=>rfl)) af)) af))))
   bg)
  (aD (aR (dm PySem.F.plainAttrs_str PySem.F.slot_str_join PySem.F.type_str_join (yJ K) ah (ae (pv 1) af)))))),?_⟩
  have ly:ys.length=t.parts.length:=by rw[hy.length,List.length_map]
  refine⟨_,rfl,q,_,_,_,rfl,rfl,hq,aB (j:=1) (v:=.ref b) rfl,b,rfl,⟨_,hb⟩,fun C hC=>?_⟩
  refine yD (xs:=ys) (fun i σ H'=>∃v:Option V,σ=[v]∧Same H H'∧H' C=some (.lst (((t.parts.take i).map fun p=>txt (bS p)).map V.str)))
   ⟨none,rfl,Same.new hC,ag⟩ (fun i σ H' _ ⟨_,_,h,_⟩=>h.iP hb) ?_ ?_
  ·rintro i y σ H1 hy1 ⟨v,rfl,s1,eC⟩
   obtain⟨d,ed,hd⟩:=hy.get hy1
   rw[List.getElem?_map] at ed
   cases ep:t.parts[i]? with
   | none=>rw[ep] at ed;cases ed
   | some p=>
    rw[ep] at ed
    obtain rfl:fU p=d:=Option.some.inj ed
    have hi:=(List.getElem?_eq_some_iff.mp ep).1
    refine⟨_,rfl,y,p,rfl,aJ s1.kts _ _ (by simp[fU,Dt.bG,Dt.eG]) hd,ok.2.2 p (List.mem_of_getElem? ep),fun H2 s2=>⟨_,s2 _ _ eC,?_,_,rfl,(s1.trans s2).kbn hC KB.write,?_⟩⟩
    ·rw[List.length_map,List.length_map,List.length_take];exact Nat.lt_of_lt_of_le (show min i t.parts.length<20000 by omega) (by decide)
    ·rw[ag,List.take_add_one,ep,List.map_append,List.map_append];rfl
  rintro σ H1 ⟨v,rfl,s1,eC⟩
  rw[ly,List.take_length] at eC
  obtain⟨n,en⟩:∃n:Nat,t.num=(n:Int):=⟨t.num.toNat,by have:=ok.1;omega⟩
  have hn:n<100:=by have:=ok.1;omega
  have hlen:∀x∈(bU t).map txt,x.length≤10:=fun x hx=>by
   obtain⟨l,hl,rfl⟩:=List.mem_map.mp hx
   rw[cJ]
   unfold bU at hl
   rcases List.mem_append.mp hl with h | h
   ·obtain⟨p,hp,rfl⟩:=List.mem_map.mp h
    exact Nat.le_trans (rW (ok.2.2 p hp)) (by decide)
   ·split at h
    ·rw[List.mem_singleton.mp h];exact Nat.le_trans qm.1 (by decide)
    ·cases h
  have lW:((bU t).map txt).length≤10001:=by
   rw[List.length_map]
   unfold bU
   rw[List.length_append,List.length_map]
   split
   ·simp;omega
   ·simp;omega
  have fin:∀H',Same H H'→H' C=some (.lst (((bU t).map txt).map V.str))→rJoin K (.str (Str.ofString "+")) [.ref C] H' Q:=fun H' s' e'=>by
   refine⟨Str.ofString "+",C,(bU t).map txt,rfl,rfl,.of e',?_,fun z hz ez=>?_⟩
   ·have h1:(Str.ofString "+").length=1:=by decide+kernel
    have h2:=HX hlen lW
    rw[h1]
    omega
   ·have:z=txt (aX t):=by
     refine cI ?_
     show ak z=ak _
     rw[ez,aN,Ni,List.map_map]
     unfold aX
     congr 1
     rw[show(ak∘txt)=id from funext fun l=>aN l,List.map_id]
    rw[this]
    exact k H' s'
  refine⟨_,rfl,q,_,_,_,rfl,rfl,s1.iP hq,aB (j:=0) (v:=.int t.num) rfl,rfl,_,rfl,?_⟩
  have app:(t.num≠0∨t.parts=[])→((t.parts.map fun p=>txt (bS p))++[Str.ofString (toString t.num)])=(bU t).map txt:=fun c=>by
   unfold bU
   rw[if_pos c,List.map_append,List.map_map,en]
   have:Str.ofString (toString ((n:Nat):Int))=txt (fc ((n:Nat):Int).toNat):=cI (by show ak _=ak _;rw[HY hn,aN];rfl)
   rw[this];rfl
  have grow:(t.num≠0∨t.parts=[])→(upd H1 C (.lst (((t.parts.map fun p=>txt (bS p)).map V.str)++[.str (Str.ofString (toString t.num))]))) C=some (.lst (((bU t).map txt).map V.str)):=fun c=>by
   rw[ag,←app c,List.map_append];rfl
  have step:(t.num≠0∨t.parts=[])→Same H (upd H1 C (.lst (((t.parts.map fun p=>txt (bS p)).map V.str)++[.str (Str.ofString (toString t.num))]))):=fun _=>s1.kbn hC KB.write
  have lC:((t.parts.map fun p=>txt (bS p)).map V.str).length<sizeLine:=by rw[List.length_map,List.length_map];exact Nat.lt_of_le_of_lt hl (by decide)
  by_cases h0:t.num=0
  ·rw[show decide (V.int t.num=V.int 0)=true from decide_eq_true (by rw[h0])]
   refine aY ⟨_,rfl,_,.inl ⟨_,.of eC,rfl⟩,?_⟩
   by_cases hp:t.parts=[]
   ·rw[show(((t.parts.map fun p=>txt (bS p)).map V.str)).isEmpty=true by rw[hp];rfl]
    refine bE ⟨_,rfl,.inl ⟨rfl,_,.of eC⟩,_,rfl,q,_,_,_,rfl,rfl,s1.iP hq,aB (j:=0) (v:=.int t.num) rfl,_,rfl,by rw[en];exact xi (by omega),C,_,_,rfl,rfl,eC,lC,?_⟩
    exact⟨rfl,_,rfl,fin _ (step (.inr hp)) (grow (.inr hp))⟩
   ·have:(((t.parts.map fun p=>txt (bS p)).map V.str)).isEmpty=false:=by
     cases e:t.parts with
     | nil=>exact absurd e hp
     | cons a l=>rfl
    rw[this]
    refine aY ⟨rfl,_,rfl,fin _ s1 ?_⟩
    rw[eC]
    unfold bU
    have e1:(t.parts.map fun p=>txt (bS p))=(t.parts.map bS).map txt:=by rw[List.map_map];rfl
    rw[if_neg (by rintro(z | z);exact z h0;exact hp z),List.append_nil,e1]
  ·rw[show decide (V.int t.num=V.int 0)=false from decide_eq_false (fun z=>h0 (V.int.inj z))]
   refine bE (bE ⟨_,rfl,.inl ⟨rfl,_,.of eC⟩,_,rfl,q,_,_,_,rfl,rfl,s1.iP hq,aB (j:=0) (v:=.int t.num) rfl,_,rfl,by rw[en];exact xi (by omega),C,_,_,rfl,rfl,eC,lC,?_⟩)
   exact⟨rfl,_,rfl,fin _ (step (.inl h0)) (grow (.inl h0))⟩
def ax.lE:ax→Prop
 | .same t u=>t.parts.length≤10000∧u.parts.length≤10000
 | .less t u=>t.parts.length≤10000∧u.parts.length≤10000
 | .sign _ t _=>t.parts.length≤10000
 | .alike _ t _ u=>t.parts.length≤10000∧u.parts.length≤10000
 | .no f=>f.lE
 | .and f g=>f.lE∧g.lE
 | .or f g=>f.lE∧g.lE
 | .some _ f=>f.lE
 | .each _ f=>f.lE
theorem r9 {t:Term} (ok:bT t) (h:t.parts.length≤10000):(aX t).length≤60000:=by
 have h1:=vJ (c:=43) (bU t)
 have h2:((bU t).map List.length).sum≤40002:=by
  unfold bU
  rw[List.map_append,List.sum_append,List.map_map]
  have h3:=zr (l:=t.parts.map (List.length∘bS)) (k:=4) (fun x hx=>by
   obtain⟨p,hp,rfl⟩:=List.mem_map.mp hx
   exact rW (ok.2.2 p hp))
  rw[List.length_map] at h3
  have h5:((if t.num≠0∨t.parts=[] then [fc t.num.toNat] else []).map List.length).sum≤2:=by
   split
   ·have:=(qm (n:=t.num.toNat)).1
    simp;exact this
   ·simp
  omega
 have h3:(bU t).length≤10001:=by
  unfold bU
  rw[List.length_append,List.length_map]
  split
  ·simp;omega
  ·simp;omega
 unfold aX;omega
def DP (K:PySem.W.Frag):Sp:=fun vs H Q _=>∃(x:V) (f:ax),vs=[x]∧aA K H x f.dt∧f.atom=true∧f.Ok∧f.lE∧∀H',Same H H'→Q (.str (txt (aq f))) H'
def DQ (K:PySem.W.Frag):Sp:=fun vs H Q _=>∃(x:V) (f:ax) (I:Addr),vs=[x,.ref I]∧aA K H x f.dt∧f.Ok∧f.lE∧(aq f).length≤1000000∧H I=some (.lst ((f.inner.map fun g=>txt (aq g)).map V.str))∧∀H',Same H H'→Q (.str (txt (aq f))) H'
def sd (K:PySem.W.Frag):Sp:=fun vs H Q _=>∃(x:V) (f:ax),vs=[x]∧aA K H x f.dt∧(f.deep≤1000∧f.size≤70000)∧f.Ok∧f.lE∧(aq f).length≤1000000∧∀H',Same H H'→Q (.str (txt (aq f))) H'
theorem qq {a b:Str} {u v:List Nat} (ha:a=txt u) (hb:b=txt v):a++b=txt (u++v):=by
 refine cI ?_
 show ak _=ak _
 rw[aI,ha,hb,aN,aN,aN]
theorem mj {z:Str} {u:List Nat} (h:ak z=u):z=txt u:=by rw[←h,fV]
theorem dQ {K:PySem.W.Frag} {H:Hp} {x:V} {ds:List Dt} (h:aA K H x (.tup ds)):∃a xs,x=.ref a∧cp K H a xs∧aL K H xs ds:=iI h
theorem lY {K:PySem.W.Frag} {H:Hp} {xs:List V} {ds:List Dt} (h:aL K H xs ds) {i:Nat} {d:Dt} (e:ds[i]? =some d):∃y,xs[i]? =some y∧aA K H y d:=by
 have hl:=h.length
 have hi:i<xs.length:=by rw[hl];exact(List.getElem?_eq_some_iff.mp e).1
 obtain⟨d',e',hd⟩:=h.get (List.getElem?_eq_getElem hi)
 rw[e] at e'
 cases e'
 exact⟨_,List.getElem?_eq_getElem hi,hd⟩
theorem bZ {K:PySem.W.Frag} {H:Hp} {xs:List V} {ds:List Dt} (h:aL K H xs ds) {i:Nat} {z:Str} (e:ds[i]? =some (.str z)):xs[i]? =some (.str z):=by
 obtain⟨y,hy,hd⟩:=lY h e
 rw[aA] at hd
 rw[hy,hd]
theorem Nj {K:PySem.W.Frag} {H:Hp} {xs:List V} {ds:List Dt} (h:aL K H xs ds) {i:Nat} {z:Int} (e:ds[i]? =some (.int z)):xs[i]? =some (.int z):=by
 obtain⟨y,hy,hd⟩:=lY h e
 rw[aA] at hd
 rw[hy,hd]
theorem u_:bh ["name","term","inside"] ["name","term"] (aw iX):=⟨rfl,rfl,rfl,by decide+kernel,rfl,by decide+kernel,by decide+kernel⟩
theorem DR {a:dG} (T:Txt K mg a):a_ P w K mg base dq 3 a.ow a.qa ["name","term"] (Ib K):=by
 have gL:=r6 (P:=P) (w:=w) (base:=base) T
 refine T.Fm.ok u_ (fun vs H Q E h=>?_) (fun cdv A outer s H vs Q E hr h=>?_)
 ·obtain⟨n,x,t,rfl,_⟩:=h
  rfl
 ·obtain⟨n,x,t,rfl,hx,ok,hl,hn,k⟩:=h
  have fX:aU 2 _:=hr
  refine⟨_,(aj (aH (i:=2) u_.nd rfl (Or.inl rfl) (aE gL fX rfl T.iF T.iG T.iH .nil aT (ae (pv 1) af)))
  (aD (aR (vB (rg (pv 0) (uO (rg (pv 2) (uO yR)))))))),?_⟩
  have tl:=r9 ok hl
  refine⟨_,rfl,x,t,rfl,hx,ok,hl,fun H1 s1=>?_⟩
  have l1:(Str.ofString "[").length=1:=by decide+kernel
  have l2:(Str.ofString "]").length=1:=by decide+kernel
  have l3:(txt (aX t)).length≤60000:=by rw[cJ];exact tl
  have l0:Str.empty.length=0:=rfl
  refine⟨_,rfl,.inr ⟨n,rfl,?_,?_,_,rfl,.inr ⟨_,rfl,?_,?_,?_,?_⟩⟩⟩
  ·rw[strLen_append];omega
  ·rw[strLen_append,strLen_append];omega
  ·rw[strLen_append,strLen_append,strLen_append];omega
  ·rw[strLen_append,strLen_append,strLen_append,strLen_append];omega
  ·rw[strLen_append,strLen_append,strLen_append,strLen_append];omega
  have:Str.empty++n++Str.ofString "["++txt (aX t)++Str.ofString "]"=txt (atT n t):=by
   refine cI ?_
   show ak _=ak _
   rw[aI,aI,aI,aI,aN,aN,show ak (Str.ofString "[")=[91] by decide+kernel,show ak (Str.ofString "]")=[93] by decide+kernel,show ak Str.empty=[] from rfl]
   unfold atT
   simp
  rw[this]
  exact k H1 s1
theorem sf:bh ["saying","word"] ["saying"] (aw gI):=⟨rfl,rfl,rfl,by decide+kernel,rfl,by decide+kernel,by decide+kernel⟩
theorem zN {a:dG} (T:Txt K mg a):a_ P w K mg base dq 4 a.j4 a.mO ["saying"] (DP K):=by
 have gL:=r6 (P:=P) (w:=w) (base:=base) T
 have sh:=DR (P:=P) (w:=w) (base:=base) T
 refine T.A7.ok sf (fun vs H Q E h=>?_) (fun cdv A outer s H vs Q E hr h=>?_)
 ·obtain⟨x,f,rfl,_⟩:=h
  rfl
 ·obtain⟨x,f,rfl,hx,at',ok,few,k⟩:=h
  have fX:aU 2 _:=hr.mono (by decide)
  have qr:aU 3 _:=hr
  refine⟨_,(aj (aH (i:=1) sf.nd rfl (Or.inl rfl) (aO (aS K) (pv 0) ai (fun _ _=>rfl)))
  (aj (bH (aP cL (pv 1) ah (aW _))
   (aD (aR (av ao (av ao (aE gL fX rfl T.iF T.iG T.iH .nil aT (ae (aO (aS K) (pv 0) ai (fun _ _=>rfl)) af)) ah) (aE gL fX rfl T.iF T.iG T.iH .nil aT (ae (aO (aS K) (pv 0) ai (fun _ _=>rfl)) af)))))
   bg)
  (aj (bH (aP cL (pv 1) ah (aW _))
   (aD (aR (av ao (av ao (aE gL fX rfl T.iF T.iG T.iH .nil aT (ae (aO (aS K) (pv 0) ai (fun _ _=>rfl)) af)) ah) (aE gL fX rfl T.iF T.iG T.iH .nil aT (ae (aO (aS K) (pv 0) ai (fun _ _=>rfl)) af)))))
   bg)
  (aj (bH (aP cL (pv 1) ah (aW _))
   (aD (aR (av ao (av ao (aE sh qr rfl T.rJ T.rK T.rL .nil aT (ae (aO (aS K) (pv 0) ai (fun _ _=>rfl)) (ae (aO (aS K) (pv 0) ai (fun _ _=>rfl)) af))) ah) (dU qS (by rfl) T.Jt EM (ae (aO (aS K) (pv 0) ai (fun _ _=>rfl)) af)))))
   bg)
  (aD (aR (av ao (av ao (aE sh qr rfl T.rJ T.rK T.rL .nil aT (ae (aO (aS K) (pv 0) ai (fun _ _=>rfl)) (ae (aO (aS K) (pv 0) ai (fun _ _=>rfl)) af))) ah) (aE sh qr rfl T.rJ T.rK T.rL .nil aT (ae (aO (aS K) (pv 0) ai (fun _ _=>rfl)) (ae (aO (aS K) (pv 0) ai (fun _ _=>rfl)) af)))))))))),?_⟩
  have c1:ak (Str.ofString " = ")=[32,61,32]:=by decide+kernel
  have c2:ak (Str.ofString " < ")=[32,60,32]:=by decide+kernel
  have c3:ak (Str.ofString " ~ ")=[32,126,32]:=by decide+kernel
  have e1:(Str.ofString " = ").length=3:=by decide+kernel
  have e2:(Str.ofString " < ").length=3:=by decide+kernel
  have e3:(Str.ofString " ~ ").length=3:=by decide+kernel
  have JF:∀{t:Term},bT t→t.parts.length≤10000→(txt (aX t)).length≤60000:=fun o h=>by rw[cJ];exact r9 o h
  have lat:∀{n:Str} {t:Term},nameB aG n=true→bT t→t.parts.length≤10000→(txt (atT n t)).length≤60010:=fun {n t} hn o h=>by
   have h1:=r9 o h
   have h2:=(cg hn).2.1
   rw[cJ]
   unfold atT
   simp only[List.length_append,List.length_cons,List.length_nil,←bC]
   omega
  cases f with
  | same t u=>
   obtain⟨q,xs,rfl,hq,hd⟩:=dQ hx
   obtain⟨y1,i1,d1⟩:=lY hd (i:=1) (d:=t.dt) rfl
   obtain⟨y2,i2,d2⟩:=lY hd (i:=2) (d:=u.dt) rfl
   have l1:=JF ok.1 few.1
   have l2:=JF ok.2 few.2
   refine⟨_,rfl,q,xs,_,_,rfl,rfl,hq,aB (j:=0) (bZ hd (i:=0) rfl),_,rfl,rfl,_,rfl,bE ?_⟩
   refine⟨_,rfl,q,xs,_,_,rfl,rfl,hq,aB (j:=1) i1,y1,t,rfl,d1,ok.1,few.1,fun H1 s1=>⟨_,_,rfl,rfl,sz (by omega),_,rfl,q,xs,_,_,rfl,rfl,s1.iP hq,aB (j:=2) i2,y2,u,rfl,aJ s1.kts _ _ u.bG d2,ok.2,few.2,fun H2 s2=>⟨_,_,rfl,rfl,?_,?_⟩⟩⟩
   ·rw[strLen_append];refine sz ?_;omega
   ·rw[qq (qq rfl (mj c1)) rfl,List.append_assoc]
    exact k H2 (s1.trans s2)
  | less t u=>
   obtain⟨q,xs,rfl,hq,hd⟩:=dQ hx
   obtain⟨y1,i1,d1⟩:=lY hd (i:=1) (d:=t.dt) rfl
   obtain⟨y2,i2,d2⟩:=lY hd (i:=2) (d:=u.dt) rfl
   have l1:=JF ok.1 few.1
   have l2:=JF ok.2 few.2
   refine⟨_,rfl,q,xs,_,_,rfl,rfl,hq,aB (j:=0) (bZ hd (i:=0) rfl),_,rfl,rfl,_,rfl,aY ⟨_,rfl,rfl,_,rfl,bE ?_⟩⟩
   refine⟨_,rfl,q,xs,_,_,rfl,rfl,hq,aB (j:=1) i1,y1,t,rfl,d1,ok.1,few.1,fun H1 s1=>⟨_,_,rfl,rfl,sz (by omega),_,rfl,q,xs,_,_,rfl,rfl,s1.iP hq,aB (j:=2) i2,y2,u,rfl,aJ s1.kts _ _ u.bG d2,ok.2,few.2,fun H2 s2=>⟨_,_,rfl,rfl,?_,?_⟩⟩⟩
   ·rw[strLen_append];refine sz ?_;omega
   ·rw[qq (qq rfl (mj c2)) rfl,List.append_assoc]
    exact k H2 (s1.trans s2)
  | sign n t g=>
   obtain⟨q,xs,rfl,hq,hd⟩:=dQ hx
   obtain⟨y2,i2,d2⟩:=lY hd (i:=2) (d:=t.dt) rfl
   obtain⟨hn,o1,g0,g9⟩:=ok
   have nl:=(cg hn).2.1
   have l1:=lat hn o1 few
   obtain⟨m,rfl⟩:∃m:Nat,g=(m:Int):=⟨g.toNat,by omega⟩
   have hm:m<10:=by omega
   refine⟨_,rfl,q,xs,_,_,rfl,rfl,hq,aB (j:=0) (bZ hd (i:=0) rfl),_,rfl,rfl,_,rfl,aY ⟨_,rfl,rfl,_,rfl,aY ⟨_,rfl,rfl,_,rfl,bE ?_⟩⟩⟩
   refine⟨_,rfl,q,xs,_,_,rfl,rfl,hq,aB (j:=1) (bZ hd (i:=1) rfl),_,rfl,q,xs,_,_,rfl,rfl,hq,aB (j:=2) i2,n,y2,t,rfl,d2,o1,few,by omega,fun H1 s1=>⟨_,_,rfl,rfl,sz (by omega),_,rfl,q,xs,_,_,rfl,rfl,s1.iP hq,aB (j:=3) (Nj hd (i:=3) rfl),_,rfl,Cd hm,_,_,rfl,rfl,?_,?_⟩⟩
   ·rw[strLen_append,Ce hm];refine sz ?_;omega
   ·rw[qq (qq rfl (mj c1)) (mj (vI hm)),List.append_assoc]
    have:=k H1 s1
    exact this
  | alike n t n2 u=>
   obtain⟨q,xs,rfl,hq,hd⟩:=dQ hx
   obtain⟨y2,i2,d2⟩:=lY hd (i:=2) (d:=t.dt) rfl
   obtain⟨y4,i4,d4⟩:=lY hd (i:=4) (d:=u.dt) rfl
   obtain⟨hn,o1,hn2,o2⟩:=ok
   have nl:=(cg hn).2.1
   have nl2:=(cg hn2).2.1
   have l1:=lat hn o1 few.1
   have l2:=lat hn2 o2 few.2
   refine⟨_,rfl,q,xs,_,_,rfl,rfl,hq,aB (j:=0) (bZ hd (i:=0) rfl),_,rfl,rfl,_,rfl,aY ⟨_,rfl,rfl,_,rfl,aY ⟨_,rfl,rfl,_,rfl,aY ?_⟩⟩⟩
   refine⟨_,rfl,q,xs,_,_,rfl,rfl,hq,aB (j:=1) (bZ hd (i:=1) rfl),_,rfl,q,xs,_,_,rfl,rfl,hq,aB (j:=2) i2,n,y2,t,rfl,d2,o1,few.1,by omega,fun H1 s1=>⟨_,_,rfl,rfl,sz (by omega),_,rfl,q,xs,_,_,rfl,rfl,s1.iP hq,aB (j:=3) (bZ hd (i:=3) rfl),_,rfl,q,xs,_,_,rfl,rfl,s1.iP hq,aB (j:=4) i4,n2,y4,u,rfl,aJ s1.kts _ _ u.bG d4,o2,few.2,by omega,fun H2 s2=>⟨_,_,rfl,rfl,?_,?_⟩⟩⟩
   ·rw[strLen_append];refine sz ?_;omega
   ·rw[qq (qq rfl (mj c3)) rfl,List.append_assoc]
    exact k H2 (s1.trans s2)
  | _=>cases at'
theorem zO {f g:ax} (h:g∈f.inner):(aq g).length<(aq f).length:=by
 cases f with
 | no a=>rw[List.mem_singleton.mp h];simp[aq];omega
 | and a b=>
  rcases List.mem_cons.mp h with e | e
  ·rw[e];simp[aq];omega
  ·rw[List.mem_singleton.mp e];simp[aq];omega
 | or a b=>
  rcases List.mem_cons.mp h with e | e
  ·rw[e];simp[aq];omega
  ·rw[List.mem_singleton.mp e];simp[aq];omega
 | some n a=>rw[List.mem_singleton.mp h];simp[aq];omega
 | each n a=>rw[List.mem_singleton.mp h];simp[aq];omega
 | _=>cases h
theorem Ig {f g:ax} (h:g∈f.inner) (ok:f.Ok) (few:f.lE):g.Ok∧g.lE:=by
 cases f with
 | no a=>rw[List.mem_singleton.mp h];exact⟨ok,few⟩
 | and a b=>
  rcases List.mem_cons.mp h with e | e
  ·rw[e];exact⟨ok.1,few.1⟩
  ·rw[List.mem_singleton.mp e];exact⟨ok.2,few.2⟩
 | or a b=>
  rcases List.mem_cons.mp h with e | e
  ·rw[e];exact⟨ok.1,few.1⟩
  ·rw[List.mem_singleton.mp e];exact⟨ok.2,few.2⟩
 | some n a=>rw[List.mem_singleton.mp h];exact⟨ok.2,few⟩
 | each n a=>rw[List.mem_singleton.mp h];exact⟨ok.2,few⟩
 | _=>cases h
theorem JG:∀(ns:List Nat) (f g:ax),f.Ok→f.lE→f.at ns=some g→g.Ok∧g.lE∧(aq g).length≤(aq f).length
 | [],f,g,o,w,e=>by
  have e':f=g:=Option.some.inj e
  rw[←e'];exact⟨o,w,Nat.le_refl _⟩
 | n::ns,f,g,o,w,e=>by
  have e':(f.inner[n]?).bind (fun g=>g.at ns)=some g:=e
  obtain⟨u,eu,ea⟩:=Option.bind_eq_some_iff.mp e'
  have hm:=List.mem_of_getElem? eu
  obtain⟨o1,w1⟩:=Ig hm o w
  obtain⟨h1,h2,h3⟩:=JG ns u g o1 w1 ea
  exact⟨h1,h2,Nat.le_of_lt (Nat.lt_of_le_of_lt h3 (zO hm))⟩
def PN (kvs:List (List Key×V)) (es:List Ent):Prop:=∀e∈es,fJ kvs (keyOf e.1)=some (.str (txt (aq e.2)))
theorem si:bh ["saying","inner","word"] ["saying","inner"] (aw gJ):=⟨rfl,rfl,rfl,by decide+kernel,rfl,by decide+kernel,by decide+kernel⟩
theorem zP {a:dG} (T:Txt K mg a):a_ P w K mg base dq 5 a.j5 a.mP ["saying","inner"] (DQ K):=by
 have Bm:=zN (P:=P) (w:=w) (base:=base) T
 refine T.Bb.ok si (fun vs H Q E h=>?_) (fun cdv A outer s H vs Q E hr h=>?_)
 ·obtain⟨x,f,I,rfl,_⟩:=h
  rfl
 ·obtain⟨x,f,I,rfl,hx,ok,few,ln,hI,k⟩:=h
  have zQ:aU 4 _:=hr
  refine⟨_,(aj (aH (i:=2) si.nd rfl (Or.inl rfl) (aO (aS K) (pv 0) ai (fun _ _=>rfl)))
  (aj (bH (aP cL (pv 2) ah (aW _))
   (aD (aR (av ao ah (aO (bF K) (pv 1) ai (fun _ _=>rfl)))))
   bg)
  (aj (bH (aP (pB K) (pv 2) (br (ae ah (ae ah af))) (by with_unfolding_all rfl))
   (aD (aR (av ao (av ao (av ao (av ao (av ao (av ao ah (aO (bF K) (pv 1) ai (fun _ _=>rfl))) ah) (pv 2)) ah) (aO (bF K) (pv 1) ai (fun _ _=>rfl))) ah)))
   bg)
  (aj (bH (aP (pB K) (pv 2) (br (ae ah (ae ah af))) (by with_unfolding_all rfl))
   (aD (aR (av ao (av ao (av ao (av ao (pv 2) ah) (aO (aS K) (pv 0) ai (fun _ _=>rfl))) ah) (aO (bF K) (pv 1) ai (fun _ _=>rfl)))))
   bg)
  (aD (aR (aE Bm zQ rfl T.A8 T.A9 T.Ba .nil aT (ae (pv 0) af)))))))),?_⟩
  have bl:ak (Str.ofString " ")=[32]:=by decide+kernel
  have l1:(Str.ofString " ").length=1:=by decide+kernel
  have hin:∀g∈f.inner,(txt (aq g)).length≤1000000:=fun g hg=>by rw[cJ];have:=zO hg;omega
  have lp:(Str.ofString "(").length=1:=by decide+kernel
  have lq:(Str.ofString ")").length=1:=by decide+kernel
  have land:(Str.ofString "and").length=3:=by decide+kernel
  have lor:(Str.ofString "or").length=2:=by decide+kernel
  have x8:(Str.ofString "some").length=4:=by decide+kernel
  have x9:(Str.ofString "each").length=4:=by decide+kernel
  cases f with
  | no g=>
   obtain⟨q,xs,rfl,hq,hd⟩:=dQ hx
   have lg:=hin g (by simp[ax.inner])
   refine⟨_,rfl,q,xs,_,_,rfl,rfl,hq,aB (j:=0) (bZ hd (i:=0) rfl),_,rfl,rfl,_,rfl,bE ?_⟩
   refine⟨_,rfl,I,_,_,_,rfl,rfl,.of hI,aB (j:=0) (v:=.str (txt (aq g))) rfl,_,_,rfl,rfl,?_,?_⟩
   ·rw[show(Str.ofString "not ").length=4 by decide+kernel];rw[PySem.sizeLine_eq];omega
   ·rw[qq (mj (u:=[110,111,116,32]) (by decide+kernel)) rfl]
    exact k H (Same.refl _)
  | and g h=>
   obtain⟨q,xs,rfl,hq,hd⟩:=dQ hx
   have lg:=hin g (by simp[ax.inner])
   have lh:=hin h (by simp[ax.inner])
   refine⟨_,rfl,q,xs,_,_,rfl,rfl,hq,aB (j:=0) (bZ hd (i:=0) rfl),_,rfl,rfl,_,rfl,aY ⟨_,rfl,by show 2≤sizeLine;decide,fun t1 ht1=>⟨t1,_,rfl,.inr (.of ag),rfl,rfl,_,rfl,bE ?_⟩⟩⟩
   have s1:=Same.new (o:=.tup [.str (Str.ofString "and"),.str (Str.ofString "or")]) ht1
   have u0:=s1 _ _ hI
   refine⟨_,rfl,I,_,_,_,rfl,rfl,.of u0,aB (j:=0) (v:=.str (txt (aq g))) rfl,_,_,rfl,rfl,?_,_,_,rfl,rfl,?_,_,rfl,_,_,rfl,rfl,?_,_,_,rfl,rfl,?_,_,rfl,I,_,_,_,rfl,rfl,.of u0,aB (j:=1) (v:=.str (txt (aq h))) rfl,_,_,rfl,rfl,?_,_,_,rfl,rfl,?_,?_⟩
   ·rw[lp,PySem.sizeLine_eq];omega
   ·rw[strLen_append,lp,l1,PySem.sizeLine_eq];omega
   ·rw[strLen_append,strLen_append,lp,l1,land,PySem.sizeLine_eq];omega
   ·rw[strLen_append,strLen_append,strLen_append,lp,l1,land,PySem.sizeLine_eq];omega
   ·rw[strLen_append,strLen_append,strLen_append,strLen_append,lp,l1,land,PySem.sizeLine_eq];omega
   ·rw[strLen_append,strLen_append,strLen_append,strLen_append,strLen_append,lp,l1,land,lq,PySem.sizeLine_eq];omega
   ·have et:Str.ofString "("++txt (aq g)++Str.ofString " "++Str.ofString "and"++Str.ofString " "++txt (aq h)++Str.ofString ")"=txt (aq (.and g h)):=by
     refine cI ?_
     show ak _=ak _
     rw[aI,aI,aI,aI,aI,aI,aN,aN,aN,bl,show ak (Str.ofString "(")=[40] by decide+kernel,show ak (Str.ofString ")")=[41] by decide+kernel,show ak (Str.ofString "and")=[97,110,100] by decide+kernel]
     simp[aq]
    exact Eq.mp (congrArg (fun z=>Q (V.str z) _) et.symm) (k _ s1)
  | or g h=>
   obtain⟨q,xs,rfl,hq,hd⟩:=dQ hx
   have lg:=hin g (by simp[ax.inner])
   have lh:=hin h (by simp[ax.inner])
   refine⟨_,rfl,q,xs,_,_,rfl,rfl,hq,aB (j:=0) (bZ hd (i:=0) rfl),_,rfl,rfl,_,rfl,aY ⟨_,rfl,by show 2≤sizeLine;decide,fun t1 ht1=>⟨t1,_,rfl,.inr (.of ag),rfl,rfl,_,rfl,bE ?_⟩⟩⟩
   have s1:=Same.new (o:=.tup [.str (Str.ofString "and"),.str (Str.ofString "or")]) ht1
   have u0:=s1 _ _ hI
   refine⟨_,rfl,I,_,_,_,rfl,rfl,.of u0,aB (j:=0) (v:=.str (txt (aq g))) rfl,_,_,rfl,rfl,?_,_,_,rfl,rfl,?_,_,rfl,_,_,rfl,rfl,?_,_,_,rfl,rfl,?_,_,rfl,I,_,_,_,rfl,rfl,.of u0,aB (j:=1) (v:=.str (txt (aq h))) rfl,_,_,rfl,rfl,?_,_,_,rfl,rfl,?_,?_⟩
   ·rw[lp,PySem.sizeLine_eq];omega
   ·rw[strLen_append,lp,l1,PySem.sizeLine_eq];omega
   ·rw[strLen_append,strLen_append,lp,l1,lor,PySem.sizeLine_eq];omega
   ·rw[strLen_append,strLen_append,strLen_append,lp,l1,lor,PySem.sizeLine_eq];omega
   ·rw[strLen_append,strLen_append,strLen_append,strLen_append,lp,l1,lor,PySem.sizeLine_eq];omega
   ·rw[strLen_append,strLen_append,strLen_append,strLen_append,strLen_append,lp,l1,lor,lq,PySem.sizeLine_eq];omega
   ·have et:Str.ofString "("++txt (aq g)++Str.ofString " "++Str.ofString "or"++Str.ofString " "++txt (aq h)++Str.ofString ")"=txt (aq (.or g h)):=by
     refine cI ?_
     show ak _=ak _
     rw[aI,aI,aI,aI,aI,aI,aN,aN,aN,bl,show ak (Str.ofString "(")=[40] by decide+kernel,show ak (Str.ofString ")")=[41] by decide+kernel,show ak (Str.ofString "or")=[111,114] by decide+kernel]
     simp[aq]
    exact Eq.mp (congrArg (fun z=>Q (V.str z) _) et.symm) (k _ s1)
  | some n g=>
   obtain⟨q,xs,rfl,hq,hd⟩:=dQ hx
   have lg:=hin g (by simp[ax.inner])
   have nl:=(bR ok.1).2.1
   refine⟨_,rfl,q,xs,_,_,rfl,rfl,hq,aB (j:=0) (bZ hd (i:=0) rfl),_,rfl,rfl,_,rfl,aY ⟨_,rfl,by show 2≤sizeLine;decide,fun t1 ht1=>⟨t1,_,rfl,.inr (.of ag),rfl,rfl,_,rfl,aY ⟨_,rfl,by show 2≤sizeLine;decide,fun t2 sj=>⟨t2,_,rfl,.inr (.of ag),rfl,rfl,_,rfl,bE ?_⟩⟩⟩⟩⟩
   have s1:=(Same.new (o:=.tup [.str (Str.ofString "and"),.str (Str.ofString "or")]) ht1).trans (Same.new (o:=.tup [.str (Str.ofString "some"),.str (Str.ofString "each")]) sj)
   have u0:=s1 _ _ hI
   refine⟨_,rfl,_,_,rfl,rfl,?_,_,rfl,q,xs,_,_,rfl,rfl,s1.iP hq,aB (j:=1) (bZ hd (i:=1) rfl),_,_,rfl,rfl,?_,_,_,rfl,rfl,?_,_,rfl,I,_,_,_,rfl,rfl,.of u0,aB (j:=0) (v:=.str (txt (aq g))) rfl,_,_,rfl,rfl,?_,?_⟩
   ·rw[x8,l1,PySem.sizeLine_eq];omega
   ·rw[strLen_append,x8,l1,PySem.sizeLine_eq];omega
   ·rw[strLen_append,strLen_append,x8,l1,PySem.sizeLine_eq];omega
   ·rw[strLen_append,strLen_append,strLen_append,x8,l1,PySem.sizeLine_eq];omega
   ·have et:Str.ofString "some"++Str.ofString " "++n++Str.ofString " "++txt (aq g)=txt (aq (.some n g)):=by
     refine cI ?_
     show ak _=ak _
     rw[aI,aI,aI,aI,aN,aN,bl,show ak (Str.ofString "some")=[115,111,109,101] by decide+kernel]
     simp[aq]
    exact Eq.mp (congrArg (fun z=>Q (V.str z) _) et.symm) (k _ s1)
  | each n g=>
   obtain⟨q,xs,rfl,hq,hd⟩:=dQ hx
   have lg:=hin g (by simp[ax.inner])
   have nl:=(bR ok.1).2.1
   refine⟨_,rfl,q,xs,_,_,rfl,rfl,hq,aB (j:=0) (bZ hd (i:=0) rfl),_,rfl,rfl,_,rfl,aY ⟨_,rfl,by show 2≤sizeLine;decide,fun t1 ht1=>⟨t1,_,rfl,.inr (.of ag),rfl,rfl,_,rfl,aY ⟨_,rfl,by show 2≤sizeLine;decide,fun t2 sj=>⟨t2,_,rfl,.inr (.of ag),rfl,rfl,_,rfl,bE ?_⟩⟩⟩⟩⟩
   have s1:=(Same.new (o:=.tup [.str (Str.ofString "and"),.str (Str.ofString "or")]) ht1).trans (Same.new (o:=.tup [.str (Str.ofString "some"),.str (Str.ofString "each")]) sj)
   have u0:=s1 _ _ hI
   refine⟨_,rfl,_,_,rfl,rfl,?_,_,rfl,q,xs,_,_,rfl,rfl,s1.iP hq,aB (j:=1) (bZ hd (i:=1) rfl),_,_,rfl,rfl,?_,_,_,rfl,rfl,?_,_,rfl,I,_,_,_,rfl,rfl,.of u0,aB (j:=0) (v:=.str (txt (aq g))) rfl,_,_,rfl,rfl,?_,?_⟩
   ·rw[x9,l1,PySem.sizeLine_eq];omega
   ·rw[strLen_append,x9,l1,PySem.sizeLine_eq];omega
   ·rw[strLen_append,strLen_append,x9,l1,PySem.sizeLine_eq];omega
   ·rw[strLen_append,strLen_append,strLen_append,x9,l1,PySem.sizeLine_eq];omega
   ·have et:Str.ofString "each"++Str.ofString " "++n++Str.ofString " "++txt (aq g)=txt (aq (.each n g)):=by
     refine cI ?_
     show ak _=ak _
     rw[aI,aI,aI,aI,aN,aN,bl,show ak (Str.ofString "each")=[101,97,99,104] by decide+kernel]
     simp[aq]
    exact Eq.mp (congrArg (fun z=>Q (V.str z) _) et.symm) (k _ s1)
  | same t u=>
   obtain⟨q,xs,rfl,hq,hd⟩:=dQ hx
   refine⟨_,rfl,q,xs,_,_,rfl,rfl,hq,aB (j:=0) (bZ hd (i:=0) rfl),_,rfl,rfl,_,rfl,aY ⟨_,rfl,by show 2≤sizeLine;decide,fun t1 ht1=>⟨t1,_,rfl,.inr (.of ag),rfl,rfl,_,rfl,aY ⟨_,rfl,by show 2≤sizeLine;decide,fun t2 sj=>⟨t2,_,rfl,.inr (.of ag),rfl,rfl,_,rfl,aY ?_⟩⟩⟩⟩⟩
   have s1:=(Same.new (o:=.tup [.str (Str.ofString "and"),.str (Str.ofString "or")]) ht1).trans (Same.new (o:=.tup [.str (Str.ofString "some"),.str (Str.ofString "each")]) sj)
   exact⟨_,rfl,.ref q,_,rfl,aJ s1.kts _ _ (ax.bG _) hx,rfl,ok,few,fun H2 s2=>k H2 (s1.trans s2)⟩
  | less t u=>
   obtain⟨q,xs,rfl,hq,hd⟩:=dQ hx
   refine⟨_,rfl,q,xs,_,_,rfl,rfl,hq,aB (j:=0) (bZ hd (i:=0) rfl),_,rfl,rfl,_,rfl,aY ⟨_,rfl,by show 2≤sizeLine;decide,fun t1 ht1=>⟨t1,_,rfl,.inr (.of ag),rfl,rfl,_,rfl,aY ⟨_,rfl,by show 2≤sizeLine;decide,fun t2 sj=>⟨t2,_,rfl,.inr (.of ag),rfl,rfl,_,rfl,aY ?_⟩⟩⟩⟩⟩
   have s1:=(Same.new (o:=.tup [.str (Str.ofString "and"),.str (Str.ofString "or")]) ht1).trans (Same.new (o:=.tup [.str (Str.ofString "some"),.str (Str.ofString "each")]) sj)
   exact⟨_,rfl,.ref q,_,rfl,aJ s1.kts _ _ (ax.bG _) hx,rfl,ok,few,fun H2 s2=>k H2 (s1.trans s2)⟩
  | sign n t g=>
   obtain⟨q,xs,rfl,hq,hd⟩:=dQ hx
   refine⟨_,rfl,q,xs,_,_,rfl,rfl,hq,aB (j:=0) (bZ hd (i:=0) rfl),_,rfl,rfl,_,rfl,aY ⟨_,rfl,by show 2≤sizeLine;decide,fun t1 ht1=>⟨t1,_,rfl,.inr (.of ag),rfl,rfl,_,rfl,aY ⟨_,rfl,by show 2≤sizeLine;decide,fun t2 sj=>⟨t2,_,rfl,.inr (.of ag),rfl,rfl,_,rfl,aY ?_⟩⟩⟩⟩⟩
   have s1:=(Same.new (o:=.tup [.str (Str.ofString "and"),.str (Str.ofString "or")]) ht1).trans (Same.new (o:=.tup [.str (Str.ofString "some"),.str (Str.ofString "each")]) sj)
   exact⟨_,rfl,.ref q,_,rfl,aJ s1.kts _ _ (ax.bG _) hx,rfl,ok,few,fun H2 s2=>k H2 (s1.trans s2)⟩
  | alike n t n2 u=>
   obtain⟨q,xs,rfl,hq,hd⟩:=dQ hx
   refine⟨_,rfl,q,xs,_,_,rfl,rfl,hq,aB (j:=0) (bZ hd (i:=0) rfl),_,rfl,rfl,_,rfl,aY ⟨_,rfl,by show 2≤sizeLine;decide,fun t1 ht1=>⟨t1,_,rfl,.inr (.of ag),rfl,rfl,_,rfl,aY ⟨_,rfl,by show 2≤sizeLine;decide,fun t2 sj=>⟨t2,_,rfl,.inr (.of ag),rfl,rfl,_,rfl,aY ?_⟩⟩⟩⟩⟩
   have s1:=(Same.new (o:=.tup [.str (Str.ofString "and"),.str (Str.ofString "or")]) ht1).trans (Same.new (o:=.tup [.str (Str.ofString "some"),.str (Str.ofString "each")]) sj)
   exact⟨_,rfl,.ref q,_,rfl,aJ s1.kts _ _ (ax.bG _) hx,rfl,ok,few,fun H2 s2=>k H2 (s1.trans s2)⟩
theorem iw:bh ["saying","texts","place","part"] ["saying"] (aw fB):=⟨rfl,rfl,rfl,by decide+kernel,rfl,by decide+kernel,by decide+kernel⟩
theorem vO {a:dG} {b:rY} (T:Txt K mg a) (U:oH K w.params mg b):a_ P w K mg base dq 6 a.gC a.iq ["saying"] (sd K):=by
 have u5:a_ P w K mg base dq 2 a.fF a.gj ["told","place","saying"] (zK K):=um T U
 have uo:a_ P w K mg base dq 2 a.fb a.fP ["saying"] (Cn K):=tq T U
 have Bn:=zP (P:=P) (w:=w) (base:=base) T
 refine T.xN.ok iw (fun vs H Q E h=>?_) (fun cdv A outer s H vs Q E hr h=>?_)
 ·obtain⟨x,f,rfl,_⟩:=h
  rfl
 ·obtain⟨x,f,rfl,hf,hdp,ok,few,ln,k⟩:=h
  have uq:aU 2 _:=hr.mono (by decide)
  have tu:aU 2 _:=hr.mono (by decide)
  have zR:aU 5 _:=hr
  refine⟨_,(aj (aH (i:=1) iw.nd rfl (Or.inl rfl) GN)
  (aj (ko PassesOwn.never rfl (o5 (aE uo tu rfl T.tZ T.t_ T.ua .nil aT (ae (pv 0) af))) (Eh rfl (pT (cR (i:=2) iw.nd rfl (Or.inl rfl)) (pT (cR (i:=3) iw.nd rfl (Or.inl rfl)) BD)))
   (aD (Ky (sH hr) (pv 1) (pv 2) (aE Bn zR rfl T.Bc T.Be T.Bf .nil aT (ae (pv 3) (ae (aE u5 uq rfl T.uR T.uS T.uT .nil aT (ae (pv 1) (ae (pv 2) (ae (pv 3) af)))) af))) rfl)))
  (aD (aR (BP (sH hr) (pv 1) (br af) (fun _ _=>rfl)))))),?_⟩
  refine fun D hD=>?_
  have sD:=Same.new (o:=.dT []) hD
  refine⟨_,rfl,x,f,rfl,aJ sD.kts _ _ f.bG hf,hdp,fun L qs es H2 hL s2 eL prs late les=>?_⟩
  have Nk:H2 D=some (.dT []):=s2 _ _ ag
  have nLD:L≠D:=(bj ag hL).symm
  have lqs:qs.length=es.length:=Paired.length prs
  have sH2:=sD.trans s2
  refine⟨L,rfl,⟨_,.of eL⟩,yk (xs:=qs.map V.ref) (fun i σ H'=>∃(kvs:List (List Key×V)) (v2 v3:Option V),σ=[some x,some (.ref D),v2,v3]∧KB D H2 H'∧H' D=some (.dT kvs)∧kvs.length≤i∧PN kvs (es.take i))
   ⟨[],none,none,rfl,KB.refl _ _,Nk,Nat.le_refl _,fun e he=>by simp at he⟩ (fun i σ H' _ ⟨_,_,_,_,h,_⟩=>.of (h _ _ eL nLD)) ?_ ?_⟩
  ·rintro i y0 σ H3 hy ⟨kvs,v2,v3,rfl,k3,JH,lkv,kn⟩
   obtain⟨q,rfl,hq⟩:=Co hy
   obtain⟨⟨ns,g⟩,he,pq⟩:=Ci prs hq
   have kt3:eX H2 H3:=eX.dT Nk k3
   have ks3:fm K H2 H3:=KB.Ts Nk k3
   obtain⟨pl,y,eq,Cp,dy⟩:=pq.keep kt3 ks3
   have hin:=List.mem_of_getElem? he
   have JI:f.at ns=some g:=late.here _ hin
   obtain⟨Nl,Tx,gln⟩:=JG ns f g ok few JI
   have hi:i<es.length:=(List.getElem?_eq_some_iff.mp he).1
   refine⟨q,_,rfl,.of eq,rfl,_,_,rfl,_,_,rfl,rfl,?_⟩
   have RH:=kd g
   refine⟨_,rfl,_,rfl,_,rfl,_,rfl,D,pl,y,g,kvs,ns,(g.inner.map fun h=>txt (aq h)).map V.str,rfl,dy,JH,Cp,zG hdp JI,by rw[List.length_map,List.length_map],fun j u hu=>?_,fun C H5 hC s5 eC=>?_⟩
   ·rw[List.getElem?_map,List.getElem?_map] at hu
    cases eh:g.inner[j]? with
    | none=>rw[eh] at hu;cases hu
    | some h=>
     rw[eh] at hu
     obtain⟨j',hj2,ee⟩:=late.kid i ns g he j h eh
     rw[kn (ns++[j],h) (List.mem_of_getElem? (i:=j') (by rw[List.getElem?_take_of_lt hj2];exact ee))]
     exact hu
   refine⟨y,g,C,rfl,aJ s5.kts _ _ g.bG dy,Nl,Tx,by omega,eC,fun H6 s6=>?_⟩
   have Nm:=s5.trans s6
   have eD6:=Nm _ _ JH
   have Ia:=Nm _ _ Cp
   refine⟨_,rfl,_,rfl,D,_,rfl,yx.t (k:=keyOf ns) eD6 (by rw[Ia,zJ]) (Nat.lt_of_le_of_lt (show kvs.length≤100000 by omega) (by decide)),?_⟩
   refine⟨_,_,_,rfl,(k3.trans Nm.kb).trans KB.write,ag,Nat.le_trans (oS _ _ _) (by omega),fun e hm=>?_⟩
   rw[take_snoc he] at hm
   by_cases ek:keyOf e.1=keyOf ns
   ·have en:=xh ek
    have eg:e.2=g:=by
     have h1:f.at e.1=some e.2:=by
      rcases List.mem_append.mp hm with z | z
      ·exact late.here e (List.mem_of_mem_take z)
      ·rw[List.mem_singleton.mp z];exact JI
     rw[en,JI] at h1
     exact(Option.some.inj h1).symm
    rw[yu,if_pos ek,eg]
   ·rcases List.mem_append.mp hm with z | z
    ·rw[yu,if_neg ek];exact kn e z
    ·exact absurd (by rw[List.mem_singleton.mp z]) ek
  ·rintro σ H3 ⟨kvs,v2,v3,rfl,k3,JH,lkv,kn⟩
   rw[List.length_map,lqs,List.take_length] at kn
   have a1:=kn _ late.root
   refine⟨_,rfl,by decide,fun e he=>?_⟩
   have se:=Same.new (o:=.tup []) he
   exact⟨D,.str (txt (aq f)),rfl,.inr ⟨kvs,[],e,.inl (se _ _ JH),rfl,ag,a1.symm⟩,k _ ((sH2.kbn hD k3).trans se)⟩
theorem xO:bh ["some","signs"] ["some","signs"] (aw eZ):=⟨rfl,rfl,rfl,by decide+kernel,rfl,by decide+kernel,by decide+kernel⟩
theorem qJ {a:dG} (T:Txt K mg a):a_ P w K mg base dq 1 a.ji a.kZ ["some","signs"] MH:=by
 refine T.yT.ok xO (fun vs H Q E h=>?_) (fun cdv A outer s H vs Q E hr h=>?_)
 ·obtain⟨x,y,rfl,_⟩:=h
  rfl
 ·obtain⟨x,y,rfl,ha,k⟩:=h
  refine⟨_,(aD (aR (bq (EU K rfl) (by rfl) T.PD LU (ae (pj (bO.mk' (esc:=aw eZ) (N:=["some","signs"]) (own:=["sign"]) (bX:=["signs"]) (cS:=[1]) rfl rfl (by decide+kernel)) rfl (Mp (pv 0)) (fun _ _ _ _=>(cR (i:=0) (show List.Nodup (["sign","signs"]:List Str) by decide+kernel) rfl (Or.inl rfl))) (fun _ _ _ _=>gQ) (fun _ _ _ _=>(iT wc (pv 0) (pv 1) (by with_unfolding_all rfl)))) af)))),?_⟩
  refine⟨_,rfl,x,rfl,ha.all,fun C hC=>?_⟩
  refine Hm (fun i σ H'=>∃v:Option V,σ=[v,some (.str y)]∧Same H H'∧H' C=some (.lst (((x.cps.toList.take i).map fun c=>decide (c∈y.cps.toList)).map V.bl)))
   ⟨none,rfl,Same.new hC,ag⟩ ?_ ?_
  ·rintro i c σ H1 hc ⟨v,rfl,s1,eC⟩
   have hc':x.cps.toList[i]? =some c:=by rw[Array.getElem?_toList];exact hc
   have hi:=(List.getElem?_eq_some_iff.mp hc').1
   rw[cU] at hi
   refine⟨_,rfl,_,rfl,⟨#[c]⟩,y,rfl,rfl,_,eC,?_,_,rfl,s1.kbn hC KB.write,?_⟩
   ·rw[List.length_map,List.length_map,List.length_take];have:=ha.2;exact Nat.lt_of_lt_of_le (show min i _<100001 by omega) (by decide)
   ·rw[ag,List.take_add_one,hc',vC,List.map_append,List.map_append];rfl
  ·rintro σ H1 ⟨v,rfl,s1,eC⟩
   refine⟨C,_,rfl,.of eC,?_⟩
   rw[List.take_of_length_le (by rw[cU];exact Nat.le_refl _),show((x.cps.toList.map fun c=>decide (c∈y.cps.toList)).all id)=ju x y by unfold ju;simp[List.all_map,Function.comp_def]]
   exact k _ s1
theorem zS:bh ["some","signs"] ["some","signs"] (aw gE):=⟨rfl,rfl,rfl,by decide+kernel,rfl,by decide+kernel,by decide+kernel⟩
theorem mZ {a:dG} {x:gk} (T:Txt K mg a) (TE:TX K mg x):a_ P w K mg base (b_ P w) 3 a.fN a.fS ["some","signs"] (uV x.c4):=by
 have m_:=qJ (P:=P) (w:=w) (base:=base) T
 obtain⟨tLN,gLN⟩:=T.vD
 refine T.AL.oj zS (fun vs H Q E h=>?_) (fun cdv A outer s H vs Q E hr h=>?_)
 ·obtain⟨z,y,rfl,_⟩:=h
  rfl
 ·obtain⟨z,y,rfl,ha,kq,ke⟩:=h
  have lu:aU 1 _:=hr.mono (by decide)
  have qt:aU 2 _:=hr
  refine⟨_,(aj (bH (PW.pt (je (o4 (GB IZ IZ ai (bq (bP K) (by rfl) T.dv cO (ae (pv 0) af)) (dM (v:=.int 3) (by rfl) gLN ⟨_,rfl⟩))) (je (o4 (df (aE m_ lu rfl T.rq T.rA T.rB .nil aT (ae (pv 0) (ae (pv 1) af))) (fun _=>rfl))) (jc (aP (pB K) (pv 0) (br (ae ah (ae ah (ae ah af)))) (by with_unfolding_all rfl))))))
   (aD (uJ hr.hd TE.x4 ky (qY TE.x4 TE.M4 (uU TE) qt (by rfl) TE.m4 TE.b4)))
   bg)
  (aD (aR (pv 0)))),?_⟩
  have zl:z.length≤sizeLine:=Nat.le_trans ha.2 (by decide)
  have bad:nameB y z=false→∀H',Same H H'→Rz x.c4 H' E:=fun e H' s=>(ke e).same s
  refine⟨_,rfl,_,z.length,rfl,⟨zl,rfl⟩,_,_,rfl,rfl,_,rfl,?_⟩
  by_cases h1:1≤z.length
  ·rw[show decide ((1:Int)≤((z.length:Nat):Int))=true from decide_eq_true (by omega)]
   refine bE ⟨_,_,rfl,rfl,_,rfl,?_⟩
   by_cases h3:z.length≤3
   ·rw[show decide (((z.length:Nat):Int)≤3)=true from decide_eq_true (by omega)]
    refine aY ⟨_,rfl,_,rfl,z,y,rfl,ha,fun H1 s1=>⟨_,rfl,?_⟩⟩
    cases hm:ju z y with
    | true=>
     refine aY ⟨_,rfl,by show 3≤sizeLine;decide,fun W hW=>⟨W,_,rfl,.inr (.of ag),rfl,rfl,_,rfl,?_⟩⟩
     have sW:=s1.trans (Same.new (o:=.tup [.str "not",.str "and",.str "or"]) hW)
     rw[show inV (V.str z) [V.str "not",V.str "and",V.str "or"]=decide (z∈(["not","and","or"]:List Str)) from mV z ["not","and","or"]]
     by_cases hn:z∈(["not","and","or"]:List Str)
     ·rw[decide_eq_true hn]
      exact bE (gm TE (bad (by unfold nameB;rw[decide_eq_true hn];simp) _ sW))
     ·rw[decide_eq_false hn]
      exact aY ⟨_,rfl,kq (by unfold nameB;rw[decide_eq_false hn,hm,decide_eq_true h1,decide_eq_true h3];rfl) _ sW⟩
    | false=>exact bE (bE (gm TE (bad (by unfold nameB;rw[hm];simp) _ s1)))
   ·rw[show decide (((z.length:Nat):Int)≤3)=false from decide_eq_false (by omega)]
    exact bE (bE (gm TE (bad (by unfold nameB;rw[decide_eq_false h3];simp) _ (Same.refl _))))
  ·rw[show decide ((1:Int)≤((z.length:Nat):Int))=false from decide_eq_false (by omega)]
   exact aY ⟨_,rfl,bE (bE (gm TE (bad (by unfold nameB;rw[decide_eq_false h1];simp) _ (Same.refl _))))⟩
theorem vP:bh ["some"] ["some"] (aw fz):=⟨rfl,rfl,rfl,by decide+kernel,rfl,by decide+kernel,by decide+kernel⟩
theorem vQ {a:dG} {x:gk} (T:Txt K mg a) (TE:TX K mg x):a_ P w K mg base (b_ P w) 3 a.gA a.ik ["some"] (zp x.c4):=by
 obtain⟨tFI,Nn⟩:=T.wV
 refine T.xC.oj vP (fun vs H Q E h=>?_) (fun cdv A outer s H vs Q E hr h=>?_)
 ·obtain⟨z,rfl,_⟩:=h
  rfl
 ·obtain⟨z,rfl,hz,kq,ke⟩:=h
  have qt:aU 2 _:=hr
  refine⟨_,(aj (bH (PW.pt (je (aP og (bq (bP K) (by rfl) T.dv cO (ae (pv 0) af)) ai (aW _)) (jc (aP yn (pv 0) (dM (v:=.str "0123456789") (by rfl) Nn ⟨_,rfl⟩) (by with_unfolding_all rfl)))))
   (aD (uJ hr.hd TE.x4 ky (qY TE.x4 TE.M4 (uU TE) qt (by rfl) TE.m4 TE.b4)))
   bg)
  (aD (aR (dU q_ (by rfl) T.sQ pA (ae (pv 0) af))))),?_⟩
  have zl:z.length≤sizeLine:=Nat.le_trans hz (by decide)
  refine⟨_,rfl,_,z.length,rfl,⟨zl,rfl⟩,rfl,_,rfl,?_⟩
  by_cases h1:z.length=1
  ·rw[dI (show((z.length:Nat):Int)=1 by omega)]
   obtain⟨c,rfl⟩:=one_sign h1
   refine aY ⟨_,rfl,⟨#[c]⟩,_,rfl,rfl,_,rfl,?_⟩
   rw[vC]
   cases hc:cP c with
   | true=>
    rw[decide_eq_true ((sT c).mpr hc)]
    refine aY ⟨_,rfl,⟨#[c]⟩,_,rfl,Cb hc,by show 1≤640;decide,kq _ (by rw[sS (c:=c) rfl,if_pos hc]) _ (Same.refl _)⟩
   | false=>
    rw[decide_eq_false (fun q=>by rw[(sT c).mp q] at hc;cases hc)]
    exact bE (gm TE (ke (by rw[sS (c:=c) rfl,if_neg (by rw[hc];decide)])))
  ·rw[EO (show ¬((z.length:Nat):Int)=1 by omega)]
   exact bE (bE (gm TE (ke (Ca h1))))
def Pl (z:Str) (k:Nat) (v:List Nat):Prop:=k≤z.length∧(ak z).drop k=v
theorem Pl.due {z:Str} {k:Nat} {v p r:List Nat} (h:Pl z k v) (e:cb p v=some r):Pl z (k+p.length) r:=by
 have ev:=dC e
 obtain⟨h1,h2⟩:=h
 have hl:v.length=z.length-k:=by rw[←h2,List.length_drop,←bC]
 refine⟨?_,?_⟩
 ·rw[ev,List.length_append] at hl;omega
 ·rw[←List.drop_drop,h2,ev,List.drop_left]
theorem Pl.run {z:Str} {k:Nat} {v:List Nat} (h:Pl z k v) (p:Nat→Bool):Pl z (k+(v.takeWhile p).length) (v.dropWhile p):=by
 obtain⟨h1,h2⟩:=h
 have hl:v.length=z.length-k:=by rw[←h2,List.length_drop,←bC]
 have e:v.takeWhile p++v.dropWhile p=v:=List.takeWhile_append_dropWhile
 have el:=congrArg List.length e
 rw[List.length_append] at el
 refine⟨by omega,?_⟩
 rw[←List.drop_drop,h2]
 have hd:(v.takeWhile p++v.dropWhile p).drop (v.takeWhile p).length=v.dropWhile p:=List.drop_left' rfl
 rw[e] at hd
 exact hd
theorem Pl.cut {z:Str} {k e:Nat} {v u w:List Nat} (h:Pl z k v) (ev:v=u++w) (he:e=k+u.length):Txt.slice z (some (k:Int)) (some (e:Int))=txt u:=by
 obtain⟨h1,h2⟩:=h
 have hl:v.length=z.length-k:=by rw[←h2,List.length_drop,←bC]
 rw[ev,List.length_append] at hl
 refine cI ?_
 rw[gD]
 show _=ak (txt u)
 rw[aN]
 unfold p8
 rw[HT.ia,HT.ia]
 have lz:z.cps.toList.length=z.length:=cU z
 rw[lz,Nat.min_eq_left h1,Nat.min_eq_left (by omega)]
 show((ak z).drop k).take (e-k)=u
 rw[h2,ev,he,show k+u.length-k=u.length by omega,List.take_left' rfl]
theorem Pl.Ih {z:Str} {k:Nat} {v:List Nat} (h:Pl z k v) (p:Nat→Bool):Txt.slice z (some (k:Int)) (some ((k+(v.takeWhile p).length:Nat):Int))=txt (v.takeWhile p):=
 h.cut List.takeWhile_append_dropWhile.symm rfl
theorem Pl.asc {z:Str} {k:Nat} {v u:List Nat} (h:Pl z k v) (ha:kC z) (hu:∀c∈u,c∈v) (hl:u.length≤v.length):kC (txt u):=by
 obtain⟨h1,h2⟩:=h
 have h3:v.length=z.length-k:=by rw[←h2,List.length_drop,←bC]
 refine⟨fun c hc=>ha.1 c ?_,?_⟩
 ·have hc:c∈ak (txt u):=hc
  rw[aN] at hc
  have:=hu c hc
  rw[←h2] at this
  exact List.mem_of_mem_drop this
 ·have:=ha.2;rw[cJ];omega
theorem Pl.Ii {z:Str} {k:Nat} {v:List Nat} (h:Pl z k v) (ha:kC z) (p:Nat→Bool):kC (txt (v.takeWhile p)):=
 h.asc ha (fun c hc=>(List.takeWhile_sublist p).subset hc) (List.takeWhile_sublist p).length_le
def sX (c4:Addr):Sp:=fun vs H Q E=>∃(z p:Str) (k:Nat) (v:List Nat),vs=[.str z,.int k,.str p]∧p.length≠0∧p.length≤1000∧Pl z k v∧
 (∀r,cb (ak p) v=some r→∀(e:Nat) H',Same H H'→Pl z e r→Q (.int e) H')∧(cb (ak p) v=none→Rz c4 H E)
def Ij:Sp:=fun vs H Q _=>∃(z y:Str) (k:Nat) (v:List Nat) (p:Nat→Bool),vs=[.str z,.int k,.str y]∧z.length≤100000∧Pl z k v∧(∀c,decide (c∈y.cps.toList)=p c)∧
 ∀H',Same H H'→Q (.int ((k+(v.takeWhile p).length:Nat):Int)) H'
def Ik:Sp:=fun vs H Q _=>∃z:Str,vs=[.str z]∧kC z∧∀H',Same H H'→Q (.bl (dP (ak z)).isSome) H'
def FQ (K:PySem.W.Frag) (c4:Addr):Sp:=fun vs H Q E=>∃z:Str,vs=[.str z]∧kC z∧(∀p,dA z=some p→∀q H',Same H H'→H' q=some (.tup [.str p.1,.int p.2])→Q (.ref q) H')∧(dA z=none→Rz c4 H E)
theorem Il (c:Nat):decide (c∈au.cps.toList)=bD c:=by
 cases h:bD c with
 | true=>exact decide_eq_true ((rQ c).mpr h)
 | false=>exact decide_eq_false fun q=>by rw[(rQ c).mp q] at h;cases h
theorem zT (c:Nat):decide (c∈aG.cps.toList)=bu c:=by
 cases h:bu c with
 | true=>
  have:=gn.mp h
  refine decide_eq_true ?_
  rw[tN]
  exact List.mem_map.mpr ⟨c-65,List.mem_range.mpr (by omega),by omega⟩
 | false=>exact decide_eq_false fun q=>by rw[gn.mpr (wY q)] at h;cases h
def JJ:Str:="abcdefghijklmnopqrstuvwxyz0123456789+"
theorem PQ (c:Nat):decide (c∈JJ.cps.toList)=cK c:=by
 have e:JJ.cps.toList=[97,98,99,100,101,102,103,104,105,106,107,108,109,110,111,112,113,114,115,116,117,118,119,120,121,122,48,49,50,51,52,53,54,55,56,57,43]:=by decide+kernel
 have key:(c∈JJ.cps.toList)↔cK c=true:=by
  rw[e,i6]
  simp only[List.mem_cons,List.not_mem_nil,or_false]
  omega
 cases h:cK c with
 | true=>exact decide_eq_true (key.mpr h)
 | false=>exact decide_eq_false fun q=>by rw[key.mp q] at h;cases h
theorem Im {z:Str}:ju z "0123456789"=(ak z).all cP:=by
 unfold ju
 show(ak z).all _=_
 congr 1
 funext c
 cases h:cP c with
 | true=>exact decide_eq_true ((sT c).mpr h)
 | false=>exact decide_eq_false fun q=>by rw[(sT c).mp q] at h;cases h
theorem K2 {z:Str} {n:Nat} (h:dP (ak z)=some n):PySem.intText? z=some ((n:Nat):Int)∧z.length≤2:=by
 obtain⟨h1,h2⟩:=lV h
 have key:∀k:Fin 100,PySem.intText? (txt (fc k.val))=some ((k.val:Nat):Int):=by decide+kernel
 have:=key ⟨n,h1⟩
 have e:txt (fc n)=z:=by rw[←h2,fV]
 dsimp only at this
 rw[e] at this
 exact⟨this,by rw[bC,h2];exact qm.1⟩
theorem Np:bh ["text","at","piece"] ["text","at","piece"] (aw sP):=⟨rfl,rfl,rfl,by decide+kernel,rfl,by decide+kernel,by decide+kernel⟩
theorem sk {a:dG} {x:gk} (T:Txt K mg a) (TE:TX K mg x):a_ P w K mg base (b_ P w) 3 a.lR a.kA ["text","at","piece"] (sX x.c4):=by
 refine T.PB.oj Np (fun vs H Q E h=>?_) (fun cdv A outer s H vs Q E hr h=>?_)
 ·obtain⟨z,p,k,v,rfl,_⟩:=h
  rfl
 ·obtain⟨z,p,k,v,rfl,hp,hp1,pl,kq,ke⟩:=h
  have qt:aU 2 _:=hr
  refine⟨_,(aj (bH (o4 (df (dm PySem.F.plainAttrs_str PySem.F.slot_str_startswith PySem.F.type_str_startswith gf (pv 0) (ae (pv 2) (ae (pv 1) af))) (fun _=>rfl)))
   (aD (uJ hr.hd TE.x4 ky (qY TE.x4 TE.M4 (uU TE) qt (by rfl) TE.m4 TE.b4)))
   bg)
  (aD (aR (av cA (pv 1) (bq (bP K) (by rfl) T.dv cO (ae (pv 2) af)))))),?_⟩
  refine⟨_,rfl,rfl,_,rfl,_,rfl,z,p,_,rfl,rfl,_,rfl,?_⟩
  rw[wO hp,show z.cps.toList.drop k=v from pl.2]
  cases e:(p.cps.toList).isPrefixOf v with
  | true=>
   have ed:cb (ak p) v=some (v.drop (ak p).length):=if_pos e
   refine aY ⟨_,rfl,_,rfl,_,p.length,rfl,⟨Nat.le_trans hp1 (by decide),rfl⟩,_,_,rfl,rfl,?_⟩
   have hk:=kq _ ed (k+p.length) H (Same.refl _) (by rw[bC];exact pl.due ed)
   rw[Int.natCast_add] at hk
   exact hk
  | false=>
   have ed:cb (ak p) v=none:=if_neg (by show ¬((p.cps.toList).isPrefixOf v=true);rw[e];decide)
   exact bE (gm TE (ke ed))
theorem u6:bh ["text","at","signs"] ["text","at","signs"] (aw iU):=⟨rfl,rfl,rfl,by decide+kernel,rfl,by decide+kernel,by decide+kernel⟩
theorem lZ {a:dG} (T:Txt K mg a):a_ P w K mg base dq 1 a.om a.p9 ["text","at","signs"] Ij:=by
 refine T.Ff.ok u6 (fun vs H Q E h=>?_) (fun cdv A outer s H vs Q E hr h=>?_)
 ·obtain⟨z,y,k,v,p,rfl,_⟩:=h
  rfl
 ·obtain⟨z,y,k,v,p,rfl,hz,pl,hp,kq⟩:=h
  refine⟨_,(aj (mn PassesOwn.never (PW.pt (jd (aP sG (pv 1) (bq (bP K) (by rfl) T.dv cO (ae (pv 0) af)) (aW _)) (jG (aP wc (aO mr (pv 0) (pv 1) (fun _ _=>rfl)) (pv 2) (by with_unfolding_all rfl)))))
   (aD (aH (i:=1) u6.nd rfl (Or.inl rfl) (av cA (pv 1) ai))))
  (aD (aR (pv 1)))),?_⟩
  have zl:z.length≤sizeLine:=Nat.le_trans hz (by decide)
  refine sN (fun m σ H'=>∃(j:Nat) (u:List Nat),σ=[some (.str z),some (.int (j:Nat)),some (.str y)]∧Same H H'∧Pl z j u∧m=u.length∧j+(u.takeWhile p).length=k+(v.takeWhile p).length)
   ⟨v.length,k,v,rfl,Same.refl _,pl,rfl,rfl⟩ ?_ ?_
  ·rintro m σ H1 N hN ⟨j,u,rfl,s1,pu,rfl,ej⟩
   refine⟨_,rfl,_,rfl,_,z.length,rfl,⟨zl,rfl⟩,_,_,rfl,rfl,_,rfl,?_⟩
   have RN:u.length=z.length-j:=by rw[←pu.2,List.length_drop,←bC]
   cases u with
   | nil=>
    have:¬((j:Int)<(z.length:Int)):=by simp at RN;omega
    rw[decide_eq_false this]
    refine aY (aY ⟨_,rfl,?_⟩)
    have hk:=kq _ s1
    rw[←ej] at hk
    exact hk
   | cons c r=>
    have hj:j<z.length:=by simp at RN;omega
    rw[decide_eq_true (show(j:Int)<(z.length:Int) by omega)]
    have ec:(ak z)[j]? =some c:=by
     have:((ak z).drop j)[0]? =some c:=by rw[pu.2];rfl
     rw[List.getElem?_drop] at this
     exact this
    refine bE ⟨_,rfl,_,rfl,z,_,c,rfl,rfl,zl,aB (j:=j) ec,_,rfl,⟨#[c]⟩,y,rfl,rfl,_,rfl,?_⟩
    rw[vC,hp c]
    cases hc:p c with
    | true=>
     refine bE ⟨_,rfl,_,_,rfl,rfl,hN _ _ r.length (Nat.lt_succ_self _) ⟨j+1,r,rfl,s1,⟨by omega,?_⟩,rfl,?_⟩⟩
     ·rw[←List.drop_drop,pu.2];rfl
     ·rw[List.takeWhile_cons,hc,if_pos rfl,List.length_cons] at ej;omega
    | false=>
     refine aY ⟨_,rfl,?_⟩
     have hk:=kq _ s1
     rw[←ej,List.takeWhile_cons,hc] at hk
     exact hk
  ·rintro σ H1 Q1 Q2 hm ⟨a1,e1,a2,e2,a3,n,e3,h3,i,j,e4,e5,b,e6,q⟩
   refine⟨a1,e1,a2,e2,a3,n,e3,h3,i,j,e4,e5,b,e6,?_⟩
   by_cases hb:b=true
   ·rw[if_pos hb] at q ⊢
    obtain⟨b1,f1,b2,f2,b3,b4,b5,f3,f4,f5,f6,b7,f7,b8,b9,f8,f9,b10,Cr,q⟩:=q
    exact⟨b1,f1,b2,f2,b3,b4,b5,f3,f4,f5,f6,b7,f7,b8,b9,f8,f9,b10,Cr,hm _ _ q⟩
   ·rw[if_neg hb] at q ⊢
    exact hm _ _ q
theorem zU:bh ["some"] ["some"] (aw gF):=⟨rfl,rfl,rfl,by decide+kernel,rfl,by decide+kernel,by decide+kernel⟩
theorem zW {a:dG} (T:Txt K mg a):a_ P w K mg base dq 2 a.j_ a.mI ["some"] Ik:=by
 have m_:=qJ (P:=P) (w:=w) (base:=base) T
 obtain⟨tFI,Nn⟩:=T.wV
 refine T.AN.ok zU (fun vs H Q E h=>?_) (fun cdv A outer s H vs Q E hr h=>?_)
 ·obtain⟨z,rfl,_⟩:=h
  rfl
 ·obtain⟨z,rfl,ha,kq⟩:=h
  have lu:aU 1 _:=hr
  refine⟨_,(aj (bH (o4 (df (aE m_ lu rfl T.rq T.rA T.rB .nil aT (ae (pv 0) (ae (dM (v:=.str "0123456789") (by rfl) Nn ⟨_,rfl⟩) af))) (fun _=>rfl)))
   (aD (aR jb))
   bg)
  (aD (aR (O7 (iT cL (bq (bP K) (by rfl) T.dv cO (ae (pv 0) af)) ai (aW _)) (yf (Ef (iT cL (bq (bP K) (by rfl) T.dv cO (ae (pv 0) af)) ai (aW _)) (yf (iT og (aO mr (pv 0) ai (fun _ _=>rfl)) ah (aW _))))))))),?_⟩
  have zl:z.length≤sizeLine:=Nat.le_trans ha.2 (by decide)
  refine⟨_,rfl,z,_,rfl,ha,fun H1 s1=>⟨_,rfl,?_⟩⟩
  have kq:=kq H1 s1
  rw[Im]
  cases hm:(ak z).all cP with
  | false=>
   refine bE ?_
   have:(dP (ak z)).isSome=false:=by
    cases e:dP (ak z) with
    | none=>rfl
    | some n=>
     obtain⟨h1,h2⟩:=lV e
     rw[h2,List.all_eq_true.mpr (uc h1)] at hm
     cases hm
   rw[this] at kq
   exact kq
  | true=>
   refine aY ⟨_,rfl,_,z.length,rfl,⟨zl,rfl⟩,rfl,_,rfl,?_⟩
   by_cases h1:z.length=1
   ·rw[dI (show((z.length:Nat):Int)=1 by omega)]
    refine bE ?_
    obtain⟨c,rfl⟩:=one_sign h1
    have hc:cP c=true:=List.all_eq_true.mp hm c (by simp[ak])
    rw[show dP (ak ⟨#[c]⟩)=some (c-48) from if_pos hc] at kq
    exact kq
   rw[EO (show ¬((z.length:Nat):Int)=1 by omega)]
   refine aY ⟨_,rfl,_,z.length,rfl,⟨zl,rfl⟩,rfl,_,rfl,?_⟩
   by_cases h2:z.length=2
   ·rw[dI (show((z.length:Nat):Int)=2 by omega)]
    obtain⟨c,d,e⟩:∃c d,ak z=[c,d]:=by
     have:(ak z).length=2:=by rw[←bC];exact h2
     match e:ak z,this with
     | [c,d],_=>exact⟨c,d,rfl⟩
    rw[e] at hm kq
    have hc:cP c=true:=List.all_eq_true.mp hm c (by simp)
    have hd:cP d=true:=List.all_eq_true.mp hm d (by simp)
    refine bE ⟨_,rfl,z,0,c,rfl,rfl,zl,?_,rfl,?_⟩
    ·exact aB (j:=0) (show(ak z)[0]? =some c by rw[e];rfl)
    have e0:Str.ofString "0"=⟨#[48]⟩:=by decide+kernel
    have key:(dP [c,d]).isSome= !decide (V.str ⟨#[c]⟩=V.str (Str.ofString "0")):=by
     unfold dP
     dsimp only
     by_cases h0:c=48
     ·rw[if_neg (fun q=>q.2.2 h0),e0,h0];rfl
     ·rw[if_pos ⟨hc,hd,h0⟩,decide_eq_false (fun q=>h0 (by
       rw[e0] at q
       have:=congrArg (fun x:Str=>x.cps.toList) (V.str.inj q)
       simpa using this))];rfl
    rw[key] at kq
    exact kq
   ·rw[EO (show ¬((z.length:Nat):Int)=2 by omega)]
    refine aY ?_
    have:dP (ak z)=none:=by
     unfold dP
     split
     ·rename_i c e;exact absurd (by rw[bC,e];rfl) h1
     ·rename_i c d e;exact absurd (by rw[bC,e];rfl) h2
     ·rfl
    rw[this] at kq
    exact kq
theorem zX:bh ["some"] ["some"] (aw gG):=⟨rfl,rfl,rfl,by decide+kernel,rfl,by decide+kernel,by decide+kernel⟩
theorem zY {a:dG} {x:gk} (T:Txt K mg a) (TE:TX K mg x):a_ P w K mg base (b_ P w) 4 a.iC a.jj ["some"] (FQ K x.c4):=by
 have gM:a_ P w K mg base (b_ P w) 3 a.fN a.fS ["some","signs"] (uV x.c4):=mZ T TE
 obtain⟨tSM,FR⟩:=T.B5
 refine T.AV.oj zX (fun vs H Q E h=>?_) (fun cdv A outer s H vs Q E hr h=>?_)
 ·obtain⟨z,rfl,_⟩:=h
  rfl
 ·obtain⟨z,rfl,ha,kq,ke⟩:=h
  have fY:aU 3 _:=hr
  refine⟨_,(aj (bH (aP (pB K) (cT eY (pv 0) fQ (cx ai)) (br (ae ah (ae ah (ae ah (ae ah (ae ah (ae ah (ae ah (ae ah af))))))))) (by with_unfolding_all rfl))
   (aD (aR (br (ae (aE gM fY rfl T.j7 T.j8 T.j9 .nil bw (ae (cT eY (pv 0) (cx ai) fQ) (ae (dM (v:=.str "abcdefghijklmnopqrstuvwxyz") (by rfl) FR ⟨_,rfl⟩) af))) (ae (dU q_ (by rfl) T.sQ pA (ae (aO mr (pv 0) ai (fun _ _=>rfl)) af)) af)))))
   bg)
  (aD (aR (br (ae (aE gM fY rfl T.j7 T.j8 T.j9 .nil bw (ae (pv 0) (ae (dM (v:=.str "abcdefghijklmnopqrstuvwxyz") (by rfl) FR ⟨_,rfl⟩) af))) (ae ai af)))))),?_⟩
  have zl:z.length≤sizeLine:=Nat.le_trans ha.2 (by decide)
  refine⟨_,rfl,_,rfl,z,rfl,zl,by show 8≤sizeLine;decide,fun W hW=>⟨W,_,rfl,.inr (.of ag),rfl,rfl,_,rfl,?_⟩⟩
  have sW:=Same.new (o:=.tup [.str "2",.str "3",.str "4",.str "5",.str "6",.str "7",.str "8",.str "9"]) hW
  generalize hH1:upd H W _=H1 at sW ⊢
  have e1:Txt.slice z none (some 1)=txt ((ak z).take 1):=by
   refine cI ?_
   rw[gD]
   show _=ak (txt _)
   rw[aN]
   unfold p8
   rw[HT.pV,show(some (1:Int))=some ((1:Nat):Int) from rfl,HT.ia,List.drop_zero,Nat.sub_zero]
   show(ak z).take (min 1 (ak z).length)=_
   rw[←List.take_take,List.take_of_length_le (Nat.le_refl (ak z).length)]
  have e2:Txt.slice z (some 1) none=txt ((ak z).drop 1):=by
   refine cI ?_
   rw[gD]
   show _=ak (txt _)
   rw[aN]
   unfold p8
   rw[HT.pV,show(some (1:Int))=some ((1:Nat):Int) from rfl,HT.ia]
   show((ak z).drop (min 1 (ak z).length)).take _=_
   by_cases hl:1≤(ak z).length
   ·rw[Nat.min_eq_left hl,List.take_of_length_le (by rw[List.length_drop];exact Nat.le_refl _)]
   ·have:ak z=[]:=List.length_eq_zero_iff.mp (by omega)
    rw[this];simp
  rw[e1,show inV (V.str (txt ((ak z).take 1))) [V.str "2",V.str "3",V.str "4",V.str "5",V.str "6",V.str "7",V.str "8",V.str "9"]=decide (txt ((ak z).take 1)∈(["2","3","4","5","6","7","8","9"]:List Str)) from mV _ ["2","3","4","5","6","7","8","9"]]
  have nums:(["2","3","4","5","6","7","8","9"]:List Str)=(List.range 8).map fun k=>txt [50+k]:=by decide+kernel
  have mem:∀u:List Nat,(txt u∈(["2","3","4","5","6","7","8","9"]:List Str))↔∃c,u=[c]∧50≤c∧c≤57:=fun u=>by
   rw[nums]
   constructor
   ·intro h
    obtain⟨k,hk,e⟩:=List.mem_map.mp h
    have hk:=List.mem_range.mp hk
    have:=congrArg ak e
    rw[aN,aN] at this
    exact⟨50+k,this.symm,by omega,by omega⟩
   ·rintro⟨c,rfl,h1,h2⟩
    exact List.mem_map.mpr ⟨c-50,List.mem_range.mpr (by omega),by rw[show 50+(c-50)=c by omega]⟩
  by_cases hd:∃c r,ak z=c::r∧50≤c∧c≤57
  ·obtain⟨c,r,ez,h1,h2⟩:=hd
   have eP:dA z=if nameB au (txt r)=true then some (txt r,((c-48:Nat):Int)) else none:=by unfold dA;rw[ez];exact if_pos ⟨h1,h2⟩
   rw[decide_eq_true ((mem _).mpr ⟨c,by rw[ez];rfl,h1,h2⟩)]
   have ar:kC (txt r):=by
    refine⟨fun d hd=>ha.1 d ?_,?_⟩
    ·have hd:d∈ak (txt r):=hd
     rw[aN] at hd
     show d∈ak z
     rw[ez];exact List.mem_cons_of_mem _ hd
    ·have:=ha.2;rw[bC,ez,List.length_cons] at this;rw[cJ];omega
   have hdc:cP c=true:=dO.mpr (by omega)
   refine bE ⟨_,rfl,_,rfl,z,rfl,zl,?_⟩
   rw[e2,ez]
   refine⟨txt r,au,rfl,ar,fun hn H2 s2=>⟨_,rfl,z,0,c,rfl,rfl,zl,aB (j:=0) (show(ak z)[0]? =some c by rw[ez];rfl),⟨#[c]⟩,_,rfl,Cb hdc,by show 1≤640;decide,by show 2≤sizeLine;decide,fun q hq=>?_⟩,fun hn=>(ke (by rw[eP];exact if_neg (by rw[hn];decide))).same sW⟩
   exact kq _ (by rw[eP];exact if_pos hn) q _ ((sW.trans s2).trans (Same.new hq)) ag
  ·have eP:dA z=if nameB au z=true then some (z,1) else none:=by
    unfold dA
    split
    ·rename_i c r ez
     exact if_neg (fun q=>hd ⟨c,r,ez,q⟩)
    ·rename_i ez
     rw[show z=txt [] by rw[←ez,fV],xa];rfl
   rw[decide_eq_false (fun q=>by
    obtain⟨c,hc,h1,h2⟩:=(mem _).mp q
    cases ez:ak z with
    | nil=>rw[ez] at hc;cases hc
    | cons d r=>
     rw[ez] at hc
     have:d=c:=(List.cons.inj hc).1
     exact hd ⟨c,r,by rw[ez,this],h1,h2⟩)]
   refine aY ⟨_,rfl,z,au,rfl,ha,fun hn H2 s2=>⟨by show 2≤sizeLine;decide,fun q hq=>?_⟩,fun hn=>(ke (by rw[eP];exact if_neg (by rw[hn];decide))).same sW⟩
   exact kq _ (by rw[eP];exact if_pos hn) q _ ((sW.trans s2).trans (Same.new hq)) ag
def jw (z:Str):Prop:=kC z∧∀k,(((ak z).drop k).takeWhile cK).length≤55
def Cs (K:PySem.W.Frag) (c4:Addr):Sp:=fun vs H Q E=>∃z:Str,vs=[.str z]∧kC z∧z.length≤55∧(∀t,di z=some t→∀y H',Same H H'→aA K H' y t.dt→Q y H')∧(di z=none→Rz c4 H E)
def ur (K:PySem.W.Frag) (c4:Addr):Sp:=fun vs H Q E=>∃(z:Str) (k:Nat) (v:List Nat),vs=[.str z,.int k]∧jw z∧Pl z k v∧
 (∀t r,fj v=some (t,r)→∀p y (e:Nat) H',Same H H'→H' p=some (.tup [y,.int e])→aA K H' y t.dt→Pl z e r→Q (.ref p) H')∧(fj v=none→Rz c4 H E)
def Ct (K:PySem.W.Frag) (c4:Addr):Sp:=fun vs H Q E=>∃(z:Str) (k:Nat) (v:List Nat),vs=[.str z,.int k]∧jw z∧Pl z k v∧
 (∀a t r,gU v=some (a,t,r)→∀p y (e:Nat) H',Same H H'→H' p=some (.tup [.str a,y,.int e])→aA K H' y t.dt→Pl z e r→Q (.ref p) H')∧(gU v=none→Rz c4 H E)
theorem Tz (z:Str):Txt.split z (Str.ofString "+")=spl 43 z:=by unfold spl;rw[show Str.ofString "+"=⟨#[43]⟩ by decide+kernel]
def DS (H:Hp) (q:Addr) (p:Str×Int):Prop:=H q=some (.tup [.str p.1,.int p.2])
theorem zZ {K:PySem.W.Frag} {H:Hp}:∀{qs:List Addr} {ps:List (Str×Int)},Paired (DS H) qs ps→aL K H (qs.map V.ref) (ps.map fU)
 | _,_,.nil=>by simp[aL]
 | _,_,.cons h t=>by
  rw[List.map_cons,List.map_cons,aL]
  exact⟨cy (.of h) (aF bJ (aF mf bB)),zZ t⟩
theorem K3 {l:List Str} (h:l≠[]):(l.map V.str)[(l.map V.str).length-1]? =some (.str (l.getLastD (txt [])))∧ku (l.map V.str) (-1)=some (.str (l.getLastD (txt []))):=by
 have e:l=l.dropLast++[l.getLastD (txt [])]:=qo h
 generalize l.getLastD (txt [])=y at e ⊢
 rw[e,List.map_append]
 exact⟨by simp,GG _ _⟩
theorem K4 (z:Str):(∀t∈(cq z).2,t∈spl 43 z)∧(cq z).2.length≤(spl 43 z).length:=by
 unfold cq
 split
 ·split
  ·exact⟨fun t ht=>(List.dropLast_sublist _).subset ht,by show(spl 43 z).dropLast.length≤_;rw[List.length_dropLast];omega⟩
  ·exact⟨fun t ht=>ht,Nat.le_refl _⟩
 ·exact⟨fun t ht=>ht,Nat.le_refl _⟩
theorem fZ:bh ["some","pieces","number","parts","names"] ["some"] (aw eO):=⟨rfl,rfl,rfl,by decide+kernel,rfl,by decide+kernel,by decide+kernel⟩
theorem z_ {a:dG} {x:gk} (T:Txt K mg a) (TE:TX K mg x):a_ P w K mg base (b_ P w) 5 a.iE a.jk ["some"] (Cs K x.c4):=by
 have Bo:a_ P w K mg base (b_ P w) 4 a.iC a.jj ["some"] (FQ K x.c4):=zY T TE
 have Bp:=zW (P:=P) (w:=w) (base:=base) T
 refine T.AZ.oj fZ (fun vs H Q E h=>?_) (fun cdv A outer s H vs Q E hr h=>?_)
 ·obtain⟨z,rfl,_⟩:=h
  rfl
 ·obtain⟨z,rfl,hz,h55,kq,ke⟩:=h
  have Aa:aU 4 _:=hr
  have Ab:aU 2 _:=hr.mono (by decide)
  have qt:aU 2 _:=hr.mono (by decide)
  refine⟨_,(aj (aH (i:=1) fZ.nd rfl (Or.inl rfl) (dm PySem.F.plainAttrs_str PySem.F.slot_str_split PySem.F.type_str_split Hl (pv 0) (ae ah af)))
  (aj (aH (i:=2) fZ.nd rfl (Or.inl rfl) ai)
  (aj (bH (PW.pt (jd (df (aE Bp Ab rfl T.AO T.AQ T.AU .nil aT (ae (aO (bF K) (pv 1) (CJ ym ai) (fun _ _=>rfl)) af)) (fun _=>rfl)) (jG (PW.pt (je (aP cL (pv 0) ah (aW _)) (jc (aP og (aO (bF K) (pv 1) (CJ ym ai) (fun _ _=>rfl)) ah (aW _))))))))
   (aD (aH (i:=2) fZ.nd rfl (Or.inl rfl) (dU q_ (by rfl) T.sQ pA (ae (qT PySem.F.plainAttrs_list PySem.F.slot_list_pop PySem.F.type_list_pop uA (pv 1)) af))))
   bg)
  (aj (AK (i:=3) (bO.mk' (esc:=aw eO) (N:=["some","pieces","number","parts","names"]) (own:=["piece"]) (bX:=[]) (cS:=[]) rfl rfl (by decide+kernel)) rfl ⟨rfl,rfl⟩ Fb (o5 (pv 1)) (fun _ _ _ _ _=>(cR (i:=0) (show List.Nodup (["piece"]:List Str) by decide+kernel) rfl (Or.inl rfl))) (fun _ _ _ _ _=>gQ) (fun _ _ _ _ _ hx=>(aE Bo Aa rfl T.AW T.AX T.AY .nil hx (ae (pv 0) af))) fZ.nd rfl rfl)
  (aj (p_ (i:=4) (bO.mk' (esc:=aw eO) (N:=["some","pieces","number","parts","names"]) (own:=["part"]) (bX:=[]) (cS:=[]) rfl rfl (by decide+kernel)) rfl (o5 (pv 3)) (fun _ _ _ _=>(cR (i:=0) (show List.Nodup (["part"]:List Str) by decide+kernel) rfl (Or.inl rfl))) (fun _ _ _ _=>gQ) (fun _ _ _ _=>(aO (aS K) (pv 0) ai (fun _ _=>rfl))) fZ.nd rfl rfl)
  (aj (bH (aP (LZ K hr.units) (pv 4) (bq (yN rfl) (by rfl) T.y3 wA (ae (dU (E6 rfl) (by rfl) T.PF LV (ae (pv 4) af)) af)) (aW _))
   (aD (uJ hr.hd TE.x4 ky (qY TE.x4 TE.M4 (uU TE) qt (by rfl) TE.m4 TE.b4)))
   bg)
  (aD (aR (br (ae (pv 2) (ae (dU (tG K) (by rfl) T.B4 yE (ae (pv 3) af)) af))))))))))),?_⟩
  have zl:=hz.2
  refine⟨_,rfl,rfl,z,_,rfl,rfl,by omega,by decide,fun L hL=>?_⟩
  rw[Tz]
  have sL:=Same.new (o:=.lst ((spl 43 z).map V.str)) hL
  have eL:(upd H L (.lst ((spl 43 z).map V.str))) L=some (.lst ((spl 43 z).map V.str)):=ag
  generalize upd H L (.lst ((spl 43 z).map V.str))=H1 at sL eL ⊢
  have many:=HW (c:=43) (z:=z)
  obtain⟨RO,Nq⟩:=K3 (pF 43 z)
  have Nr:kC ((spl 43 z).getLastD (txt [])):=by
   refine hz.part (c:=43) ?_
   rw[List.getLastD_eq_getLast?,List.getLast?_eq_some_getLast (pF 43 z)]
   exact List.getLast_mem _
  dsimp only[c_]
  refine Py fun Y hY=>?_
  dsimp only[pU,tC,c_]
  subst hY
  refine wM (t:=yg _ _ _) (fun σ H'=>σ=[some (.str z),some (.ref L),some (.int (cq z).1),none,none]∧Same H H'∧H' L=some (.lst ((cq z).2.map V.str))) ?re (fun R hR=>?_)
  case re=>
   rintro σ H2 ⟨rfl,s2,u9⟩
   have cm:=K4 z
   have rT:di z=match dk dA (cq z).2 with
    | some ps=>if rising (ps.map (·.1))=true then some ⟨(cq z).1,ps⟩ else none
    | none=>none:=rfl
   generalize cq z=cn at cm rT u9 ⊢
   obtain⟨num,ws⟩:=cn
   dsimp only at cm rT u9 ⊢
   have wl:ws.length≤56:=by have:=cm.2;omega
   refine⟨_,rfl,L,rfl,⟨_,.of u9⟩,fun C hC=>?_⟩
   refine qU (xs:=ws.map V.str) (fun i σ H'=>∃(ps:List (Str×Int)) (rp:List Addr) (v:Option V),σ=[v]∧Same H2 H'∧H' C=some (.lst (rp.map V.ref))∧dk dA (ws.take i)=some ps∧Paired (DS H') rp ps)
    ⟨[],[],none,rfl,Same.new hC,ag,rfl,.nil⟩ (fun i σ H' _ ⟨_,_,_,_,s,_⟩=>.of (s _ _ u9)) ?_ ?_
   ·rintro i y σ H3 hy ⟨ps,rp,v,rfl,s3,eC,en,pr⟩
    obtain⟨t,rfl,et⟩:=vw hy
    have ht:t∈ws:=List.mem_of_getElem? et
    refine⟨_,rfl,t,rfl,hz.part (c:=43) (cm.1 t ht),fun p hn q H4 s4 eq=>?_,fun hn=>(ke ?_).same (s2.trans s3)⟩
    ·have nl:=ub en
     have pl:=p7 pr
     rw[List.length_take] at nl
     have FT:=s4 _ _ eC
     refine⟨_,FT,?_,ps++[p],rp++[q],_,rfl,(s3.trans s4).kbn hC KB.write,?_,?_,?_⟩
     ·rw[List.length_map];exact Nat.lt_of_lt_of_le (show rp.length<200000 by omega) (by decide)
     ·rw[ag,List.map_append];rfl
     ·rw[List.take_add_one,et];exact wX en hn
     ·have kt:eX H3 (upd H4 C (.lst (rp.map V.ref++[.ref q]))):=s4.kt.trans (eX.lst FT)
      exact gx (Paired.qO pr fun _ _ h=>kt _ _ h) (.cons (eX.lst FT _ _ eq) .nil)
    ·rw[rT,rO ht hn]
   rintro σ H3 ⟨ps,rp,v,rfl,s3,eC,en,pr⟩
   rw[List.length_map,List.take_length] at en
   have rT:di z=if rising (ps.map (·.1))=true then some ⟨num,ps⟩ else none:=by rw[rT,en]
   have s3':=s2.trans s3
   have nl:=ub en
   have pl:=p7 pr
   refine⟨_,rfl,C,rfl,⟨_,.of eC⟩,fun N hN=>?_⟩
   refine qU (xs:=rp.map V.ref) (fun i σ H'=>∃v:Option V,σ=[v]∧Same H3 H'∧H' N=some (.lst (((ps.take i).map (·.1)).map V.str)))
    ⟨none,rfl,Same.new hN,ag⟩ (fun i σ H' _ ⟨_,_,s,_⟩=>.of (s _ _ eC)) ?_ ?_
   ·rintro i y σ H4 hy ⟨v,rfl,s4,eN⟩
    obtain⟨ra,rfl,era⟩:=Co hy
    obtain⟨p,ep,e1⟩:=uM pr era
    have hi:=(List.getElem?_eq_some_iff.mp era).1
    refine⟨_,rfl,ra,_,_,.str p.1,rfl,rfl,.of (s4 _ _ e1),aB (j:=0) rfl,_,eN,?_,_,rfl,s4.kbn hN KB.write,?_⟩
    ·rw[List.length_map,List.length_map,List.length_take];exact Nat.lt_of_lt_of_le (show min i ps.length<200000 by omega) (by decide)
    ·rw[ag,List.take_add_one,ep,List.map_append,List.map_append];rfl
   rintro σ H4 ⟨v,rfl,s4,eN⟩
   rw[List.length_map,pl,List.take_length] at eN
   have xj:=s3'.trans s4
   have FT:=s4 _ _ eC
   have pr4:Paired (DS H4) rp ps:=Paired.qO pr fun _ _ h=>s4.kt _ _ h
   refine⟨_,rfl,_,rfl,N,ps.map (·.1),rfl,.of eN,by rw[List.length_map];exact Nat.lt_of_le_of_lt (show ps.length+1≤57 by omega) (by decide),fun S1 ks hS1 nd mk kl=>?_⟩
   rw[List.length_map] at kl
   have sS1:=Same.new (o:=mE P w S1 ks) hS1
   refine⟨S1,ks,rfl,ag,by omega,fun S2 ss hS2 pm so=>?_⟩
   show(GU K true (V.ref N) (V.ref S2) (upd (upd H4 S1 (mE P w S1 ks)) S2 (HO.lst (List.map V.str ss))) _)∧∃d d':Dt,aA K (upd (upd H4 S1 (mE P w S1 ks)) S2 (HO.lst (List.map V.str ss))) (V.ref N) d∧aA K (upd (upd H4 S1 (mE P w S1 ks)) S2 (HO.lst (List.map V.str ss))) (V.ref S2) d'∧((∃ds ds',d=.tup ds∧d'=.tup ds')∨∃ds ds',d=.lst ds∧d'=.lst ds')
   have JK:=sS1.trans (Same.new (o:=.lst (ss.map V.str)) hS2)
   have xk:=JK _ _ eN
   have RP:(upd (upd H4 S1 (mE P w S1 ks)) S2 (.lst (ss.map V.str))) S2=some (.lst (ss.map V.str)):=ag
   have JE:=JK _ _ FT
   have zI:Paired (DS (upd (upd H4 S1 (mE P w S1 ks)) S2 (.lst (ss.map V.str)))) rp ps:=Paired.qO pr4 fun _ _ h=>JK.kt _ _ h
   have s6:=xj.trans JK
   generalize upd (upd H4 S1 (mE P w S1 ks)) S2 (.lst (ss.map V.str))=H6 at xk RP JE zI s6 ⊢
   have D1:aA K H6 (.ref N) (.lst ((ps.map (·.1)).map Dt.str)):=by rw[aA];exact⟨N,_,rfl,.of xk,rP _⟩
   have D2:aA K H6 (.ref S2) (.lst (ss.map Dt.str)):=by rw[aA];exact⟨S2,_,rfl,.of RP,rP _⟩
   refine⟨⟨_,_,D1,D2,rfl,rfl,by rw[Dt.dep,w_];decide,_,rfl,?_⟩,_,_,D1,D2,.inr ⟨_,_,rfl,rfl⟩⟩
   rw[Dt.beq,wZ,DD pm nd mk so]
   cases RQ:rising (ps.map (·.1)) with
   | false=>
    exact bE (gm TE ((ke (by rw[rT];exact if_neg (by rw[RQ];decide))).same s6))
   | true=>
    refine aY ⟨_,rfl,_,rfl,C,_,rfl,.inl ⟨.of JE,fun pa hpa=>⟨by show 2≤sizeLine;decide,fun q hq=>?_⟩⟩⟩
    have s7:=(Same.new (o:=.tup (rp.map V.ref)) hpa).trans (Same.new (o:=.tup [.int num,.ref pa]) hq)
    refine kq ⟨num,ps⟩ (by rw[rT];exact if_pos RQ) _ _ (s6.trans s7) ?_
    exact cy (.of ag) (aF mf (aF (cy (.of ((Same.new hq) _ _ ag)) (zZ (Paired.qO zI fun _ _ h=>s7.kt _ _ h))) bB))
  refine⟨_,rfl,_,rfl,L,_,_,_,rfl,rfl,.of eL,Nq,_,rfl,Nr,fun H2 s2=>⟨_,rfl,?_⟩⟩
  have u9:=s2 _ _ eL
  have s2':=sL.trans s2
  generalize hla:(spl 43 z).getLastD (txt [])=la at RO Nq Nr ⊢
  have oX:cq z=match dP (ak la) with
   | some n=>if z=Str.ofString "0"∨la≠Str.ofString "0" then((n:Int),(spl 43 z).dropLast) else(0,spl 43 z)
   | none=>(0,spl 43 z):=by rw[←hla];rfl
  have stay:cq z=(0,spl 43 z)→R [some (.str z),some (.ref L),some (.int 0),none,none] H2:=fun e=>hR _ _ ⟨by rw[e],s2',by rw[e];exact u9⟩
  cases en:dP (ak la) with
  | none=>
   rw[en] at oX
   exact aY (aY (stay oX))
  | some n=>
   rw[en] at oX
   dsimp only at oX
   obtain⟨ei,el⟩:=K2 en
   have goes:cq z=((n:Int),(spl 43 z).dropLast)→∀D:Ends,D.nx=R→pU (Lw (fun xs H Q=>∃(z:Str) (n:Int),xs=[.str z]∧PySem.intText? z=some n∧z.length≤640∧Q (.int n) H) (jY (LD K "list" LF (qQ 1)) jH)) (c_ 2) D [some (.str z),some (.ref L),some (.int 0),none,none] H2:=fun e D hD=>by
    refine⟨_,rfl,.inl ⟨rfl,_,.of u9⟩,L,_,_,rfl,rfl,u9,RO,la,_,rfl,ei,by omega,?_⟩
    show D.nx _ _
    rw[hD]
    exact hR _ _ ⟨by rw[e];rfl,s2'.kbn hL KB.write,by rw[ag,e,List.map_dropLast]⟩
   refine bE ⟨_,rfl,rfl,_,rfl,?_⟩
   by_cases h0:z=Str.ofString "0"
   ·rw[decide_eq_true (show V.str z=V.str (Str.ofString "0") by rw[h0])]
    rw[if_pos (.inl h0)] at oX
    exact bE (bE (goes oX _ rfl))
   ·rw[decide_eq_false (show ¬V.str z=V.str (Str.ofString "0") from fun q=>h0 (V.str.inj q))]
    refine aY ⟨_,rfl,_,rfl,L,_,_,_,rfl,rfl,.of u9,Nq,rfl,_,rfl,?_⟩
    by_cases h1:la=Str.ofString "0"
    ·rw[decide_eq_true (show V.str la=V.str (Str.ofString "0") by rw[h1])]
     rw[if_neg (fun q=>q.elim h0 fun z=>z h1)] at oX
     exact aY (stay oX)
    ·rw[decide_eq_false (show ¬V.str la=V.str (Str.ofString "0") from fun q=>h1 (V.str.inj q))]
     rw[if_pos (.inr h1)] at oX
     exact bE (goes oX _ rfl)
theorem va:bh ["text","at","end"] ["text","at"] (aw iV):=⟨rfl,rfl,rfl,by decide+kernel,rfl,by decide+kernel,by decide+kernel⟩
theorem vb {a:dG} {x:gk} (T:Txt K mg a) (TE:TX K mg x):a_ P w K mg base (b_ P w) 6 a.iZ a.jl ["text","at"] (ur K x.c4):=by
 have Bq:a_ P w K mg base (b_ P w) 5 a.iE a.jk ["some"] (Cs K x.c4):=z_ T TE
 have gY:=lZ (P:=P) (w:=w) (base:=base) T
 obtain⟨tTS,gTS⟩:=T.y6
 refine T.Fg.oj va (fun vs H Q E h=>?_) (fun cdv A outer s H vs Q E hr h=>?_)
 ·obtain⟨z,k,v,rfl,_⟩:=h
  rfl
 ·obtain⟨z,k,v,rfl,hz,pl,kq,ke⟩:=h
  have Ac:aU 5 _:=hr
  have gp:aU 1 _:=hr.mono (by decide)
  refine⟨_,(aj (aH (i:=2) va.nd rfl (Or.inl rfl) (aE gY gp rfl T.oB T.oE T.oF .nil aT (ae (pv 0) (ae (pv 1) (ae (dM (v:=.str "abcdefghijklmnopqrstuvwxyz0123456789+") (by rfl) gTS ⟨_,rfl⟩) af)))))
  (aD (aR (br (ae (aE Bq Ac rfl T.A_ T.A0 T.A1 .nil bw (ae (cT eY (pv 0) (cx (pv 1)) (cx (pv 2))) af)) (ae (pv 2) af)))))),?_⟩
  have zl:z.length≤sizeLine:=Nat.le_trans hz.1.2 (by decide)
  refine⟨_,rfl,_,rfl,z,JJ,k,v,cK,rfl,hz.1.2,pl,PQ,fun H1 s1=>?_⟩
  refine⟨_,rfl,_,rfl,_,rfl,_,rfl,_,rfl,z,rfl,zl,?_⟩
  rw[pl.Ih cK]
  refine⟨_,rfl,pl.Ii hz.1 cK,by rw[cJ,←pl.2];exact hz.2 k,fun t ht y H2 s2 dy=>⟨_,rfl,by show 2≤sizeLine;decide,fun p hp=>?_⟩,fun hn=>(ke (by unfold fj;rw[hn];rfl)).same s1⟩
  exact kq t _ (by unfold fj;rw[ht];rfl) p y _ _ ((s1.trans s2).trans (Same.new hp)) ag (aJ (Same.new hp).kts _ _ t.bG dy) (pl.run cK)
theorem oI:bh ["text","at","end","name","term"] ["text","at"] (aw jL):=⟨rfl,rfl,rfl,by decide+kernel,rfl,by decide+kernel,by decide+kernel⟩
theorem FU {a:dG} {x:gk} (T:Txt K mg a) (TE:TX K mg x):a_ P w K mg base (b_ P w) 7 a.mJ a.oq ["text","at"] (Ct K x.c4):=by
 have oJ:a_ P w K mg base (b_ P w) 6 a.iZ a.jl ["text","at"] (ur K x.c4):=vb T TE
 have gY:=lZ (P:=P) (w:=w) (base:=base) T
 have gM:a_ P w K mg base (b_ P w) 3 a.fN a.fS ["some","signs"] (uV x.c4):=mZ T TE
 have jx:a_ P w K mg base (b_ P w) 3 a.lR a.kA ["text","at","piece"] (sX x.c4):=sk T TE
 obtain⟨tGR,JL⟩:=T.B6
 refine T.Ho.oj oI (fun vs H Q E h=>?_) (fun cdv A outer s H vs Q E hr h=>?_)
 ·obtain⟨z,k,v,rfl,_⟩:=h
  rfl
 ·obtain⟨z,k,v,rfl,hz,pl,kq,ke⟩:=h
  have ma:aU 6 _:=hr
  have gp:aU 1 _:=hr.mono (by decide)
  have fY:aU 3 _:=hr.mono (by decide)
  have gZ:aU 3 _:=hr.mono (by decide)
  refine⟨_,(aj (aH (i:=2) oI.nd rfl (Or.inl rfl) (aE gY gp rfl T.oB T.oE T.oF .nil aT (ae (pv 0) (ae (pv 1) (ae (dM (v:=.str "ABCDEFGHIJKLMNOPQRSTUVWXYZ") (by rfl) JL ⟨_,rfl⟩) af)))))
  (aj (aH (i:=3) oI.nd rfl (Or.inl rfl) (aE gM fY rfl T.j7 T.j8 T.j9 .nil bw (ae (cT eY (pv 0) (cx (pv 1)) (cx (pv 2))) (ae (dM (v:=.str "ABCDEFGHIJKLMNOPQRSTUVWXYZ") (by rfl) JL ⟨_,rfl⟩) af))))
  (aj (aH (i:=4) oI.nd rfl (Or.inl rfl) (aE oJ ma rfl T.rC T.rD T.rE .nil bw (ae (pv 0) (ae (aE jx gZ rfl T.qi T.qj T.qk .nil bw (ae (pv 0) (ae (pv 2) (ae ah af)))) af))))
  (aD (aR (br (ae (pv 3) (ae (aO (aS K) (pv 4) ai (fun _ _=>rfl)) (ae (aE jx gZ rfl T.qi T.qj T.qk .nil bw (ae (pv 0) (ae (aO (aS K) (pv 4) ai (fun _ _=>rfl)) (ae ah af)))) af))))))))),?_⟩
  have zl:z.length≤sizeLine:=Nat.le_trans hz.1.2 (by decide)
  have RS:ak (Str.ofString "[")=[91]:=by decide+kernel
  have RT:ak (Str.ofString "]")=[93]:=by decide+kernel
  refine⟨_,rfl,_,rfl,z,aG,k,v,bu,rfl,hz.1.2,pl,zT,fun H1 s1=>?_⟩
  refine⟨_,rfl,_,rfl,_,rfl,_,rfl,_,rfl,z,rfl,zl,?_⟩
  rw[pl.Ih bu]
  refine⟨_,aG,rfl,pl.Ii hz.1 bu,fun hn H2 s2=>?_,fun hn=>(ke (if_neg (by rw[hn];decide))).same s1⟩
  have eP:gU v=(cb [91] (v.dropWhile bu)).bind fun v1=>(fj v1).bind fun q=>(cb [93] q.2).bind fun v3=>some (txt (v.takeWhile bu),q.1,v3):=if_pos hn
  have s2':=s1.trans s2
  refine⟨_,rfl,_,rfl,_,rfl,z,Str.ofString "[",_,_,rfl,by decide+kernel,by decide+kernel,pl.run bu,fun r1 h1 e1 H3 s3 oK=>?_,fun h1=>(ke (by rw[RS] at h1;rw[eP,h1];rfl)).same s2'⟩
  rw[RS] at h1
  rw[h1,Option.bind_some] at eP
  have s3':=s2'.trans s3
  refine⟨z,e1,r1,rfl,hz,oK,fun t r2 h2 p y e2 H4 s4 ep dy Nt=>?_,fun h2=>(ke (by rw[eP,h2];rfl)).same s3'⟩
  rw[h2,Option.bind_some] at eP
  have xj:=s3'.trans s4
  refine⟨_,rfl,_,rfl,p,_,_,_,rfl,rfl,.of ep,aB (j:=0) (v:=y) rfl,_,rfl,_,rfl,p,_,_,_,rfl,rfl,.of ep,aB (j:=1) (v:=.int e2) rfl,z,Str.ofString "]",e2,r2,rfl,by decide+kernel,by decide+kernel,Nt,fun r3 h3 e3 H5 s5 tQ=>⟨by show 3≤sizeLine;decide,fun q hq=>?_⟩,fun h3=>(ke (by rw[RT] at h3;rw[eP];dsimp only;rw[h3];rfl)).same xj⟩
  rw[RT] at h3
  have s6:=s5.trans (Same.new (o:=.tup [.str (txt (v.takeWhile bu)),y,.int e3]) hq)
  exact kq _ t r3 (by rw[eP];dsimp only;rw[h3];rfl) q y e3 _ (xj.trans s6) ag (aJ s6.kts _ _ t.bG dy) tQ
def sY (K:PySem.W.Frag) (c4:Addr) (Pf:List Nat→Option (ax×List Nat)):Sp:=fun vs H Q E=>∃(z:Str) (k:Nat) (v:List Nat),vs=[.str z,.int k]∧jw z∧Pl z k v∧
 (∀f r,Pf v=some (f,r)→∀p y (e:Nat) H',Same H H'→H' p=some (.tup [y,.int e])→aA K H' y f.dt→Pl z e r→Q (.ref p) H')∧(Pf v=none→Rz c4 H E)
theorem sr:ak (Str.ofString " < ")=[32,60,32]∧ak (Str.ofString " = ")=[32,61,32]∧ak (Str.ofString " ~ ")=[32,126,32]:=⟨by decide+kernel,by decide+kernel,by decide+kernel⟩
theorem Pl.st {z y:Str} {k:Nat} {v u:List Nat} (pl:Pl z k v) (hy:ak y=u) (hu:u≠[]):Txt.startswith3 z y (k:Int)=u.isPrefixOf v:=by
 rw[wO (by rw[bC,hy];exact fun q=>hu (List.length_eq_zero_iff.mp q)),show z.cps.toList.drop k=v from pl.2,show y.cps.toList=u from hy]
theorem Pl.TB {z:Str} {k:Nat} {v:List Nat} (h:Pl z k v):Txt.slice z (some (k:Int)) (some ((k+1:Nat):Int))=txt (v.take 1):=by
 obtain⟨h1,h2⟩:=h
 have hl:v.length=z.length-k:=by rw[←h2,List.length_drop,←bC]
 refine cI ?_
 rw[gD]
 show _=ak (txt _)
 rw[aN]
 unfold p8
 rw[HT.ia,HT.ia,show z.cps.toList.length=z.length from cU z,Nat.min_eq_left h1]
 show((ak z).drop k).take _=_
 rw[h2]
 by_cases hk:k+1≤z.length
 ·rw[Nat.min_eq_left hk,show k+1-k=1 by omega]
 ·have:v=[]:=List.length_eq_zero_iff.mp (by omega)
  rw[this];simp
theorem kg:bh ["text","at","one","word","other"] ["text","at"] (aw ib):=⟨rfl,rfl,rfl,by decide+kernel,rfl,by decide+kernel,by decide+kernel⟩
theorem Br {a:dG} {x:gk} (T:Txt K mg a) (TE:TX K mg x):a_ P w K mg base (b_ P w) 7 a.jm a.j0 ["text","at"] (sY K x.c4 fW):=by
 have oJ:a_ P w K mg base (b_ P w) 6 a.iZ a.jl ["text","at"] (ur K x.c4):=vb T TE
 have jx:a_ P w K mg base (b_ P w) 3 a.lR a.kA ["text","at","piece"] (sX x.c4):=sk T TE
 refine T.Dj.oj kg (fun vs H Q E h=>?_) (fun cdv A outer s H vs Q E hr h=>?_)
 ·obtain⟨z,k,v,rfl,_⟩:=h
  rfl
 ·obtain⟨z,k,v,rfl,hz,pl,kq,ke⟩:=h
  have ma:aU 6 _:=hr
  have gZ:aU 3 _:=hr.mono (by decide)
  refine⟨_,(aj (aH (i:=2) kg.nd rfl (Or.inl rfl) (aE oJ ma rfl T.rC T.rD T.rE .nil bw (ae (pv 0) (ae (pv 1) af))))
  (aj (aH (i:=3) kg.nd rfl (Or.inl rfl) (pS (df (dm PySem.F.plainAttrs_str PySem.F.slot_str_startswith PySem.F.type_str_startswith gf (pv 0) (ae ah (ae (aO (aS K) (pv 2) ai (fun _ _=>rfl)) af))) (fun _=>rfl)) ah ah))
  (aj (aH (i:=4) kg.nd rfl (Or.inl rfl) (aE oJ ma rfl T.rC T.rD T.rE .nil bw (ae (pv 0) (ae (aE jx gZ rfl T.qi T.qj T.qk .nil bw (ae (pv 0) (ae (aO (aS K) (pv 2) ai (fun _ _=>rfl)) (ae (pS (aP cL (pv 3) ah (aW _)) ah ah) af)))) af))))
  (aD (aR (br (ae (br (ae (pv 3) (ae (aO (aS K) (pv 2) ai (fun _ _=>rfl)) (ae (aO (aS K) (pv 4) ai (fun _ _=>rfl)) af)))) (ae (aO (aS K) (pv 4) ai (fun _ _=>rfl)) af)))))))),?_⟩
  refine⟨_,rfl,_,rfl,z,k,v,rfl,hz,pl,fun t r1 h1 p1 y1 e1 H1 s1 iB vd ve=>?_,fun h1=>ke (by unfold fW;rw[h1];rfl)⟩
  have eP:fW v=if [32,60,32].isPrefixOf r1=true then((cb [32,60,32] r1).bind fun v2=>(fj v2).bind fun q2=>some (ax.less t q2.1,q2.2)) else((cb [32,61,32] r1).bind fun v2=>(fj v2).bind fun q2=>some (ax.same t q2.1,q2.2)):=by unfold fW;rw[h1];rfl
  refine⟨_,rfl,rfl,_,rfl,p1,_,_,_,rfl,rfl,.of iB,aB (j:=1) (v:=.int e1) rfl,z,Str.ofString " < ",e1,rfl,rfl,_,rfl,?_⟩
  rw[ve.st sr.1 (by simp)]
  cases hc:[32,60,32].isPrefixOf r1 with
  | true=>
   rw[hc,if_pos rfl] at eP
   refine bE ?_
   refine⟨_,rfl,_,rfl,_,rfl,p1,_,_,_,rfl,rfl,.of iB,aB (j:=1) (v:=.int e1) rfl,_,rfl,rfl,_,rfl,bE ?_⟩
   refine⟨z,Str.ofString " < ",e1,r1,rfl,by decide+kernel,by decide+kernel,ve,fun r2 h2 e2 H2 s2 kE=>?_,fun h2=>(ke (by rw[sr.1] at h2;rw[eP,h2];rfl)).same s1⟩
   rw[sr.1] at h2
   rw[h2,Option.bind_some] at eP
   have s2':=s1.trans s2
   refine⟨z,e2,r2,rfl,hz,kE,fun u r3 h3 p2 y2 e3 H3 s3 jh FV oK=>?_,fun h3=>(ke (by rw[eP,h3];rfl)).same s2'⟩
   rw[h3,Option.bind_some] at eP
   have tR:=s2.trans s3
   have iB:=tR _ _ iB
   refine⟨_,rfl,_,rfl,p1,_,_,_,rfl,rfl,.of iB,aB (j:=0) (v:=y1) rfl,_,rfl,p2,_,_,_,rfl,rfl,.of jh,aB (j:=0) (v:=y2) rfl,by show 3≤sizeLine;decide,fun q hq=>?_⟩
   have sq:=Same.new (o:=.tup [.str (Str.ofString "less"),y1,y2]) hq
   have jh:=sq _ _ jh
   refine⟨_,rfl,p2,_,_,_,rfl,rfl,.of jh,aB (j:=1) (v:=.int e3) rfl,by show 2≤sizeLine;decide,fun p hp=>?_⟩
   have sp:=Same.new (o:=.tup [.ref q,.int e3]) hp
   refine kq (.less t u) r3 (by rw[eP]) p (.ref q) e3 _ (((s2'.trans s3).trans sq).trans sp) ag ?_ oK
   exact cy (.of (sp _ _ ag)) (aF bJ (aF (aJ ((tR.trans sq).trans sp).kts _ _ t.bG vd) (aF (aJ (sq.trans sp).kts _ _ u.bG FV) bB)))
  | false=>
   rw[hc,if_neg (by decide)] at eP
   refine aY ?_
   refine⟨_,rfl,_,rfl,_,rfl,p1,_,_,_,rfl,rfl,.of iB,aB (j:=1) (v:=.int e1) rfl,_,rfl,rfl,_,rfl,aY ?_⟩
   refine⟨z,Str.ofString " = ",e1,r1,rfl,by decide+kernel,by decide+kernel,ve,fun r2 h2 e2 H2 s2 kE=>?_,fun h2=>(ke (by rw[sr.2.1] at h2;rw[eP,h2];rfl)).same s1⟩
   rw[sr.2.1] at h2
   rw[h2,Option.bind_some] at eP
   have s2':=s1.trans s2
   refine⟨z,e2,r2,rfl,hz,kE,fun u r3 h3 p2 y2 e3 H3 s3 jh FV oK=>?_,fun h3=>(ke (by rw[eP,h3];rfl)).same s2'⟩
   rw[h3,Option.bind_some] at eP
   have tR:=s2.trans s3
   have iB:=tR _ _ iB
   refine⟨_,rfl,_,rfl,p1,_,_,_,rfl,rfl,.of iB,aB (j:=0) (v:=y1) rfl,_,rfl,p2,_,_,_,rfl,rfl,.of jh,aB (j:=0) (v:=y2) rfl,by show 3≤sizeLine;decide,fun q hq=>?_⟩
   have sq:=Same.new (o:=.tup [.str (Str.ofString "same"),y1,y2]) hq
   have jh:=sq _ _ jh
   refine⟨_,rfl,p2,_,_,_,rfl,rfl,.of jh,aB (j:=1) (v:=.int e3) rfl,by show 2≤sizeLine;decide,fun p hp=>?_⟩
   have sp:=Same.new (o:=.tup [.ref q,.int e3]) hp
   refine kq (.same t u) r3 (by rw[eP]) p (.ref q) e3 _ (((s2'.trans s3).trans sq).trans sp) ag ?_ oK
   exact cy (.of (sp _ _ ag)) (aF bJ (aF (aJ ((tR.trans sq).trans sp).kts _ _ t.bG vd) (aF (aJ (sq.trans sp).kts _ _ u.bG FV) bB)))
theorem kh:bh ["text","at","one","place","other"] ["text","at"] (aw ic):=⟨rfl,rfl,rfl,by decide+kernel,rfl,by decide+kernel,by decide+kernel⟩
theorem Bs {a:dG} {x:gk} (T:Txt K mg a) (TE:TX K mg x):a_ P w K mg base (b_ P w) 8 a.jo a.j1 ["text","at"] (sY K x.c4 dW):=by
 have Ad:a_ P w K mg base (b_ P w) 7 a.mJ a.oq ["text","at"] (Ct K x.c4):=FU T TE
 have jx:a_ P w K mg base (b_ P w) 3 a.lR a.kA ["text","at","piece"] (sX x.c4):=sk T TE
 have xP:a_ P w K mg base (b_ P w) 3 a.gA a.ik ["some"] (zp x.c4):=vQ T TE
 refine T.Dn.oj kh (fun vs H Q E h=>?_) (fun cdv A outer s H vs Q E hr h=>?_)
 ·obtain⟨z,k,v,rfl,_⟩:=h
  rfl
 ·obtain⟨z,k,v,rfl,hz,pl,kq,ke⟩:=h
  have xl:aU 7 _:=hr
  have gZ:aU 3 _:=hr.mono (by decide)
  have vR:aU 3 _:=hr.mono (by decide)
  refine⟨_,(aj (aH (i:=2) kh.nd rfl (Or.inl rfl) (aE Ad xl rfl T.yU T.yV T.yW .nil bw (ae (pv 0) (ae (pv 1) af))))
  (aj (bH (df (dm PySem.F.plainAttrs_str PySem.F.slot_str_startswith PySem.F.type_str_startswith gf (pv 0) (ae ah (ae (aO (aS K) (pv 2) ai (fun _ _=>rfl)) af))) (fun _=>rfl))
   (aj (aH (i:=3) kh.nd rfl (Or.inl rfl) (av cA (aO (aS K) (pv 2) ai (fun _ _=>rfl)) ai))
   (aD (aR (br (ae (br (ae ah (ae (aO (aS K) (pv 2) ai (fun _ _=>rfl)) (ae (aO (aS K) (pv 2) ai (fun _ _=>rfl)) (ae (aE xP vR rfl T.xE T.xF T.xG .nil bw (ae (cT eY (pv 0) (cx (pv 3)) (cx (av cA (pv 3) ai))) af)) af))))) (ae (av cA (pv 3) ai) af))))))
   bg)
  (aj (aH (i:=4) kh.nd rfl (Or.inl rfl) (aE Ad xl rfl T.yU T.yV T.yW .nil bw (ae (pv 0) (ae (aE jx gZ rfl T.qi T.qj T.qk .nil bw (ae (pv 0) (ae (aO (aS K) (pv 2) ai (fun _ _=>rfl)) (ae ah af)))) af))))
  (aD (aR (br (ae (br (ae ah (ae (aO (aS K) (pv 2) ai (fun _ _=>rfl)) (ae (aO (aS K) (pv 2) ai (fun _ _=>rfl)) (ae (aO (aS K) (pv 4) ai (fun _ _=>rfl)) (ae (aO (aS K) (pv 4) ai (fun _ _=>rfl)) af)))))) (ae (aO (aS K) (pv 4) ai (fun _ _=>rfl)) af)))))))),?_⟩
  have zl:z.length≤sizeLine:=Nat.le_trans hz.1.2 (by decide)
  refine⟨_,rfl,_,rfl,z,k,v,rfl,hz,pl,fun n t r1 h1 p1 y1 e1 H1 s1 iB vd ve=>?_,fun h1=>ke (by unfold dW;rw[h1];rfl)⟩
  have eP:dW v=if [32,61,32].isPrefixOf r1=true then((k_ (r1.drop 3)).bind fun g=>some (ax.sign n t (g.1:Nat),g.2)) else((cb [32,126,32] r1).bind fun v2=>(gU v2).bind fun q2=>some (ax.alike n t q2.1 q2.2.1,q2.2.2)):=by unfold dW;rw[h1];rfl
  refine⟨_,rfl,rfl,_,rfl,p1,_,_,_,rfl,rfl,.of iB,aB (j:=2) (v:=.int e1) rfl,z,Str.ofString " = ",e1,rfl,rfl,_,rfl,?_⟩
  rw[ve.st sr.2.1 (by simp)]
  cases hc:[32,61,32].isPrefixOf r1 with
  | true=>
   rw[hc,if_pos rfl] at eP
   have oK:Pl z (e1+3) (r1.drop 3):=ve.due (p:=[32,61,32]) (if_pos hc)
   refine bE ⟨_,rfl,p1,_,_,_,rfl,rfl,.of iB,aB (j:=2) (v:=.int e1) rfl,_,_,rfl,rfl,?_⟩
   refine⟨_,rfl,p1,_,_,_,rfl,rfl,.of iB,aB (j:=0) (v:=.str n) rfl,_,rfl,p1,_,_,_,rfl,rfl,.of iB,aB (j:=1) (v:=y1) rfl,_,rfl,_,rfl,_,rfl,_,rfl,_,_,rfl,rfl,_,rfl,z,rfl,zl,?_⟩
   rw[show Txt.slice z (some ((e1:Int)+3)) (some ((e1:Int)+3+1))=txt ((r1.drop 3).take 1) from oK.TB]
   refine⟨_,rfl,?_,fun g hg H2 s2=>⟨by show 4≤sizeLine;decide,fun q hq=>?_⟩,fun hn=>(ke ?_).same s1⟩
   ·rw[cJ];exact Nat.le_trans (List.length_take_le _ _) (by decide)
   ·cases er:r1.drop 3 with
    | nil=>rw[er,Ca (by rw[cJ];decide)] at hg;cases hg
    | cons c r=>
     rw[er,sS (c:=c) rfl] at hg
     have hc:cP c=true:=by
      cases h:cP c with
      | true=>rfl
      | false=>rw[h] at hg;cases hg
     rw[hc,if_pos rfl] at hg
     cases hg
     rw[er] at eP oK
     have ef:k_ (c::r)=some (c-48,r):=if_pos hc
     rw[ef,Option.bind_some] at eP
     have sq:=Same.new (o:=.tup [.str (Str.ofString "sign"),.str n,y1,.int ((c-48:Nat):Int)]) hq
     refine⟨_,rfl,_,_,rfl,rfl,by show 2≤sizeLine;decide,fun p hp=>?_⟩
     have sp:=Same.new (o:=.tup [.ref q,.int (((e1+3+1:Nat)):Int)]) hp
     refine kq (.sign n t ((c-48:Nat):Int)) r (by rw[eP]) p (.ref q) (e1+3+1) _ (((s1.trans s2).trans sq).trans sp) ag ?_ ⟨?_,?_⟩
     ·exact cy (.of (sp _ _ ag)) (aF bJ (aF bJ (aF (aJ ((s2.trans sq).trans sp).kts _ _ t.bG vd) (aF mf bB))))
     ·have hl:(c::r).length=z.length-(e1+3):=by rw[←oK.2,List.length_drop,←bC]
      rw[List.length_cons] at hl
      omega
     ·rw[←List.drop_drop,oK.2];rfl
   ·rw[eP]
    cases er:r1.drop 3 with
    | nil=>rfl
    | cons c r=>
     rw[er,sS (c:=c) rfl] at hn
     cases h:cP c with
     | true=>rw[h] at hn;cases hn
     | false=>
      have ef:k_ (c::r)=none:=if_neg (by rw[h];decide)
      rw[ef];rfl
  | false=>
   rw[hc,if_neg (by decide)] at eP
   refine aY ?_
   refine⟨_,rfl,_,rfl,_,rfl,p1,_,_,_,rfl,rfl,.of iB,aB (j:=2) (v:=.int e1) rfl,z,Str.ofString " ~ ",e1,r1,rfl,by decide+kernel,by decide+kernel,ve,fun r2 h2 e2 H2 s2 kE=>?_,fun h2=>(ke (by rw[sr.2.2] at h2;rw[eP,h2];rfl)).same s1⟩
   rw[sr.2.2] at h2
   rw[h2,Option.bind_some] at eP
   have s2':=s1.trans s2
   refine⟨z,e2,r2,rfl,hz,kE,fun m u r3 h3 p2 y2 e3 H3 s3 jh FV oK=>?_,fun h3=>(ke (by rw[eP,h3];rfl)).same s2'⟩
   rw[h3,Option.bind_some] at eP
   have tR:=s2.trans s3
   have iB:=tR _ _ iB
   refine⟨_,rfl,p1,_,_,_,rfl,rfl,.of iB,aB (j:=0) (v:=.str n) rfl,_,rfl,p1,_,_,_,rfl,rfl,.of iB,aB (j:=1) (v:=y1) rfl,_,rfl,p2,_,_,_,rfl,rfl,.of jh,aB (j:=0) (v:=.str m) rfl,_,rfl,p2,_,_,_,rfl,rfl,.of jh,aB (j:=1) (v:=y2) rfl,by show 5≤sizeLine;decide,fun q hq=>?_⟩
   have sq:=Same.new (o:=.tup [.str (Str.ofString "alike"),.str n,y1,.str m,y2]) hq
   have jh:=sq _ _ jh
   refine⟨_,rfl,p2,_,_,_,rfl,rfl,.of jh,aB (j:=2) (v:=.int e3) rfl,by show 2≤sizeLine;decide,fun p hp=>?_⟩
   have sp:=Same.new (o:=.tup [.ref q,.int e3]) hp
   refine kq (.alike n t m u) r3 (by rw[eP]) p (.ref q) e3 _ (((s2'.trans s3).trans sq).trans sp) ag ?_ oK
   exact cy (.of (sp _ _ ag)) (aF bJ (aF bJ (aF (aJ ((tR.trans sq).trans sp).kts _ _ t.bG vd) (aF bJ (aF (aJ (sq.trans sp).kts _ _ u.bG FV) bB)))))
theorem DT:bh ["text","at"] ["text","at"] (aw iW):=⟨rfl,rfl,rfl,by decide+kernel,rfl,by decide+kernel,by decide+kernel⟩
theorem DU {a:dG} {x:gk} (T:Txt K mg a) (TE:TX K mg x):a_ P w K mg base (b_ P w) 9 a.kB a.lT ["text","at"] (sY K x.c4 eA):=by
 have DV:a_ P w K mg base (b_ P w) 7 a.jm a.j0 ["text","at"] (sY K x.c4 fW):=Br T TE
 have DW:a_ P w K mg base (b_ P w) 8 a.jo a.j1 ["text","at"] (sY K x.c4 dW):=Bs T TE
 have gY:=lZ (P:=P) (w:=w) (base:=base) T
 obtain⟨tGR,JL⟩:=T.B6
 refine T.Fh.oj DT (fun vs H Q E h=>?_) (fun cdv A outer s H vs Q E hr h=>?_)
 ·obtain⟨z,k,v,rfl,_⟩:=h
  rfl
 ·obtain⟨z,k,v,rfl,hz,pl,kq,ke⟩:=h
  have Bt:aU 7 _:=hr.mono (by decide)
  have Bu:aU 8 _:=hr
  have gp:aU 1 _:=hr.mono (by decide)
  refine⟨_,(aj (bH (aP xV (aE gY gp rfl T.oB T.oE T.oF .nil aT (ae (pv 0) (ae (pv 1) (ae (dM (v:=.str "ABCDEFGHIJKLMNOPQRSTUVWXYZ") (by rfl) JL ⟨_,rfl⟩) af)))) (pv 1) (aW _))
   (aD (aR (aE DW Bu rfl T.Dq T.Dr T.Ds .nil bw (ae (pv 0) (ae (pv 1) af)))))
   bg)
  (aD (aR (aE DV Bt rfl T.Dk T.Dl T.Dm .nil bw (ae (pv 0) (ae (pv 1) af)))))),?_⟩
  refine⟨_,rfl,_,rfl,z,aG,k,v,bu,rfl,hz.1.2,pl,zT,fun H1 s1=>⟨_,rfl,_,_,rfl,rfl,_,rfl,?_⟩⟩
  by_cases hg:v.takeWhile bu=[]
  ·have eP:eA v=fW v:=if_pos hg
   rw[decide_eq_false (show ¬((k:Int)<((k+(v.takeWhile bu).length:Nat):Int)) by rw[hg];simp)]
   refine aY ⟨_,rfl,_,rfl,z,k,v,rfl,hz,pl,fun f r h p y e H2 s2=>kq f r (by rw[eP];exact h) p y e H2 (s1.trans s2),fun h=>(ke (by rw[eP];exact h)).same s1⟩
  ·have eP:eA v=dW v:=if_neg hg
   have hl:0<(v.takeWhile bu).length:=List.length_pos_iff.mpr hg
   rw[decide_eq_true (show((k:Int)<((k+(v.takeWhile bu).length:Nat):Int)) by omega)]
   refine bE ⟨_,rfl,_,rfl,z,k,v,rfl,hz,pl,fun f r h p y e H2 s2=>kq f r (by rw[eP];exact h) p y e H2 (s1.trans s2),fun h=>(ke (by rw[eP];exact h)).same s1⟩
def hdD:Hd→List Dt
 | .par=>[.str "("]
 | .no=>[.str "not"]
 | .some n=>[.str "some",.str n]
 | .each n=>[.str "each",.str n]
 | .and f=>[.str "and",f.dt]
 | .or f=>[.str "or",f.dt]
theorem Ae (h:Hd):Dt.eG (hdD h)=true:=by cases h<;>simp[hdD,Dt.eG,Dt.bG,ax.bG]
theorem Nu (h:Hd):(hdD h).length≤2:=by cases h<;>simp[hdD]
def su (K:PySem.W.Frag) (H:Hp) (x:V) (h:Hd):Prop:=∃p xs,x=.ref p∧H p=some (.tup xs)∧aL K H xs (hdD h)
theorem su.keep {K:PySem.W.Frag} {H H':Hp} {x:V} {h:Hd} (a:su K H x h) (k:eX H H') (s:fm K H H'):su K H' x h:=by
 obtain⟨p,xs,e,ep,d⟩:=a
 exact⟨p,xs,e,k _ _ ep,cz s _ _ (Ae h) d⟩
def g_ (K:PySem.W.Frag) (H:Hp) (ys:List V) (w:List Hd):Prop:=Paired (su K H) ys w.reverse
theorem g_.keep {K:PySem.W.Frag} {H H':Hp} {ys:List V} {w:List Hd} (a:g_ K H ys w) (k:eX H H') (s:fm K H H'):g_ K H' ys w:=Paired.qO a fun _ _ h=>h.keep k s
theorem g_.push {K:PySem.W.Frag} {H:Hp} {ys:List V} {w:List Hd} {y:V} {h:Hd} (a:g_ K H ys w) (b:su K H y h):g_ K H (ys++[y]) (h::w):=by
 unfold g_
 rw[List.reverse_cons]
 exact gx a (.cons b .nil)
theorem g_.len {K:PySem.W.Frag} {H:Hp} {ys:List V} {w:List Hd} (a:g_ K H ys w):ys.length=w.length:=by
 have:=Paired.length a
 rw[List.length_reverse] at this
 exact this
theorem vf {α β:Type} {F:α→β→Prop}:∀{l:List α} {m:List β} {b:β},Paired F l (m++[b])→∃l' a,l=l'++[a]∧Paired F l' m∧F a b
 | _,[],b,.cons h .nil=>⟨[],_,rfl,.nil,h⟩
 | _,c::m,b,.cons h t=>by
  obtain⟨l',a,rfl,p,q⟩:=vf t
  exact⟨_::l',a,rfl,.cons h p,q⟩
theorem g_.pop {K:PySem.W.Frag} {H:Hp} {ys:List V} {w:List Hd} {h:Hd} (a:g_ K H ys (h::w)):∃ys' y,ys=ys'++[y]∧g_ K H ys' w∧su K H y h:=by
 unfold g_ at a
 rw[List.reverse_cons] at a
 exact vf a
def FW (c W:Addr) (H:Hp) (E:XK):Prop:=∀H' a,KB W H H'→H' a=some (xo false a c none)→E (.ref a) none H'
theorem FW.rz {c W:Addr} {H H':Hp} {E:XK} (h:FW c W H E) (k:KB W H H'):Rz c H' E:=fun H2 a s2 e=>h H2 a (k.trans s2.kb) e
def xm (K:PySem.W.Frag) (c4:Addr):Sp:=fun vs H Q E=>∃(z:Str) (k:Nat) (v:List Nat),vs=[.str z,.int k]∧jw z∧Pl z k v∧(openP v=some none→∀H',Same H H'→Q .non H')∧
 (∀h r,openP v=some (some (h,r))→∀p y (e:Nat) H',Same H H'→H' p=some (.tup [y,.int e])→su K H' y h→Pl z e r→Q (.ref p) H')∧(openP v=none→Rz c4 H E)
def Af (K:PySem.W.Frag) (c4:Addr):Sp:=fun vs H Q E=>∃(z:Str) (k:Nat) (v:List Nat) (W:Addr) (ys:List V) (w:List Hd) (n:Nat) (R:Option (ax×List Nat)),vs=[.str z,.int k,.ref W]∧jw z∧Pl z k v∧H W=some (.lst ys)∧g_ K H ys w∧v.length<n∧w.length+v.length≤200000∧run n v w=R∧
 (∀(e:Nat) v' w' n' ys' H',KB W H H'→H' W=some (.lst ys')→g_ K H' ys' w'→Pl z e v'→v'.length<n'→run n' v' w'=R→openP v'=some none→w'.length+v'.length≤w.length+v.length→v'.length≤v.length→Q (.int e) H')∧(R=none→FW c4 W H E)
def Ag (K:PySem.W.Frag) (c4:Addr):Sp:=fun vs H Q E=>∃(z:Str) (k:Nat) (v:List Nat) (W:Addr) (y:V) (f:ax) (ys:List V) (w:List Hd),vs=[.str z,.int k,.ref W,y]∧jw z∧Pl z k v∧H W=some (.lst ys)∧g_ K H ys w∧w.length≤200000∧aA K H y f.dt∧
 (∀g r w',bp v w f=some (some g,r,w')→∀p y (e:Nat) ys' H',KB W H H'→H' p=some (.tup [y,.int e])→aA K H' y g.dt→Pl z e r→H' W=some (.lst ys')→Q (.ref p) H')∧
 (∀r w',bp v w f=some (none,r,w')→∀p (e:Nat) ys' H',KB W H H'→H' p=some (.tup [.non,.int e])→H' W=some (.lst ys')→g_ K H' ys' w'→Pl z e r→Q (.ref p) H')∧
 (bp v w f=none→FW c4 W H E)
def xp (K:PySem.W.Frag) (c4:Addr):Sp:=fun vs H Q E=>∃z:Str,vs=[.str z]∧jw z∧(∀f,aM z=some f→∀y H',Same H H'→aA K H' y f.dt→Q y H')∧(aM z=none→Rz c4 H E)
theorem qu {p v r:List Nat} (h:cb p v=some r):r.length+p.length=v.length:=by rw[dC h,List.length_append,Nat.add_comm]
theorem FX {v r:List Nat} {h:Hd} (e:openP v=some (some (h,r))):r.length<v.length:=by
 have pre:∀{p:List Nat},p.isPrefixOf v=true→p.length≤v.length:=fun q=>by
  have:=congrArg List.length (bW q)
  rw[List.length_append] at this
  omega
 unfold openP at e
 split at e
 ·rename_i q
  cases e
  have:=pre q
  rw[List.length_drop];simp at this;omega
 split at e
 ·rename_i q
  cases e
  have:=pre q
  rw[List.length_drop];simp at this;omega
 split at e
 ·rename_i q
  have h5:5≤v.length:=by rcases q with q | q<;>exact pre q
  split at e
  ·obtain⟨r',h1,h2⟩:=Option.bind_eq_some_iff.mp e
   have:=qu h1
   have h3:((v.drop 5).dropWhile bD).length≤(v.drop 5).length:=(List.dropWhile_sublist _).length_le
   rw[List.length_drop] at h3
   cases h2
   simp at this
   omega
  ·cases e
 ·cases e
theorem ix:∀{w:List Hd} {v r:List Nat} {f:ax} {w':List Hd},bp v w f=some (none,r,w')→w'.length≤w.length∧r.length≤v.length
 | [],v,r,f,w',h=>by cases h
 | .par::w,v,r,f,w',h=>by
  unfold bp at h
  split at h
  ·cases h;exact⟨Nat.le_refl _,by rw[List.length_drop];omega⟩
  ·obtain⟨r',h1,h2⟩:=Option.bind_eq_some_iff.mp h
   cases h2
   exact⟨Nat.le_refl _,by have:=qu h1;omega⟩
 | .and g::w,v,r,f,w',h=>by
  unfold bp at h
  obtain⟨r',h1,h2⟩:=Option.bind_eq_some_iff.mp h
  have:=ix h2
  have:=qu h1
  rw[List.length_cons];omega
 | .or g::w,v,r,f,w',h=>by
  unfold bp at h
  obtain⟨r',h1,h2⟩:=Option.bind_eq_some_iff.mp h
  have:=ix h2
  have:=qu h1
  rw[List.length_cons];omega
 | .no::w,v,r,f,w',h=>by
  unfold bp at h
  have:=ix h
  rw[List.length_cons];omega
 | .some n::w,v,r,f,w',h=>by
  unfold bp at h
  have:=ix h
  rw[List.length_cons];omega
 | .each n::w,v,r,f,w',h=>by
  unfold bp at h
  have:=ix h
  rw[List.length_cons];omega
theorem lits:ak (Str.ofString "(")=[40]∧ak (Str.ofString "not ")=[110,111,116,32]∧ak (Str.ofString "some ")=[115,111,109,101,32]∧ak (Str.ofString "each ")=[101,97,99,104,32]∧ak (Str.ofString " ")=[32]∧ak (Str.ofString ")")=[41]∧ak (Str.ofString " or ")=[32,111,114,32]:=⟨by decide+kernel,by decide+kernel,by decide+kernel,by decide+kernel,by decide+kernel,by decide+kernel,by decide+kernel⟩
theorem Nv {T:(Bool→Hp→Prop)→Prop} {Qf:Bool→Hp→Prop} {c:Bool} {H:Hp} (h:∀Qc:Bool→Hp→Prop,Qc c H→T Qc) (x:Qf c H):T Qf:=h Qf x
def Nw (K:PySem.W.Frag) (z:Str) (v:List Nat) (o:V) (H:Hp):Prop:=(o=.non∧openP v=some none)∨∃(p:Addr) (y:V) (e:Nat) (h:Hd) (r:List Nat),o=.ref p∧H p=some (.tup [y,.int e])∧su K H y h∧Pl z e r∧openP v=some (some (h,r))
theorem nextOf {D:Ends} {σ:St} {H:Hp} (h:D.nx σ H):IV D σ H:=h
def Io:Option (ax×List Nat)→Option ax
 | some (f,[])=>some f
 | _=>none
theorem Ip {n:Nat} {v r:List Nat} {w:List Hd} {h:Hd} (e:openP v=some (some (h,r))):run (n+1) v w=run n r (h::w):=by
 show(match openP v with | none=>none | some (some (h,v'))=>run n v' (h::w) | some none=>_)=_
 rw[e]
theorem Iq {n:Nat} {v r:List Nat} {w:List Hd} {f:ax} (h:openP v=some none) (h2:eA v=some (f,r)):run (n+1) v w=cont n r w f:=by
 show(match openP v with | none=>none | some (some (h,v'))=>run n v' (h::w) | some none=>_)=_
 rw[h,h2];rfl
theorem FY {n:Nat} {v:List Nat} {w:List Hd} (h:openP v=some none) (h2:eA v=none):run (n+1) v w=none:=by
 show(match openP v with | none=>none | some (some (h,v'))=>run n v' (h::w) | some none=>_)=_
 rw[h,h2]
theorem qK:bh ["text","at","end"] ["text","at"] (aw fR):=⟨rfl,rfl,rfl,by decide+kernel,rfl,by decide+kernel,by decide+kernel⟩
theorem xQ {a:dG} {x:gk} (T:Txt K mg a) (TE:TX K mg x):a_ P w K mg base (b_ P w) 4 a.gR a.iN ["text","at"] (xm K x.c4):=by
 have gY:=lZ (P:=P) (w:=w) (base:=base) T
 have gM:a_ P w K mg base (b_ P w) 3 a.fN a.fS ["some","signs"] (uV x.c4):=mZ T TE
 have jx:a_ P w K mg base (b_ P w) 3 a.lR a.kA ["text","at","piece"] (sX x.c4):=sk T TE
 obtain⟨tSM,FR⟩:=T.B5
 refine T.yX.oj qK (fun vs H Q E h=>?_) (fun cdv A outer s H vs Q E hr h=>?_)
 ·obtain⟨z,k,v,rfl,_⟩:=h
  rfl
 ·obtain⟨z,k,v,rfl,hz,pl,kn,kq,ke⟩:=h
  have gp:aU 1 _:=hr.mono (by decide)
  have fY:aU 3 _:=hr
  have gZ:aU 3 _:=hr
  refine⟨_,(aj (bH (df (dm PySem.F.plainAttrs_str PySem.F.slot_str_startswith PySem.F.type_str_startswith gf (pv 0) (ae ah (ae (pv 1) af))) (fun _=>rfl))
   (aD (aR (br (ae (br (ae ah af)) (ae (av cA (pv 1) ai) af)))))
   bg)
  (aj (bH (df (dm PySem.F.plainAttrs_str PySem.F.slot_str_startswith PySem.F.type_str_startswith gf (pv 0) (ae ah (ae (pv 1) af))) (fun _=>rfl))
   (aD (aR (br (ae (br (ae ah af)) (ae (av cA (pv 1) ai) af)))))
   bg)
  (aj (bH (PW.pt (je (df (dm PySem.F.plainAttrs_str PySem.F.slot_str_startswith PySem.F.type_str_startswith gf (pv 0) (ae ah (ae (pv 1) af))) (fun _=>rfl)) (jc (df (dm PySem.F.plainAttrs_str PySem.F.slot_str_startswith PySem.F.type_str_startswith gf (pv 0) (ae ah (ae (pv 1) af))) (fun _=>rfl)))))
   (aj (aH (i:=2) qK.nd rfl (Or.inl rfl) (aE gY gp rfl T.oB T.oE T.oF .nil aT (ae (pv 0) (ae (av cA (pv 1) ai) (ae (dM (v:=.str "abcdefghijklmnopqrstuvwxyz") (by rfl) FR ⟨_,rfl⟩) af)))))
   (aD (aR (br (ae (br (ae (cT eY (pv 0) (cx (pv 1)) (cx (av cA (pv 1) ai))) (ae (aE gM fY rfl T.j7 T.j8 T.j9 .nil bw (ae (cT eY (pv 0) (cx (av cA (pv 1) ai)) (cx (pv 2))) (ae (dM (v:=.str "abcdefghijklmnopqrstuvwxyz") (by rfl) FR ⟨_,rfl⟩) af))) af))) (ae (aE jx gZ rfl T.qi T.qj T.qk .nil bw (ae (pv 0) (ae (pv 2) (ae ah af)))) af))))))
   bg)
  (aD (aR o_))))),?_⟩
  have zl:z.length≤sizeLine:=Nat.le_trans hz.1.2 (by decide)
  obtain⟨l1,l2,l3,l4,l5,l6,l7⟩:=lits
  refine⟨_,rfl,rfl,_,rfl,z,_,k,rfl,rfl,_,rfl,?_⟩
  rw[pl.st l1 (by simp)]
  cases h1:[40].isPrefixOf v with
  | true=>
   refine bE ⟨by show 1≤sizeLine;decide,fun q hq=>⟨_,rfl,_,_,rfl,rfl,by show 2≤sizeLine;decide,fun p hp=>?_⟩⟩
   have sp:=Same.new (o:=.tup [.ref q,.int ((k+1:Nat):Int)]) hp
   exact kq .par (v.drop 1) (if_pos h1) p (.ref q) (k+1) _ ((Same.new hq).trans sp) ag ⟨q,_,rfl,sp _ _ ag,aF bJ bB⟩ (pl.due (p:=[40]) (if_pos h1))
  | false=>
  refine aY ⟨_,rfl,rfl,_,rfl,z,_,k,rfl,rfl,_,rfl,?_⟩
  have o1:openP v=(if [110,111,116,32].isPrefixOf v=true then some (some (.no,v.drop 4))
   else if [115,111,109,101,32].isPrefixOf v=true∨[101,97,99,104,32].isPrefixOf v=true then
   (if nameB au (txt ((v.drop 5).takeWhile bD))=true then((cb [32] ((v.drop 5).dropWhile bD)).bind fun r=>
   some (some (if [115,111,109,101,32].isPrefixOf v=true then .some (txt ((v.drop 5).takeWhile bD)) else .each (txt ((v.drop 5).takeWhile bD)),r))) else none)
   else some none):=by unfold openP;rw[h1];rfl
  rw[pl.st l2 (by simp)]
  cases h2:[110,111,116,32].isPrefixOf v with
  | true=>
   rw[h2,if_pos rfl] at o1
   refine bE ⟨by show 1≤sizeLine;decide,fun q hq=>⟨_,rfl,_,_,rfl,rfl,by show 2≤sizeLine;decide,fun p hp=>?_⟩⟩
   have sp:=Same.new (o:=.tup [.ref q,.int ((k+4:Nat):Int)]) hp
   exact kq .no (v.drop 4) o1 p (.ref q) (k+4) _ ((Same.new hq).trans sp) ag ⟨q,_,rfl,sp _ _ ag,aF bJ bB⟩ (pl.due (p:=[110,111,116,32]) (if_pos h2))
  | false=>
  rw[h2,if_neg (by decide)] at o1
  refine aY (nextOf ?_)
  dsimp only[tV,yg]
  by_cases hse:[115,111,109,101,32].isPrefixOf v=true∨[101,97,99,104,32].isPrefixOf v=true
  ·rw[if_pos hse] at o1
   refine(Nv (c:=true) (H:=H) (fun Qc hQ=>?_) ?_:Le _ _ _ _ _)
   ·refine⟨_,rfl,rfl,_,rfl,z,_,k,rfl,rfl,_,rfl,?_⟩
    rw[pl.st l3 (by simp)]
    cases h3:[115,111,109,101,32].isPrefixOf v with
    | true=>exact bE hQ
    | false=>
     refine aY ⟨_,rfl,rfl,_,rfl,z,_,k,rfl,rfl,_,rfl,?_⟩
     have h4:[101,97,99,104,32].isPrefixOf v=true:=hse.resolve_left (by rw[h3];decide)
     rw[pl.st l4 (by simp),h4]
     exact hQ
   refine bE ?_
   obtain⟨wd,cw,r0,ew,Nx,Ny⟩:∃(wd:Str) (cw r0:List Nat),v=cw++32::r0∧cw.length=4∧txt cw=wd∧(∀n,hdD (if [115,111,109,101,32].isPrefixOf v=true then .some n else .each n)=[.str wd,.str n]):=by
    cases h3:[115,111,109,101,32].isPrefixOf v with
    | true=>exact⟨"some",[115,111,109,101],v.drop 5,bW h3,rfl,by decide+kernel,fun n=>rfl⟩
    | false=>
     have h4:[101,97,99,104,32].isPrefixOf v=true:=hse.resolve_left (by rw[h3];decide)
     exact⟨"each",[101,97,99,104],v.drop 5,bW h4,rfl,by decide+kernel,fun n=>rfl⟩
   obtain⟨ewt,Ny⟩:=Ny
   have e5:v.drop 5=r0:=by
    rw[ew,show cw++32::r0=(cw++[32])++r0 by simp,List.drop_left' (by simp[Nx])]
   rw[e5] at o1
   have tQ:Pl z (k+5) r0:=by
    have:=pl.due (p:=cw++[32]) (r:=r0) (by rw[ew,show cw++32::r0=(cw++[32])++r0 by simp];exact d_ _ _)
    have h5:(cw++[32]).length=5:=by rw[List.length_append,Nx];rfl
    rw[h5] at this
    exact this
   refine⟨_,rfl,_,rfl,_,_,rfl,rfl,z,au,k+5,r0,bD,rfl,hz.1.2,tQ,Il,fun H1 s1=>?_⟩
   refine⟨_,rfl,_,rfl,_,rfl,_,rfl,_,_,rfl,rfl,_,rfl,z,rfl,zl,?_⟩
   rw[show Txt.slice z (some (k:Int)) (some ((k:Int)+4))=wd from(pl.cut (u:=cw) (e:=k+4) ew (by rw[Nx])).trans ewt]
   refine⟨_,rfl,_,rfl,_,_,rfl,rfl,_,rfl,_,rfl,_,rfl,z,rfl,zl,?_⟩
   rw[show Txt.slice z (some ((k:Int)+5)) (some ((k+5+(r0.takeWhile bD).length:Nat):Int))=txt (r0.takeWhile bD) from tQ.Ih bD]
   refine⟨_,au,rfl,tQ.Ii hz.1 bD,fun hn H2 s2=>⟨by show 2≤sizeLine;decide,fun q hq=>?_⟩,fun hn=>(ke (by rw[o1];exact if_neg (by rw[hn];decide))).same s1⟩
   rw[if_pos hn] at o1
   have sq:=(s1.trans s2).trans (Same.new (o:=.tup [.str wd,.str (txt (r0.takeWhile bD))]) hq)
   refine⟨_,rfl,_,rfl,z,_,_,_,rfl,by decide+kernel,by decide+kernel,tQ.run bD,fun r h e H3 s3 oM=>⟨by show 2≤sizeLine;decide,fun p hp=>?_⟩,fun h=>(ke (by rw[l5] at h;rw[o1,h];rfl)).same sq⟩
   rw[l5] at h
   rw[h,Option.bind_some] at o1
   have sp:=Same.new (o:=.tup [.ref q,.int e]) hp
   exact kq _ r o1 p (.ref q) e _ ((sq.trans s3).trans sp) ag ⟨q,_,rfl,sp _ _ (s3 _ _ ag),by rw[Ny];exact aF bJ (aF bJ bB)⟩ oM
  ·rw[if_neg hse] at o1
   have h3:[115,111,109,101,32].isPrefixOf v=false:=by
    cases h:[115,111,109,101,32].isPrefixOf v with
    | false=>rfl
    | true=>exact absurd (.inl h) hse
   have h4:[101,97,99,104,32].isPrefixOf v=false:=by
    cases h:[101,97,99,104,32].isPrefixOf v with
    | false=>rfl
    | true=>exact absurd (.inr h) hse
   refine(Nv (c:=false) (H:=H) (fun Qc hQ=>?_) ?_:Le _ _ _ _ _)
   ·refine⟨_,rfl,rfl,_,rfl,z,_,k,rfl,rfl,_,rfl,?_⟩
    rw[pl.st l3 (by simp),h3]
    refine aY ⟨_,rfl,rfl,_,rfl,z,_,k,rfl,rfl,_,rfl,?_⟩
    rw[pl.st l4 (by simp),h4]
    exact hQ
   exact aY (kn o1 H (Same.refl _))
theorem oN:bh ["text","at","waiting","opening"] ["text","at","waiting"] (aw jM):=⟨rfl,rfl,rfl,by decide+kernel,rfl,by decide+kernel,by decide+kernel⟩
theorem FZ {a:dG} {x:gk} (T:Txt K mg a) (TE:TX K mg x):a_ P w K mg base (b_ P w) 5 a.mK a.ot ["text","at","waiting"] (Af K x.c4):=by
 have sv:a_ P w K mg base (b_ P w) 4 a.gR a.iN ["text","at"] (xm K x.c4):=xQ T TE
 refine T.Hq.oj oN (fun vs H Q E h=>?_) (fun cdv A outer s H vs Q E hr h=>?_)
 ·obtain⟨z,k,v,W,ys,w,n,R,rfl,_⟩:=h
  rfl
 ·obtain⟨z,k,v,W,ys,w,n,R,rfl,hz,pl,eW,hw,hn,hl,eR,kq,ke⟩:=h
  have qL:aU 4 _:=hr
  refine⟨_,(aj (aH (i:=3) oN.nd rfl (Or.inl rfl) (aE sv qL rfl T.rF T.rG T.rH .nil bw (ae (pv 0) (ae (pv 1) af))))
  (aj (mn PassesOwn.leaving (aP Ko (pv 3) o_ (aW _))
   (aj (dZ (dm PySem.F.plainAttrs_list PySem.F.slot_list_append PySem.F.type_list_append dg (pv 2) (ae (aO (aS K) (pv 3) ai (fun _ _=>rfl)) af)))
   (aj (aH (i:=1) oN.nd rfl (Or.inl rfl) (aO (aS K) (pv 3) ai (fun _ _=>rfl)))
   (aD (aH (i:=3) oN.nd rfl (Or.inl rfl) (aE sv qL rfl T.rF T.rG T.rH .nil bw (ae (pv 0) (ae (pv 1) af))))))))
  (aD (aR (pv 1))))),?_⟩
  have none_of:∀{n:Nat} {v:List Nat} {w:List Hd},run n v w=R→openP v=none→R=none:=fun {n v w} e1 e2=>by
   cases n with
   | zero=>rw[←e1];rfl
   | succ n=>rw[←e1];unfold run;rw[e2]
  refine wM (t:=pU _ _) (fun σ H'=>∃o:V,σ=[some (.str z),some (.int (k:Nat)),some (.ref W),some o]∧Same H H'∧Nw K z v o H') ?re (fun R1 hR=>?_)
  case re=>
   rintro σ H1 ⟨o,rfl,s1,op⟩
   refine sN (fun m σ H'=>∃(k':Nat) (v':List Nat) (w':List Hd) (n':Nat) (ys':List V) (o:V),σ=[some (.str z),some (.int (k':Nat)),some (.ref W),some o]∧KB W H H'∧H' W=some (.lst ys')∧g_ K H' ys' w'∧Pl z k' v'∧v'.length<n'∧run n' v' w'=R∧w'.length+v'.length≤w.length+v.length∧v'.length≤v.length∧m=v'.length∧Nw K z v' o H')
    ⟨v.length,k,v,w,n,ys,o,rfl,s1.kb,s1 _ _ eW,hw.keep s1.kt s1.kts,pl,hn,eR,Nat.le_refl _,Nat.le_refl _,rfl,op⟩ ?_ ?_
   ·rintro m σ H2 N hN ⟨k',v',w',n',ys',o,rfl,k2,i7,hw2,kE,hn2,Ah,hl2,hv2,rfl,op⟩
    refine⟨_,rfl,rfl,_,rfl,?_⟩
    rcases op with⟨rfl,h0⟩ | ⟨p,y,e,h,r,rfl,ep,hy,oM,h0⟩
    ·exact aY ⟨_,rfl,kq k' v' w' n' ys' H2 k2 i7 hw2 kE hn2 Ah h0 hl2 hv2⟩
    ·have hrl:=FX h0
     obtain⟨n1,rfl⟩:∃n1,n'=n1+1:=⟨n'-1,by omega⟩
     have F_:run n1 r (h::w')=R:=(Ip h0).symm.trans Ah
     have wl:=hw2.len
     refine bE ⟨_,rfl,.inl ⟨rfl,_,.of i7⟩,_,rfl,p,_,_,_,rfl,rfl,.of ep,aB (j:=0) (v:=y) rfl,W,ys',y,rfl,rfl,i7,Nat.lt_of_le_of_lt (show ys'.length≤200000 by omega) (by decide),?_⟩
     have kt:=eX.lst (o:=.lst (ys'++[y])) i7
     have ks:fm K H2 (upd H2 W (.lst (ys'++[y]))):=KB.kts i7 KB.write
     have lD:(upd H2 W (.lst (ys'++[y]))) W=some (.lst (ys'++[y])):=ag
     have k3:=k2.trans (KB.write (o:=.lst (ys'++[y])))
     have qM:g_ K (upd H2 W (.lst (ys'++[y]))) (ys'++[y]) (h::w'):=(hw2.keep kt ks).push (hy.keep kt ks)
     have RU:=kt _ _ ep
     generalize upd H2 W (.lst (ys'++[y]))=H3 at lD k3 qM RU ⊢
     refine⟨_,rfl,p,_,_,_,rfl,rfl,.of RU,aB (j:=1) (v:=.int e) rfl,?_⟩
     have step:∀(o:V) H4,Same H3 H4→Nw K z r o H4→N [some (.str z),some (.int (e:Nat)),some (.ref W),some o] H4:=fun o H4 s4 op4=>
      hN _ _ r.length hrl ⟨e,r,h::w',n1,ys'++[y],o,rfl,k3.trans s4.kb,s4 _ _ lD,qM.keep s4.kt s4.kts,oM,by omega,F_,by rw[List.length_cons];omega,by omega,rfl,op4⟩
     refine⟨_,rfl,_,rfl,z,e,r,rfl,hz,oM,fun h1 H4 s4=>step _ _ s4 (.inl ⟨rfl,h1⟩),fun h' r' h1 p' y' e' H4 s4 ep4 hy4 TC=>step _ _ s4 (.inr ⟨p',y',e',h',r',rfl,ep4,hy4,TC,h1⟩),fun h1=>(ke (none_of F_ h1)).rz k3⟩
   ·rintro σ H2 Q1 Q2 hm ⟨a1,e1,e2,b,e3,q⟩
    exact⟨a1,e1,e2,b,e3,hm _ _ q⟩
  refine⟨_,rfl,_,rfl,z,k,v,rfl,hz,pl,fun h1 H1 s1=>hR _ _ ⟨_,rfl,s1,.inl ⟨rfl,h1⟩⟩,fun h r h1 p y e H1 s1 ep hy oM=>hR _ _ ⟨_,rfl,s1,.inr ⟨p,y,e,h,r,rfl,ep,hy,oM,h1⟩⟩,fun h1=>(ke (none_of eR h1)).rz (KB.refl _ _)⟩
theorem kG:bh ["text","at","waiting","saying","head","word"] ["text","at","waiting","saying"] (aw jN):=⟨rfl,rfl,rfl,by decide+kernel,rfl,by decide+kernel,by decide+kernel⟩
theorem F' {a:dG} {x:gk} (T:Txt K mg a) (TE:TX K mg x):a_ P w K mg base (b_ P w) 4 a.mL a.ou ["text","at","waiting","saying"] (Ag K x.c4):=by
 have jx:a_ P w K mg base (b_ P w) 3 a.lR a.kA ["text","at","piece"] (sX x.c4):=sk T TE
 refine T.Hu.oj kG (fun vs H Q E h=>?_) (fun cdv A outer s H vs Q E hr h=>?_)
 ·obtain⟨z,k,v,W,y,f,ys,w,rfl,_⟩:=h
  rfl
 ·obtain⟨z,k,v,W,y,f,ys,w,rfl,hz,pl,eW,hw,hl,hy,kq,kn,ke⟩:=h
  have gZ:aU 3 _:=hr
  refine⟨_,(aj (mn PassesOwn.leaving (df (pv 2) (fun _=>rfl))
   (aj (aH (i:=4) kG.nd rfl (Or.inl rfl) (qT PySem.F.plainAttrs_list PySem.F.slot_list_pop PySem.F.type_list_pop uA (pv 2)))
   (aj (bH (aP cL (aO (aS K) (pv 4) ai (fun _ _=>rfl)) ah (aW _))
    (aj (aH (i:=5) kG.nd rfl (Or.inl rfl) (pS (df (dm PySem.F.plainAttrs_str PySem.F.slot_str_startswith PySem.F.type_str_startswith gf (pv 0) (ae ah (ae (pv 1) af))) (fun _=>rfl)) ah ah))
    (aj (dZ (dm PySem.F.plainAttrs_list PySem.F.slot_list_append PySem.F.type_list_append dg (pv 2) (ae (br (ae (pv 5) (ae (pv 3) af))) af)))
    (aD (aR (br (ae o_ (ae (aE jx gZ rfl T.qi T.qj T.qk .nil bw (ae (pv 0) (ae (pv 1) (ae (vB (uO (rg (pv 5) (uO yR)))) af)))) af)))))))
    bg)
   (aj (bH (aP (pB K) (aO (aS K) (pv 4) ai (fun _ _=>rfl)) (br (ae ah (ae ah af))) (by with_unfolding_all rfl))
    (aD (aH (i:=1) kG.nd rfl (Or.inl rfl) (aE jx gZ rfl T.qi T.qj T.qk .nil bw (ae (pv 0) (ae (pv 1) (ae ah af))))))
    bg)
   (aD (aH (i:=3) kG.nd rfl (Or.inl rfl) (av (KO K) (pv 4) (br (ae (pv 3) af)))))))))
  (aD (aR (br (ae (pv 3) (ae (pv 1) af)))))),?_⟩
  obtain⟨l1,l2,l3,l4,l5,l6,l7⟩:=lits
  refine sN (fun m σ H'=>∃(k':Nat) (v':List Nat) (w':List Hd) (ys':List V) (y':V) (f':ax) (v4 v5:Option V),σ=[some (.str z),some (.int (k':Nat)),some (.ref W),some y',v4,v5]∧KB W H H'∧H' W=some (.lst ys')∧g_ K H' ys' w'∧Pl z k' v'∧w'.length≤200000∧m=w'.length∧aA K H' y' f'.dt∧bp v' w' f'=bp v w f)
   ⟨w.length,k,v,w,ys,y,f,none,none,rfl,KB.refl _ _,eW,hw,pl,hl,rfl,hy,rfl⟩ ?_ ?_
  ·rintro m σ H2 N hN ⟨k',v',w',ys',y',f',v4,v5,rfl,k2,i7,hw2,kE,hl2,rfl,hy2,vg⟩
   refine⟨_,rfl,_,.inl ⟨_,.of i7,rfl⟩,?_⟩
   cases w' with
   | nil=>
    have:ys'=[]:=List.length_eq_zero_iff.mp (by rw[hw2.len];rfl)
    subst this
    refine aY ⟨_,rfl,_,rfl,by show 2≤sizeLine;decide,fun p hp=>?_⟩
    have sp:=Same.new (o:=.tup [y',.int (k':Nat)]) hp
    exact kq f' v' [] vg.symm p y' k' [] _ (k2.trans sp.kb) ag (aJ sp.kts _ _ f'.bG hy2) kE (sp _ _ i7)
   | cons h w'=>
   obtain⟨fG,hd0,rfl,qM,hhd⟩:=hw2.pop
   obtain⟨p,xs,rfl,ep,hd⟩:=hhd
   rw[show(!(fG++[V.ref p]).isEmpty)=true by cases fG<;>rfl]
   refine bE ⟨_,rfl,.inl ⟨rfl,_,.of i7⟩,W,_,.ref p,rfl,rfl,i7,by simp,?_⟩
   rw[List.dropLast_concat]
   have kt:=eX.lst (o:=.lst fG) i7
   have ks:fm K H2 (upd H2 W (.lst fG)):=KB.kts i7 KB.write
   have lD:(upd H2 W (.lst fG)) W=some (.lst fG):=ag
   have k3:=k2.trans (KB.write (o:=.lst fG))
   have qM:=qM.keep kt ks
   have ep:=kt _ _ ep
   have hd:=cz ks _ _ (Ae h) hd
   have JM:=aJ ks _ _ f'.bG hy2
   have yl:=qM.len
   rw[List.length_cons] at hl2
   generalize upd H2 W (.lst fG)=H3 at kt ks lD k3 qM ep hd JM ⊢
   have cat:∀{v5:Option V} {k1:Nat} {v1:List Nat} {H4:Hp} {D:Ends} (g:ax),Same H3 H4→g.dt=.tup (hdD h++[f'.dt])→D.nx=N→Pl z k1 v1→bp v1 w' g=bp v w f→
     pU (BG (Jo K) (qQ 4) (GF (jY (qQ 3) jH))) (c_ 3) D [some (.str z),some (.int (k1:Nat)),some (.ref W),some y',some (.ref p),v5] H4:=fun {v5 k1 v1 H4 D} g s4 eg eN ve ec=>by
    refine⟨_,rfl,_,rfl,by show 1≤sizeLine;decide,fun q hq=>?_⟩
    have sq:=s4.trans (Same.new (o:=.tup [y']) hq)
    refine⟨p,q,xs,[y'],rfl,rfl,sq _ _ ep,ag,?_,fun u H5 s5 eu=>?_⟩
    ·rw[hd.length];have:=Nu h;exact Nat.le_trans (show(hdD h).length+1≤3 by omega) (by decide)
    show D.nx _ _
    rw[eN]
    have Cu:=sq.trans s5
    refine hN _ _ w'.length (by simp) ⟨k1,v1,w',fG,.ref u,g,some (.ref p),v5,rfl,k3.trans Cu.kb,Cu _ _ lD,qM.keep Cu.kt Cu.kts,ve,by omega,rfl,?_,ec⟩
    rw[eg]
    exact cy (.of eu) (p5 (cz Cu.kts _ _ (Ae h) hd) (aF (aJ Cu.kts _ _ f'.bG JM) bB))
   cases h with
   | par=>
    refine⟨_,rfl,p,xs,_,_,rfl,rfl,.of ep,aB (j:=0) (bZ hd (i:=0) rfl),rfl,_,rfl,bE ?_⟩
    refine⟨_,rfl,rfl,_,rfl,z,_,k',rfl,rfl,_,rfl,?_⟩
    rw[kE.st l7 (by simp)]
    cases ho:[32,111,114,32].isPrefixOf v' with
    | true=>
     refine bE ?_
     refine⟨_,rfl,.inl ⟨rfl,_,.of lD⟩,_,rfl,_,rfl,by show 2≤sizeLine;decide,fun q hq=>⟨W,fG,.ref q,rfl,rfl,(Same.new hq) _ _ lD,Nat.lt_of_le_of_lt (show fG.length≤200000 by omega) (by decide),?_⟩⟩
     have sq:=Same.new (o:=.tup [.str (Str.ofString "or"),y']) hq
     have rZ:=sq _ _ lD
     have Ga:=eX.lst (o:=.lst (fG++[.ref q])) rZ
     have Gb:fm K _ (upd (upd H3 q (.tup [.str (Str.ofString "or"),y'])) W (.lst (fG++[.ref q]))):=KB.kts rZ KB.write
     have k4:=(k3.trans sq.kb).trans (KB.write (o:=.lst (fG++[.ref q])))
     have Ai:g_ K (upd (upd H3 q (.tup [.str (Str.ofString "or"),y'])) W (.lst (fG++[.ref q]))) (fG++[.ref q]) (.or f'::w'):=((qM.keep sq.kt sq.kts).keep Ga Gb).push ⟨q,_,rfl,Ga _ _ ag,aF bJ (aF (aJ Gb _ _ f'.bG (aJ sq.kts _ _ f'.bG JM)) bB)⟩
     have mX:(upd (upd H3 q (.tup [.str (Str.ofString "or"),y'])) W (.lst (fG++[.ref q]))) W=some (.lst (fG++[.ref q])):=ag
     generalize upd (upd H3 q (.tup [.str (Str.ofString "or"),y'])) W (.lst (fG++[.ref q]))=H5 at k4 Ai mX ⊢
     have ct:ak (Str.empty++Str.ofString " "++Str.ofString "or"++Str.ofString " ")=[32,111,114,32]:=by decide+kernel
     refine⟨_,rfl,_,rfl,by decide+kernel,_,rfl,.inr ⟨_,rfl,by decide+kernel,by decide+kernel,by decide+kernel,z,_,k',v',rfl,by decide+kernel,by decide+kernel,kE,fun r hr1 e H6 s6 oM=>⟨by show 2≤sizeLine;decide,fun pt hpt=>?_⟩,fun hr1=>(ke ?_).rz k4⟩⟩
     ·rw[ct] at hr1
      have st:=s6.trans (Same.new (o:=.tup [.non,.int e]) hpt)
      refine kn r (.or f'::w') ?_ pt e _ _ (k4.trans st.kb) ag (st _ _ mX) (Ai.keep st.kt st.kts) oM
      rw[←vg]
      unfold bp
      have:r=v'.drop 4:=(Option.some.inj ((if_pos ho:cb [32,111,114,32] v'=some (v'.drop 4)).symm.trans hr1)).symm
      rw[if_pos ho,this]
     ·rw[ct] at hr1
      rw[show cb [32,111,114,32] v'=some (v'.drop 4) from if_pos ho] at hr1
      cases hr1
    | false=>
     refine aY ?_
     refine⟨_,rfl,.inl ⟨rfl,_,.of lD⟩,_,rfl,_,rfl,by show 2≤sizeLine;decide,fun q hq=>⟨W,fG,.ref q,rfl,rfl,(Same.new hq) _ _ lD,Nat.lt_of_le_of_lt (show fG.length≤200000 by omega) (by decide),?_⟩⟩
     have sq:=Same.new (o:=.tup [.str (Str.ofString "and"),y']) hq
     have rZ:=sq _ _ lD
     have Ga:=eX.lst (o:=.lst (fG++[.ref q])) rZ
     have Gb:fm K _ (upd (upd H3 q (.tup [.str (Str.ofString "and"),y'])) W (.lst (fG++[.ref q]))):=KB.kts rZ KB.write
     have k4:=(k3.trans sq.kb).trans (KB.write (o:=.lst (fG++[.ref q])))
     have Ai:g_ K (upd (upd H3 q (.tup [.str (Str.ofString "and"),y'])) W (.lst (fG++[.ref q]))) (fG++[.ref q]) (.and f'::w'):=((qM.keep sq.kt sq.kts).keep Ga Gb).push ⟨q,_,rfl,Ga _ _ ag,aF bJ (aF (aJ Gb _ _ f'.bG (aJ sq.kts _ _ f'.bG JM)) bB)⟩
     have mX:(upd (upd H3 q (.tup [.str (Str.ofString "and"),y'])) W (.lst (fG++[.ref q]))) W=some (.lst (fG++[.ref q])):=ag
     generalize upd (upd H3 q (.tup [.str (Str.ofString "and"),y'])) W (.lst (fG++[.ref q]))=H5 at k4 Ai mX ⊢
     have ct:ak (Str.empty++Str.ofString " "++Str.ofString "and"++Str.ofString " ")=[32,97,110,100,32]:=by decide+kernel
     refine⟨_,rfl,_,rfl,by decide+kernel,_,rfl,.inr ⟨_,rfl,by decide+kernel,by decide+kernel,by decide+kernel,z,_,k',v',rfl,by decide+kernel,by decide+kernel,kE,fun r hr1 e H6 s6 oM=>⟨by show 2≤sizeLine;decide,fun pt hpt=>?_⟩,fun hr1=>(ke ?_).rz k4⟩⟩
     ·rw[ct] at hr1
      have st:=s6.trans (Same.new (o:=.tup [.non,.int e]) hpt)
      refine kn r (.and f'::w') ?_ pt e _ _ (k4.trans st.kb) ag (st _ _ mX) (Ai.keep st.kt st.kts) oM
      rw[←vg]
      unfold bp
      rw[if_neg (by rw[ho];decide),hr1];rfl
     ·rw[ct] at hr1
      rw[←vg]
      unfold bp
      rw[if_neg (by rw[ho];decide),hr1];rfl
   | no=>
    have pJ:bp v' w' (.no f')=bp v w f:=vg
    refine⟨_,rfl,p,xs,_,_,rfl,rfl,.of ep,aB (j:=0) (bZ hd (i:=0) rfl),rfl,_,rfl,aY ?_⟩
    refine⟨_,rfl,p,xs,_,_,rfl,rfl,.of ep,aB (j:=0) (bZ hd (i:=0) rfl),by show 2≤sizeLine;decide,fun t1 ht1=>⟨t1,_,rfl,.inr (.of ag),rfl,rfl,_,rfl,aY ?_⟩⟩
    have st:=Same.new (o:=.tup [.str (Str.ofString "and"),.str (Str.ofString "or")]) ht1
    refine cat (.no f') st rfl rfl kE pJ
   | some n=>
    have pJ:bp v' w' (.some n f')=bp v w f:=vg
    refine⟨_,rfl,p,xs,_,_,rfl,rfl,.of ep,aB (j:=0) (bZ hd (i:=0) rfl),rfl,_,rfl,aY ?_⟩
    refine⟨_,rfl,p,xs,_,_,rfl,rfl,.of ep,aB (j:=0) (bZ hd (i:=0) rfl),by show 2≤sizeLine;decide,fun t1 ht1=>⟨t1,_,rfl,.inr (.of ag),rfl,rfl,_,rfl,aY ?_⟩⟩
    have st:=Same.new (o:=.tup [.str (Str.ofString "and"),.str (Str.ofString "or")]) ht1
    refine cat (.some n f') st rfl rfl kE pJ
   | each n=>
    have pJ:bp v' w' (.each n f')=bp v w f:=vg
    refine⟨_,rfl,p,xs,_,_,rfl,rfl,.of ep,aB (j:=0) (bZ hd (i:=0) rfl),rfl,_,rfl,aY ?_⟩
    refine⟨_,rfl,p,xs,_,_,rfl,rfl,.of ep,aB (j:=0) (bZ hd (i:=0) rfl),by show 2≤sizeLine;decide,fun t1 ht1=>⟨t1,_,rfl,.inr (.of ag),rfl,rfl,_,rfl,aY ?_⟩⟩
    have st:=Same.new (o:=.tup [.str (Str.ofString "and"),.str (Str.ofString "or")]) ht1
    refine cat (.each n f') st rfl rfl kE pJ
   | and g=>
    have pJ:bp v w f=(cb [41] v').bind fun r=>bp r w' (.and g f'):=vg.symm
    refine⟨_,rfl,p,xs,_,_,rfl,rfl,.of ep,aB (j:=0) (bZ hd (i:=0) rfl),rfl,_,rfl,aY ?_⟩
    refine⟨_,rfl,p,xs,_,_,rfl,rfl,.of ep,aB (j:=0) (bZ hd (i:=0) rfl),by show 2≤sizeLine;decide,fun t1 ht1=>⟨t1,_,rfl,.inr (.of ag),rfl,rfl,_,rfl,bE ?_⟩⟩
    have st:=Same.new (o:=.tup [.str (Str.ofString "and"),.str (Str.ofString "or")]) ht1
    refine⟨_,rfl,_,rfl,z,_,k',v',rfl,by decide+kernel,by decide+kernel,kE,fun r hr1 e H5 s5 oM=>?_,fun hr1=>(ke (by rw[l6] at hr1;rw[pJ,hr1];rfl)).rz (k3.trans st.kb)⟩
    rw[l6] at hr1
    rw[hr1,Option.bind_some] at pJ
    exact cat (.and g f') (st.trans s5) rfl rfl oM pJ.symm
   | or g=>
    have pJ:bp v w f=(cb [41] v').bind fun r=>bp r w' (.or g f'):=vg.symm
    refine⟨_,rfl,p,xs,_,_,rfl,rfl,.of ep,aB (j:=0) (bZ hd (i:=0) rfl),rfl,_,rfl,aY ?_⟩
    refine⟨_,rfl,p,xs,_,_,rfl,rfl,.of ep,aB (j:=0) (bZ hd (i:=0) rfl),by show 2≤sizeLine;decide,fun t1 ht1=>⟨t1,_,rfl,.inr (.of ag),rfl,rfl,_,rfl,bE ?_⟩⟩
    have st:=Same.new (o:=.tup [.str (Str.ofString "and"),.str (Str.ofString "or")]) ht1
    refine⟨_,rfl,_,rfl,z,_,k',v',rfl,by decide+kernel,by decide+kernel,kE,fun r hr1 e H5 s5 oM=>?_,fun hr1=>(ke (by rw[l6] at hr1;rw[pJ,hr1];rfl)).rz (k3.trans st.kb)⟩
    rw[l6] at hr1
    rw[hr1,Option.bind_some] at pJ
    exact cat (.or g f') (st.trans s5) rfl rfl oM pJ.symm
  ·rintro σ H2 Q1 Q2 hm ⟨a1,e1,b,e2,q⟩
   exact⟨a1,e1,b,e2,hm _ _ q⟩
theorem f_:bh ["text","waiting","told","atom"] ["text"] (aw fA):=⟨rfl,rfl,rfl,by decide+kernel,rfl,by decide+kernel,by decide+kernel⟩
theorem vS {a:dG} {x:gk} (T:Txt K mg a) (TE:TX K mg x):a_ P w K mg base (b_ P w) 10 a.gB a.il ["text"] (xp K x.c4):=by
 have Ge:a_ P w K mg base (b_ P w) 9 a.kB a.lT ["text","at"] (sY K x.c4 eA):=DU T TE
 have Ir:a_ P w K mg base (b_ P w) 5 a.mK a.ot ["text","at","waiting"] (Af K x.c4):=FZ T TE
 have Iu:a_ P w K mg base (b_ P w) 4 a.mL a.ou ["text","at","waiting","saying"] (Ag K x.c4):=F' T TE
 refine T.xH.oj f_ (fun vs H Q E h=>?_) (fun cdv A outer s H vs Q E hr h=>?_)
 ·obtain⟨z,rfl,_⟩:=h
  rfl
 ·obtain⟨z,rfl,hz,kq,ke⟩:=h
  have DX:aU 9 _:=hr
  have Gf:aU 5 _:=hr.mono (by decide)
  have Gg:aU 4 _:=hr.mono (by decide)
  have qt:aU 2 _:=hr.mono (by decide)
  refine⟨_,(aj (aH (i:=1) f_.nd rfl (Or.inl rfl) (bN af))
  (aj (aH (i:=2) f_.nd rfl (Or.inl rfl) (br (ae o_ (ae ai af))))
  (aj (mn PassesOwn.leaving (aP Lo (aO (aS K) (pv 2) ai (fun _ _=>rfl)) o_ (aW _))
   (aj (aH (i:=3) f_.nd rfl (Or.inl rfl) (aE Ge DX rfl T.Fi T.Fj T.Fl .nil bw (ae (pv 0) (ae (aE Ir Gf rfl T.Hr T.Hs T.Ht .nil bw (ae (pv 0) (ae (aO (aS K) (pv 2) ai (fun _ _=>rfl)) (ae (pv 1) af)))) af))))
   (aD (aH (i:=2) f_.nd rfl (Or.inl rfl) (aE Iu Gg rfl T.Hv T.k_closed T.Hw .nil bw (ae (pv 0) (ae (aO (aS K) (pv 3) ai (fun _ _=>rfl)) (ae (pv 1) (ae (aO (aS K) (pv 3) ai (fun _ _=>rfl)) af)))))))))
  (aj (bH (aP og (aO (aS K) (pv 2) ai (fun _ _=>rfl)) (bq (bP K) (by rfl) T.dv cO (ae (pv 0) af)) (aW _))
   (aD (uJ hr.hd TE.x4 ky (qY TE.x4 TE.M4 (uU TE) qt (by rfl) TE.m4 TE.b4)))
   bg)
  (aD (aR (aO (aS K) (pv 2) ai (fun _ _=>rfl)))))))),?_⟩
  have zl:z.length≤sizeLine:=Nat.le_trans hz.1.2 (by decide)
  refine⟨by decide,fun W hW=>⟨by show 2≤sizeLine;decide,fun p0 hp0=>?_⟩⟩
  have sW:=Same.new (o:=.lst []) hW
  have eW:(upd H W (.lst [])) W=some (.lst []):=ag
  generalize upd H W (.lst [])=H0 at sW eW hp0 ⊢
  have s0:=Same.new (o:=.tup [.non,.int 0]) hp0
  have e0:(upd H0 p0 (.tup [.non,.int 0])) p0=some (.tup [.non,.int 0]):=ag
  generalize upd H0 p0 (.tup [.non,.int 0])=H1 at s0 e0 ⊢
  obtain⟨R,eR⟩:∃R,run ((ak z).length+1) (ak z) []=R:=⟨_,rfl⟩
  have Nz:aM z=Io R:=by rw[←eR];unfold aM Io;rfl
  have rn:R=none→∀H',Same H H'→FW x.c4 W H' E:=fun e H' s' H2 a k2 ea=>ke (by rw[Nz,e];rfl) H2 a (s'.kbn hW k2) ea
  have lz:=bC z
  refine sN (fun m σ H'=>∃(pt:Addr) (o:V) (e:Nat) (v3:Option V) (ys:List V),σ=[some (.str z),some (.ref W),some (.ref pt),v3]∧Same H H'∧H' W=some (.lst ys)∧H' pt=some (.tup [o,.int e])∧
    ((∃v w n,o=.non∧g_ K H' ys w∧Pl z e v∧v.length<n∧run n v w=R∧w.length+v.length≤100000∧m=v.length+1)∨∃g r,aA K H' o g.dt∧Pl z e r∧R=some (g,r)∧m=0))
   ⟨(ak z).length+1,p0,.non,0,none,[],rfl,sW.trans s0,s0 _ _ eW,e0,.inl ⟨ak z,[],_,rfl,.nil,⟨Nat.zero_le _,rfl⟩,Nat.lt_succ_self _,eR,by have:=hz.1.2;rw[List.length_nil,←lz];omega,rfl⟩⟩ ?_ ?_
  ·rintro m σ H2 N hN ⟨pt,o,e,v3,ys,rfl,s2,i7,JN,st⟩
   refine⟨_,rfl,pt,_,_,_,rfl,rfl,.of JN,aB (j:=0) (v:=o) rfl,rfl,_,rfl,?_⟩
   rcases st with⟨v,w,n,rfl,hw,pl,hn,Ah,hl,rfl⟩ | ⟨g,r,hg,pl,Ah,rfl⟩
   ·refine bE ⟨_,rfl,_,rfl,_,rfl,pt,_,_,_,rfl,rfl,.of JN,aB (j:=1) (v:=.int e) rfl,_,rfl,z,e,v,W,ys,w,n,R,rfl,hz,pl,i7,hw,hn,by omega,Ah,fun e1 v1 w1 n1 ys1 H3 k3 lD qM oK hn3 F_ ho hl3 hv3=>?_,fun e=>rn e H2 s2⟩
    obtain⟨n2,rfl⟩:∃n2,n1=n2+1:=⟨n1-1,by omega⟩
    have s3:=s2.kbn hW k3
    refine⟨z,e1,v1,rfl,hz,oK,fun f v2 h1 pa ya e2 H4 s4 RV dya Nt=>?_,fun h1=>(rn (F_.symm.trans (FY ho h1)) H3 s3).rz (KB.refl _ _)⟩
    have JO:=F_.symm.trans (Iq ho h1)
    unfold cont at JO
    have v2l:v2.length<v1.length:=by
     obtain⟨_,ev⟩:=tO h1
     have h3:=fg f
     have h4:1≤f.nodes:=by cases f<;>simp[ax.nodes]
     rw[ev,List.length_append];omega
    have xj:=s3.trans s4
    have rZ:=s4 _ _ lD
    have Ai:=qM.keep s4.kt s4.kts
    refine⟨_,rfl,_,rfl,pa,_,_,_,rfl,rfl,.of RV,aB (j:=1) (v:=.int e2) rfl,_,rfl,_,rfl,pa,_,_,_,rfl,rfl,.of RV,aB (j:=0) (v:=ya) rfl,z,e2,v2,W,ya,f,ys1,w1,rfl,hz,Nt,rZ,Ai,by omega,dya,fun g r w' h2 p y e3 ys2 H5 k5 ep dy tQ mX=>?_,fun r w' h2 p e3 ys2 H5 k5 ep mX hw5 tQ=>?_,fun h2=>rn (by rw[JO,h2]) H4 xj⟩
    ·exact hN _ _ 0 (Nat.succ_pos _) ⟨p,y,e3,_,ys2,rfl,xj.kbn hW k5,mX,ep,.inr ⟨g,r,dy,tQ,by rw[JO,h2],rfl⟩⟩
    ·have cl:=ix h2
     exact hN _ _ (r.length+1) (by omega) ⟨p,.non,e3,_,ys2,rfl,xj.kbn hW k5,mX,ep,.inl ⟨r,w',n2,rfl,hw5,tQ,by omega,by rw[JO,h2],by omega,rfl⟩⟩
   ·obtain⟨q,xs,rfl,_⟩:∃q xs,o=.ref q∧cp K H2 q xs:=by
     cases g<;>(obtain⟨q,xs,e,h,_⟩:=dQ hg;exact⟨q,xs,e,h⟩)
    refine aY ⟨_,rfl,pt,_,_,_,rfl,rfl,.of JN,aB (j:=1) (v:=.int e) rfl,_,rfl,_,z.length,rfl,⟨zl,rfl⟩,rfl,_,rfl,?_⟩
    have lr:r.length=z.length-e:=by rw[←pl.2,List.length_drop,←lz]
    by_cases he:e=z.length
    ·rw[dI (show((e:Nat):Int)=((z.length:Nat):Int) by rw[he])]
     have:r=[]:=List.length_eq_zero_iff.mp (by omega)
     subst this
     exact aY ⟨_,rfl,pt,_,_,_,rfl,rfl,.of JN,aB (j:=0) (v:=.ref q) rfl,kq g (by rw[Nz,Ah];rfl) _ _ s2 hg⟩
    ·rw[EO (show ¬((e:Nat):Int)=((z.length:Nat):Int) by omega)]
     refine bE (gm TE ((ke ?_).same s2))
     rw[Nz,Ah]
     cases r with
     | nil=>have:=pl.1;simp at lr;omega
     | cons c r=>rfl
  ·rintro σ H2 Q1 Q2 hm ⟨a1,e1,a2,a3,a4,a5,e2,e3,e4,e5,e6,b,e7,q⟩
   exact⟨a1,e1,a2,a3,a4,a5,e2,e3,e4,e5,e6,b,e7,hm _ _ q⟩
def Rn (n:Nat) (l:List Nat):Prop:=∀k,((l.drop k).takeWhile cK).length≤n
theorem Cv {p:Nat→Bool} {c:Nat} {b:List Nat} (hc:p c=false):∀x:List Nat,(x++c::b).takeWhile p=x.takeWhile p
 | []=>by rw[List.nil_append,List.takeWhile_cons,hc];rfl
 | d::x=>by rw[List.cons_append,List.takeWhile_cons,List.takeWhile_cons,Cv hc x]
theorem dX {n c:Nat} {a b:List Nat} (ha:Rn n a) (hc:cK c=false) (hb:Rn n b):Rn n (a++c::b):=fun k=>by
 by_cases hk:k≤a.length
 ·rw[List.drop_append_of_le_length hk,Cv hc];exact ha k
 ·rw[List.drop_append,List.drop_of_length_le (by omega),List.nil_append,show k-a.length=(k-a.length-1)+1 by omega,List.drop_succ_cons]
  exact hb _
theorem cE {n:Nat} {l:List Nat} (h:l.length≤n):Rn n l:=fun k=>Nat.le_trans (List.takeWhile_sublist _).length_le (Nat.le_trans (by rw[List.length_drop];omega) h)
theorem pK {n c:Nat} {b:List Nat} (hc:cK c=false) (hb:Rn n b):Rn n (c::b):=dX (a:=[]) (cE (Nat.zero_le _)) hc hb
theorem DY {a:Str} {t:Term} {b:List Nat} (ha:nameB aG a=true) (ft:eB t) (hb:Rn 25 b):Rn 25 (atT a t++b):=by
 have e:atT a t++b=ak a++91::(aX t++93::b):=by simp[atT]
 rw[e]
 exact dX (cE (by rw[←bC];have:=(cg ha).2.1;omega)) (by decide) (dX (cE (by have:=(gW ft).1;omega)) (by decide) hb)
theorem Cw:∀{f:ax} {b:List Nat},f.gV→(b=[]∨∃c r,b=c::r∧cK c=false∧Rn 25 r)→Rn 25 (aq f++b):=by
 have tl:∀{t:Term} {b:List Nat},eB t→(b=[]∨∃c r,b=c::r∧cK c=false∧Rn 25 r)→Rn 25 (aX t++b):=fun {t b} ft hb=>by
  have lt:=(gW ft).1
  rcases hb with rfl | ⟨c,r,rfl,hc,hr⟩
  ·rw[List.append_nil];exact cE (by omega)
  ·exact dX (cE (by omega)) hc hr
 have rb:∀{b:List Nat},(b=[]∨∃c r,b=c::r∧cK c=false∧Rn 25 r)→Rn 25 b:=fun {b} hb=>by
  rcases hb with rfl | ⟨c,r,rfl,hc,hr⟩
  ·exact cE (Nat.zero_le _)
  ·exact pK hc hr
 intro f
 induction f with
 | same t u=>
  intro b h hb
  have e:aq (.same t u)++b=aX t++32::([61]++32::(aX u++b)):=by simp[aq]
  rw[e]
  exact tl h.1 (.inr ⟨_,_,rfl,by decide,dX (cE (by decide)) (by decide) (tl h.2 hb)⟩)
 | less t u=>
  intro b h hb
  have e:aq (.less t u)++b=aX t++32::([60]++32::(aX u++b)):=by simp[aq]
  rw[e]
  exact tl h.1 (.inr ⟨_,_,rfl,by decide,dX (cE (by decide)) (by decide) (tl h.2 hb)⟩)
 | sign a t s=>
  intro b h hb
  have e:aq (.sign a t s)++b=atT a t++(32::([61]++32::([48+s.toNat]++b))):=by simp[aq]
  rw[e]
  refine DY h.1 h.2.1 (pK (by decide) (dX (cE (by decide)) (by decide) ?_))
  rcases hb with rfl | ⟨c,r,rfl,hc,hr⟩
  ·rw[List.append_nil];exact cE (by simp)
  ·exact dX (cE (by simp)) hc hr
 | alike a t a2 u=>
  intro b h hb
  have e:aq (.alike a t a2 u)++b=atT a t++(32::([126]++32::(atT a2 u++b))):=by simp[aq]
  rw[e]
  exact DY h.1 h.2.1 (pK (by decide) (dX (cE (by decide)) (by decide) (DY h.2.2.1 h.2.2.2 (rb hb))))
 | no g ih=>
  intro b h hb
  have e:aq (.no g)++b=[110,111,116]++32::(aq g++b):=by simp[aq]
  rw[e]
  exact dX (cE (by decide)) (by decide) (ih h hb)
 | and g k ih1 ih2=>
  intro b h hb
  have e:aq (.and g k)++b=40::(aq g++32::([97,110,100]++32::(aq k++41::b))):=by simp[aq]
  rw[e]
  exact pK (by decide) (ih1 h.1 (.inr ⟨_,_,rfl,by decide,dX (cE (by decide)) (by decide) (ih2 h.2 (.inr ⟨_,_,rfl,by decide,rb hb⟩))⟩))
 | or g k ih1 ih2=>
  intro b h hb
  have e:aq (.or g k)++b=40::(aq g++32::([111,114]++32::(aq k++41::b))):=by simp[aq]
  rw[e]
  exact pK (by decide) (ih1 h.1 (.inr ⟨_,_,rfl,by decide,dX (cE (by decide)) (by decide) (ih2 h.2 (.inr ⟨_,_,rfl,by decide,rb hb⟩))⟩))
 | some n g ih=>
  intro b h hb
  have e:aq (.some n g)++b=[115,111,109,101]++32::(ak n++32::(aq g++b)):=by simp[aq]
  rw[e]
  exact dX (cE (by decide)) (by decide) (dX (cE (by rw[←bC];have:=(bR h.1).2.1;omega)) (by decide) (ih h.2 hb))
 | each n g ih=>
  intro b h hb
  have e:aq (.each n g)++b=[101,97,99,104]++32::(ak n++32::(aq g++b)):=by simp[aq]
  rw[e]
  exact dX (cE (by decide)) (by decide) (dX (cE (by rw[←bC];have:=(bR h.1).2.1;omega)) (by decide) (ih h.2 hb))
theorem m5 {t:Term} (ok:bT t):∀c∈aX t,c<128:=fun c hc=>by have:=i6.mp (jU ok c hc);omega
theorem Aj {a:Str} {t:Term} (ha:nameB aG a=true) (ok:bT t):∀c∈atT a t,c<128:=fun c hc=>by
 simp only[atT,List.mem_append,List.mem_cons,List.not_mem_nil,or_false] at hc
 rcases hc with h | h | h | h
 ·have:=(cg ha).2.2 c h;omega
 ·omega
 ·exact m5 ok c h
 ·omega
theorem hG:∀{f:ax},f.Ok→∀c∈aq f,c<128
 | .same t u,h,c,hc=>by
  simp only[aq,List.mem_append,List.mem_cons,List.not_mem_nil,or_false] at hc
  rcases hc with q | q | q
  ·exact m5 h.1 c q
  ·omega
  ·exact m5 h.2 c q
 | .less t u,h,c,hc=>by
  simp only[aq,List.mem_append,List.mem_cons,List.not_mem_nil,or_false] at hc
  rcases hc with q | q | q
  ·exact m5 h.1 c q
  ·omega
  ·exact m5 h.2 c q
 | .sign a t s,h,c,hc=>by
  obtain⟨h1,h2,h3,h4⟩:=h
  simp only[aq,List.mem_append,List.mem_cons,List.not_mem_nil,or_false] at hc
  rcases hc with q | q | q
  ·exact Aj h1 h2 c q
  ·omega
  ·omega
 | .alike a t a2 u,h,c,hc=>by
  simp only[aq,List.mem_append,List.mem_cons,List.not_mem_nil,or_false] at hc
  rcases hc with q | q | q
  ·exact Aj h.1 h.2.1 c q
  ·omega
  ·exact Aj h.2.2.1 h.2.2.2 c q
 | .no g,h,c,hc=>by
  simp only[aq,List.mem_append,List.mem_cons,List.not_mem_nil,or_false] at hc
  rcases hc with q | q
  ·omega
  ·exact hG (f:=g) h c q
 | .and g k,h,c,hc=>by
  simp only[aq,List.mem_append,List.mem_cons,List.not_mem_nil,or_false] at hc
  rcases hc with q | q | q | q | q
  ·omega
  ·exact hG h.1 c q
  ·omega
  ·exact hG h.2 c q
  ·omega
 | .or g k,h,c,hc=>by
  simp only[aq,List.mem_append,List.mem_cons,List.not_mem_nil,or_false] at hc
  rcases hc with q | q | q | q | q
  ·omega
  ·exact hG h.1 c q
  ·omega
  ·exact hG h.2 c q
  ·omega
 | .some n g,h,c,hc=>by
  simp only[aq,List.mem_append,List.mem_cons,List.not_mem_nil,or_false] at hc
  rcases hc with q | q | q | q
  ·omega
  ·have:=dc.mp ((bR h.1).2.2.1 c q);omega
  ·omega
  ·exact hG h.2 c q
 | .each n g,h,c,hc=>by
  simp only[aq,List.mem_append,List.mem_cons,List.not_mem_nil,or_false] at hc
  rcases hc with q | q | q | q
  ·omega
  ·have:=dc.mp ((bR h.1).2.2.1 c q);omega
  ·omega
  ·exact hG h.2 c q
theorem Iv {f:ax} {z:Str} (fit:f.gV) (e:ak z=aq f) (l:(aq f).length≤100000):jw z:=by
 refine⟨⟨fun c hc=>hG fit.ok c (by rw[←e];exact hc),by rw[bC,e];exact l⟩,?_⟩
 rw[e]
 have:=Cw (b:=[]) fit (.inl rfl)
 rw[List.append_nil] at this
 exact fun k=>Nat.le_trans (this k) (by decide)
theorem Ak (l:Array Nat):∀(k:Nat) (acc:Array Nat),((List.replicate k l).foldl (· ++ ·) acc).toList=acc.toList++(List.replicate k l.toList).flatten
 | 0,acc=>by simp
 | k+1,acc=>by
  rw[List.replicate_succ,List.foldl_cons,Ak l k]
  simp[List.replicate_succ]
theorem Gh (z:Str) (n:Nat) (hz:z.length≠0):ak (Txt.mul z (n:Int))=(List.replicate n (ak z)).flatten:=by
 unfold ak Txt.mul
 by_cases h1:(n:Int)<1
 ·rw[if_pos h1]
  have e:n=0:=by omega
  rw[e];rfl
 ·rw[if_neg h1]
  by_cases h2:n=1
  ·subst h2;simp
  ·have e:((n:Int) == 1||z.length == 0)=false:=by
    have a1:((n:Int) == 1)=false:=by simp;omega
    have a2:(z.length == 0)=false:=by simpa using hz
    rw[a1,a2];rfl
   rw[e,if_neg Bool.false_ne_true]
   show((List.replicate (n:Int).toNat z.cps).foldl (· ++ ·) #[]).toList=_
   rw[Ak];simp
theorem iy:eB ⟨0,[]⟩:=⟨⟨⟨by decide,by decide⟩,by decide+kernel,fun p h=>(nomatch h)⟩,Nat.zero_le _⟩
theorem aK:aX ⟨0,[]⟩=[48]:=by decide+kernel
def hdT:Hd→List Nat
 | .par=>[40]
 | .no=>[110,111,116,32]
 | .some n=>[115,111,109,101,32]++(ak n++[32])
 | .each n=>[101,97,99,104,32]++(ak n++[32])
 | .and f=>40::(aq f++[32,97,110,100,32])
 | .or f=>40::(aq f++[32,111,114,32])
def DZ:Hd→Prop
 | .some n=>nameB au n=true
 | .each n=>nameB au n=true
 | .and f=>f.Ok
 | .or f=>f.Ok
 | _=>True
def eJ:List Hd→List Nat
 | []=>[]
 | h::w=>eJ w++hdT h
theorem fh:∀{w:List Hd} {v r:List Nat} {f:ax} {o:Option ax} {w':List Hd},bp v w f=some (o,r,w')→f.Ok→(∀h∈w,DZ h)→
  (∀g,o=some g→g.Ok∧eJ w++(aq f++v)=aq g++r)∧(o=none→eJ w++(aq f++v)=eJ w'++r∧∀h∈w',DZ h)
 | [],v,r,f,o,w',h,ok,hw=>by
  cases h
  exact⟨fun g e=>by cases e;exact⟨ok,rfl⟩,fun e=>by cases e⟩
 | .par::w,v,r,f,o,w',h,ok,hw=>by
  unfold bp at h
  split at h
  ·rename_i hp
   cases h
   refine⟨fun g e=>(by cases e),fun _=>⟨?_,fun h' hh=>?_⟩⟩
   ·have:=bW hp
    conv=>lhs;rw[this]
    simp[eJ,hdT]
   ·rcases List.mem_cons.mp hh with rfl | q
    ·exact ok
    ·exact hw h' (List.mem_cons_of_mem _ q)
  ·obtain⟨r',h1,h2⟩:=Option.bind_eq_some_iff.mp h
   cases h2
   refine⟨fun g e=>(by cases e),fun _=>⟨?_,fun h' hh=>?_⟩⟩
   ·rw[dC h1]
    simp[eJ,hdT]
   ·rcases List.mem_cons.mp hh with rfl | q
    ·exact ok
    ·exact hw h' (List.mem_cons_of_mem _ q)
 | .and g::w,v,r,f,o,w',h,ok,hw=>by
  unfold bp at h
  obtain⟨r',h1,h2⟩:=Option.bind_eq_some_iff.mp h
  have ih:=fh h2 (⟨hw _ List.mem_cons_self,ok⟩:(ax.and g f).Ok) fun x hx=>hw x (List.mem_cons_of_mem _ hx)
  have e:eJ (.and g::w)++(aq f++v)=eJ w++(aq (.and g f)++r'):=by rw[dC h1];simp[eJ,hdT,aq]
  rw[e];exact ih
 | .or g::w,v,r,f,o,w',h,ok,hw=>by
  unfold bp at h
  obtain⟨r',h1,h2⟩:=Option.bind_eq_some_iff.mp h
  have ih:=fh h2 (⟨hw _ List.mem_cons_self,ok⟩:(ax.or g f).Ok) fun x hx=>hw x (List.mem_cons_of_mem _ hx)
  have e:eJ (.or g::w)++(aq f++v)=eJ w++(aq (.or g f)++r'):=by rw[dC h1];simp[eJ,hdT,aq]
  rw[e];exact ih
 | .no::w,v,r,f,o,w',h,ok,hw=>by
  unfold bp at h
  have ih:=fh h (f:=.no f) ok fun x hx=>hw x (List.mem_cons_of_mem _ hx)
  have e:eJ (.no::w)++(aq f++v)=eJ w++(aq (.no f)++v):=by simp[eJ,hdT,aq]
  rw[e];exact ih
 | .some n::w,v,r,f,o,w',h,ok,hw=>by
  unfold bp at h
  have ih:=fh h (f:=.some n f) ⟨hw _ List.mem_cons_self,ok⟩ fun x hx=>hw x (List.mem_cons_of_mem _ hx)
  have e:eJ (.some n::w)++(aq f++v)=eJ w++(aq (.some n f)++v):=by simp[eJ,hdT,aq]
  rw[e];exact ih
 | .each n::w,v,r,f,o,w',h,ok,hw=>by
  unfold bp at h
  have ih:=fh h (f:=.each n f) ⟨hw _ List.mem_cons_self,ok⟩ fun x hx=>hw x (List.mem_cons_of_mem _ hx)
  have e:eJ (.each n::w)++(aq f++v)=eJ w++(aq (.each n f)++v):=by simp[eJ,hdT,aq]
  rw[e];exact ih
theorem Bv {v r:List Nat} {h:Hd} (e:openP v=some (some (h,r))):DZ h∧v=hdT h++r:=by
 unfold openP at e
 split at e
 ·rename_i q
  cases e
  exact⟨trivial,bW q⟩
 split at e
 ·rename_i q
  cases e
  exact⟨trivial,bW q⟩
 split at e
 ·rename_i q
  split at e
  ·rename_i hn
   obtain⟨r',h1,h2⟩:=Option.bind_eq_some_iff.mp e
   have e2:=dC h1
   have e3:v.drop 5=(v.drop 5).takeWhile bD++(v.drop 5).dropWhile bD:=List.takeWhile_append_dropWhile.symm
   rw[e2] at e3
   by_cases hs:[115,111,109,101,32].isPrefixOf v=true
   ·rw[if_pos hs] at h2
    cases h2
    refine⟨hn,(bW hs).trans ?_⟩
    show _++v.drop 5=_
    conv=>lhs;rw[e3]
    simp[hdT,aN]
   ·rw[if_neg hs] at h2
    cases h2
    refine⟨hn,(bW (q.resolve_left hs)).trans ?_⟩
    show _++v.drop 5=_
    conv=>lhs;rw[e3]
    simp[hdT,aN]
  ·cases e
 ·cases e
theorem sx:∀{n:Nat} {v r:List Nat} {w:List Hd} {g:ax},run n v w=some (g,r)→(∀h∈w,DZ h)→g.Ok∧eJ w++v=aq g++r
 | 0,v,r,w,g,h,_=>by cases h
 | n+1,v,r,w,g,h,hw=>by
  unfold run at h
  split at h
  ·cases h
  ·rename_i hd v' e
   obtain⟨h1,h2⟩:=Bv e
   have ih:=sx h (fun x hx=>by rcases List.mem_cons.mp hx with rfl | q;exact h1;exact hw x q)
   have e:eJ w++v=eJ (hd::w)++v':=by rw[h2];simp[eJ]
   rw[e];exact ih
  ·split at h
   ·cases h
   ·rename_i a v2 ea
    obtain⟨ok,ev⟩:=tO ea
    split at h
    ·cases h
    ·rename_i f v3 w3 ec
     cases h
     rw[ev]
     exact(fh ec ok hw).1 _ rfl
    ·rename_i v3 w3 ec
     obtain⟨e1,e2⟩:=(fh ec ok hw).2 rfl
     rw[ev,e1]
     exact sx h e2
theorem Bw {z:Str} {f:ax} (h:aM z=some f):f.Ok∧ak z=aq f:=by
 unfold aM at h
 split at h
 ·rename_i g e
  cases h
  have:=sx e (fun x hx=>by cases hx)
  rw[List.append_nil] at this
  exact this
 ·cases h
def gq (v:List Nat):Prop:=∀n w,run n v w=none
def bV (v:List Nat):Prop:=∀n,Io (run n v [])=none
theorem gq.t {v:List Nat} (h:gq v):bV v:=fun n=>by rw[h n []];rfl
theorem bV.r {z:Str} {v:List Nat} (h:bV v) (e:ak z=v):aM z=none:=by
 have:=h ((ak z).length+1)
 rw[←e] at this
 exact this
theorem Cy {u r:List Nat} (hu:∀c∈u,cK c=true) (hr:Stop cK r) (h1:u≠[110,111,116]) (h2:u≠[115,111,109,101]) (h3:u≠[101,97,99,104]) (h0:u≠[]∨∀r',r≠40::r'):openP (u++r)=some none:=by
 have tk:=(gN hu hr).1
 have g1:¬([40].isPrefixOf (u++r)=true):=fun h=>by
  have e:=bW h
  cases u with
  | nil=>exact(h0.resolve_left (fun z=>z rfl)) _ e
  | cons c l=>
   have hc:c=40:=(List.cons.inj e).1
   have:=hu c List.mem_cons_self
   rw[hc] at this
   exact absurd this (by decide)
 have g2:¬([110,111,116,32].isPrefixOf (u++r)=true):=fun h=>by
  have:=mh (p:=[110,111,116]) (c:=32) (by decide) (by decide) h
  rw[tk] at this
  exact h1 this
 have g3:¬([115,111,109,101,32].isPrefixOf (u++r)=true∨[101,97,99,104,32].isPrefixOf (u++r)=true):=by
  rintro(h | h)
  ·have:=mh (p:=[115,111,109,101]) (c:=32) (by decide) (by decide) h
   rw[tk] at this
   exact h2 this
  ·have:=mh (p:=[101,97,99,104]) (c:=32) (by decide) (by decide) h
   rw[tk] at this
   exact h3 this
 unfold openP
 rw[if_neg g1,if_neg g2,if_neg g3]
theorem sy {v:List Nat} (h:openP v=some none) (h2:eA v=none):gq v:=fun n w=>by
 cases n with
 | zero=>rfl
 | succ n=>
  show(match openP v with | none=>none | some (some (h,v'))=>run n v' (h::w) | some none=>_)=_
  rw[h,h2]
theorem qv {v:List Nat} (h:openP v=none):gq v:=fun n w=>by
 cases n with
 | zero=>rfl
 | succ n=>
  show(match openP v with | none=>none | some (some (h,v'))=>run n v' (h::w) | some none=>_)=_
  rw[h]
theorem xq {v v':List Nat} {h:Hd} (e:openP v=some (some (h,v'))) (b:gq v'):gq v:=fun n w=>by
 cases n with
 | zero=>rfl
 | succ n=>
  show(match openP v with | none=>none | some (some (h,v'))=>run n v' (h::w) | some none=>_)=_
  rw[e]
  exact b n _
theorem Al {u r:List Nat} (hu:∀c∈u,cK c=true) (h0:u≠[]∨Stop bu r):(u++r).takeWhile bu=[]:=by
 cases u with
 | nil=>
  have:=h0.resolve_left (fun z=>z rfl)
  have:=(gN (p:=bu) (l:=[]) (r:=r) (by simp) this).1
  exact this
 | cons c l=>
  have hc:=i6.mp (hu c List.mem_cons_self)
  rw[List.cons_append,List.takeWhile_cons,show bu c=false by
   cases q:bu c with
   | false=>rfl
   | true=>have:=gn.mp q;omega]
  rfl
theorem oO {u r:List Nat} (hu:∀c∈u,cK c=true) (hr:Stop cK r) (h1:u≠[110,111,116]) (h2:u≠[115,111,109,101]) (h3:u≠[101,97,99,104]) (h0:u≠[]∨((∀r',r≠40::r')∧Stop bu r)) (ht:di (txt u)=none):gq (u++r):=by
 refine sy (Cy hu hr h1 h2 h3 (h0.imp_right (·.1))) ?_
 unfold eA
 rw[if_pos (Al hu (h0.imp_right (·.2)))]
 unfold fW fj
 rw[(gN hu hr).1,ht];rfl
theorem sZ {t:Term} (o:bT t) {l:List Nat} (hl:di (txt l)=none):aX t≠l:=fun e=>by
 have:=mW o
 rw[e,hl] at this
 cases this
theorem Gi {t:Term} {r:List Nat} (o:bT t) (hr:Stop cK r):openP (aX t++r)=some none:=
 Cy (jU o) hr (sZ o (by decide+kernel)) (sZ o (by decide+kernel)) (sZ o (by decide+kernel)) (.inl (sZ o (by decide+kernel)))
theorem Am {t:Term} {r:List Nat} (o:bT t) (hr:Stop cK r) (h1:[32,60,32].isPrefixOf r=false) (h2:[32,61,32].isPrefixOf r=false):gq (aX t++r):=by
 refine sy (Gi o hr) ?_
 unfold eA
 rw[if_pos (rV o r)]
 unfold fW
 rw[iR o hr,Option.bind_some]
 dsimp only
 rw[if_neg (by rw[h1];decide)]
 unfold cb
 rw[if_neg (by rw[h2];decide)];rfl
theorem uv {f:ax} {r:List Nat} (ha:f.atom=true) (ok:f.Ok) (hr:Stop cK r) (hn:r≠[]):bV (aq f++r):=fun n=>by
 cases n with
 | zero=>rfl
 | succ n=>
  have:run (n+1) (aq f++r) []=some (f,r):=by
   show(match openP (aq f++r) with | none=>none | some (some (h,v'))=>run n v' (h::[]) | some none=>_)=_
   rw[qp ha ok,uf ha ok hr];rfl
  rw[this]
  cases r with
  | nil=>exact absurd rfl hn
  | cons c r=>rfl
theorem qw {a:Str} {r:List Nat} (ha:nameB aG a=true):openP (ak a++r)=some none∧(ak a++r).takeWhile bu≠[]:=by
 have h1:=(cg ha).1
 cases ea:ak a with
 | nil=>rw[bC,ea] at h1;exact absurd h1 (by decide)
 | cons c l=>
  have hc:=(cg ha).2.2 c (by rw[ea];exact List.mem_cons_self)
  have no:∀d p,(d<65∨90<d)→¬((d::p).isPrefixOf ((c::l)++r)=true):=fun d p hd h=>by
   have e:=bW h
   have:=(List.cons.inj e).1
   omega
  refine⟨?_,?_⟩
  ·unfold openP
   rw[if_neg (no _ _ (by decide)),if_neg (no _ _ (by decide)),if_neg (by rintro(h | h);exact no _ _ (by decide) h;exact no _ _ (by decide) h)]
  ·rw[List.cons_append,List.takeWhile_cons,show bu c=true from gn.mpr hc]
   simp
theorem oP {a:Str} {r:List Nat} (ha:nameB aG a=true) (h:dW (ak a++r)=none):gq (ak a++r):=by
 obtain⟨h1,h2⟩:=qw (r:=r) ha
 refine sy h1 ?_
 unfold eA
 rw[if_neg h2];exact h
theorem tf {a:Str} {r:List Nat} (ha:nameB aG a=true) (h:gU (ak a++r)=none):gq (ak a++r):=oP ha (by unfold dW;rw[h];rfl)
theorem oY {a:Str} {r:List Nat} (ha:nameB aG a=true) (hr:Stop bu r):gU (ak a++r)=(cb [91] r).bind fun v1=>(fj v1).bind fun q=>(cb [93] q.2).bind fun v3=>some (a,q.1,v3):=by
 obtain⟨h1,h2⟩:=gN (p:=bu) (rS ha) hr
 unfold gU
 rw[h1,h2,fV,if_pos ha]
theorem uw {a:Str} {r:List Nat} (ha:nameB aG a=true) (hr:Stop bu r) (h:[91].isPrefixOf r=false):gU (ak a++r)=none:=by
 rw[oY ha hr]
 unfold cb
 rw[if_neg (by rw[h];decide)];rfl
theorem Iw {a:Str} {u r:List Nat} (ha:nameB aG a=true) (hu:∀c∈u,cK c=true) (hr:Stop cK r) (ht:di (txt u)=none):gU (ak a++91::(u++r))=none:=by
 rw[oY ha (aQ (by decide)),show(91::(u++r))=[91]++(u++r) from rfl,d_,Option.bind_some]
 unfold fj
 rw[(gN hu hr).1,ht];rfl
theorem Iy {a:Str} {t:Term} {r:List Nat} (ha:nameB aG a=true) (o:bT t) (hr:Stop cK r) (h:[93].isPrefixOf r=false):gU (ak a++91::(aX t++r))=none:=by
 rw[oY ha (aQ (by decide)),show(91::(aX t++r))=[91]++(aX t++r) from rfl,d_,Option.bind_some,iR o hr,Option.bind_some]
 dsimp only
 unfold cb
 rw[if_neg (by rw[h];decide)];rfl
theorem kH {a:Str} {t:Term} {r:List Nat}:atT a t++r=ak a++(91::(aX t++(93::r))):=by unfold atT;simp
theorem qx {a:Str} {t:Term} {r:List Nat} (ha:nameB aG a=true) (o:bT t) (h1:[32,61,32].isPrefixOf r=false) (h2:[32,126,32].isPrefixOf r=false):gq (atT a t++r):=by
 rw[kH]
 refine oP ha ?_
 rw[←kH]
 unfold dW
 rw[jW ha o,Option.bind_some]
 dsimp only
 rw[if_neg (by rw[h1];decide)]
 unfold cb
 rw[if_neg (by rw[h2];decide)];rfl
theorem An {a:Str} {t:Term} {r:List Nat} (ha:nameB aG a=true) (o:bT t) (h:k_ r=none):gq (atT a t++([32,61,32]++r)):=by
 rw[kH]
 refine oP ha ?_
 rw[←kH]
 unfold dW
 rw[jW ha o,Option.bind_some]
 dsimp only
 rw[if_pos (de [32,61,32] r)]
 show(k_ r).bind _=_
 rw[h];rfl
theorem xr {a:Str} {t:Term} {r:List Nat} (ha:nameB aG a=true) (o:bT t) (h:gU r=none):gq (atT a t++([32,126,32]++r)):=by
 rw[kH]
 refine oP ha ?_
 rw[←kH]
 unfold dW
 rw[jW ha o,Option.bind_some]
 dsimp only
 rw[if_neg (by show ¬(false=true);decide),d_,Option.bind_some,h];rfl
theorem xR {a:Str} {t:Term} {d:Nat} {r:List Nat} (ha:nameB aG a=true) (o:bT t) (hd:cP d=true) (hn:r≠[]):bV (atT a t++([32,61,32]++d::r)):=fun n=>by
 cases n with
 | zero=>rfl
 | succ n=>
  have h1:openP (atT a t++([32,61,32]++d::r))=some none:=by rw[kH];exact(qw ha).1
  have h2:(atT a t++([32,61,32]++d::r)).takeWhile bu≠[]:=by rw[kH];exact(qw ha).2
  have h3:eA (atT a t++([32,61,32]++d::r))=some (.sign a t ((d-48:Nat):Int),r):=by
   unfold eA
   rw[if_neg h2]
   unfold dW
   rw[jW ha o,Option.bind_some]
   dsimp only
   rw[if_pos (de [32,61,32] _)]
   show(k_ (d::r)).bind _=_
   unfold k_
   dsimp only
   rw[if_pos hd];rfl
  have:run (n+1) (atT a t++([32,61,32]++d::r)) []=some (.sign a t ((d-48:Nat):Int),r):=by
   show(match openP _ with | none=>none | some (some (h,v'))=>run n v' (h::[]) | some none=>_)=_
   rw[h1,h3];rfl
  rw[this]
  cases r with
  | nil=>exact absurd rfl hn
  | cons c r=>rfl
def jA (n:Str):Term:=⟨0,[(n,1)]⟩
theorem gb {n:Str} (h:nameB au n=true):eB (jA n):=⟨⟨⟨by show(0:Int)≤0;decide,by show(0:Int)<100;decide⟩,by unfold rising;simp[jA,PyProof.Rows.sortedS,PyProof.Rows.risingS],fun p hp=>by rw[List.mem_singleton.mp hp];exact⟨h,by show(1:Int)≤1;decide,by show(1:Int)≤9;decide⟩⟩,by simp[jA]⟩
theorem bb (n:Str):aX (jA n)=ak n:=by simp[jA,aX,bU,bS,jn]
theorem cX:aX ⟨2,[]⟩=[50]:=by decide+kernel
theorem NA:bT ⟨2,[]⟩:=⟨⟨by decide,by decide⟩,by decide+kernel,fun p h=>(nomatch h)⟩
theorem ki {n:Str} (h:nameB au n=true):∀c∈ak n,cK c=true:=fun c hc=>i6.mpr (.inl (dc.mp ((bR h).2.2.1 c hc)))
theorem iS {n:Str} (h:nameB au n=true):∃c l,ak n=c::l∧97≤c∧c≤122:=rR h
theorem D_ {x:Str} {c:Nat} (hc:c∈ak x) (h:bD c=false):nameB au x=false:=by
 cases e:nameB au x with
 | false=>rfl
 | true=>rw[(bR e).2.2.1 c hc] at h;cases h
theorem me {x y:Str} (hy:y∈(cq x).2) (hp:dA y=none):di x=none:=by unfold di;rw[rO hy hp]
theorem tj {x:Str} {l:List Str} (e:spl 43 x=l) (h:dP (ak (l.getLastD (txt [])))=none):(cq x).2=l:=by unfold cq;rw[e,h]
theorem pL {us:List (List Nat)} (h0:us≠[]) (h:∀u∈us,43 ∉ u):spl 43 (txt (jn 43 us))=us.map txt:=by
 refine yS (by simpa using h0) (fun p hp=>?_) ?_
 ·obtain⟨w,hw,rfl⟩:=List.mem_map.mp hp
  show 43 ∉ ak (txt w)
  rw[aN];exact h w hw
 ·show ak (txt _)=_
  rw[aN,List.map_map]
  congr 1
  rw[show((fun x:Str=>x.cps.toList)∘txt)=id from funext fun l=>aN l,List.map_id]
theorem i8 {n:Str} (h:nameB au n=true):43 ∉ ak n:=fun z=>by have:=dc.mp ((bR h).2.2.1 _ z);omega
theorem pM {n:Str} (h:nameB au n=true) {u v:List Nat}:dP (u++ak n++v)=none:=by
 obtain⟨c,l,e,hc⟩:=iS h
 exact zt (c:=c) (by rw[e];simp) (by
  cases q:cP c with
  | false=>rfl
  | true=>have:=dO.mp q;omega)
theorem Iz {u:List Nat} {c:Nat} {l:List Nat} (e:u=c::l) (hc:¬(50≤c∧c≤57)) {d:Nat} (hd:d∈u) (h:bD d=false):dA (txt u)=none:=by
 unfold dA
 rw[aN,e]
 dsimp only
 rw[if_neg hc,D_ (x:=txt (c::l)) (c:=d) (by rw[aN,←e];exact hd) h];rfl
theorem Ao:dA (txt [])=none:=by decide+kernel
theorem gg {n:Str} {r:List Nat} (h:nameB au n=true) (hr:Stop cK r) (h1:[32,60,32].isPrefixOf r=false) (h2:[32,61,32].isPrefixOf r=false):gq (ak n++r):=by
 rw[←bb];exact Am (gb h).1 hr h1 h2
theorem sC {c:Nat} {r:List Nat} (h1:cK c=false) (h2:c≠40) (h3:bu c=false):gq (c::r):=
 oO (u:=[]) (r:=c::r) (by simp) (aQ h1) (by simp) (by simp) (by simp) (.inr ⟨fun r' e=>h2 (List.cons.inj e).1,aQ h3⟩) (by decide+kernel)
theorem Cz:gq []:=oO (u:=[]) (r:=[]) (by simp) jV (by simp) (by simp) (by simp) (.inr ⟨fun r' e=>(by cases e),jV⟩) (by decide+kernel)
theorem iz {u r:List Nat} {d:Nat} (hd:d∈u) (hs:bD d=false) (hu:∀c∈u,cK c=true) (hr:Stop cK r) (ht:di (txt u)=none):gq (u++r):=by
 have no:∀l:List Nat,(∀c∈l,bD c=true)→u≠l:=fun l hl e=>by
  rw[e] at hd
  rw[hl d hd] at hs
  cases hs
 exact oO hu hr (no _ (by decide)) (no _ (by decide)) (no _ (by decide)) (.inl (no _ (by simp))) ht
theorem iJ {u v:List Nat} (a:∀c∈u,cK c=true) (b:∀c∈v,cK c=true):∀c∈u++v,cK c=true:=fun c hc=>(List.mem_append.mp hc).elim (a c) (b c)
theorem NB {n:Str} (h:nameB au n=true):di (txt (ak n++[43]))=none:=by
 have e:spl 43 (txt (ak n++[43]))=[ak n,[]].map txt:=pL (us:=[ak n,[]]) (by simp) (by simp[i8 h])
 exact me (y:=txt []) (by rw[tj e (by show dP (ak (txt []))=none;decide+kernel)];simp) Ao
theorem CA {n:Str} (h:nameB au n=true) {u:List Nat} (hu:43 ∉ u) (hp:dA (txt u)=none):di (txt (u++43::ak n))=none:=by
 have e:spl 43 (txt (u++43::ak n))=[u,ak n].map txt:=pL (us:=[u,ak n]) (by simp) (by simp[i8 h,hu])
 refine me (y:=txt u) ?_ hp
 rw[tj e (by
  show dP (ak (txt (ak n)))=none
  rw[aN]
  have:=pM h (u:=[]) (v:=[])
  rwa [List.append_nil] at this)]
 simp
theorem IA {n:Str} (h:nameB au n=true):di (txt (ak n++[43,48]))=none:=by
 have e:spl 43 (txt (ak n++[43,48]))=[ak n,[48]].map txt:=pL (us:=[ak n,[48]]) (by simp) (by simp[i8 h])
 have e0:Str.ofString "0"=txt [48]:=by decide+kernel
 have ec:(cq (txt (ak n++[43,48]))).2=[ak n,[48]].map txt:=by
  have el:([ak n,[48]].map txt).getLastD (txt [])=txt [48]:=rfl
  have en:dP (ak (txt [48]))=some 0:=by decide+kernel
  unfold cq
  rw[e,el,en]
  dsimp only
  rw[if_neg]
  rintro(q | q)
  ·have:=congrArg ak q
   rw[aN,e0,aN] at this
   have:=congrArg List.length this
   simp at this
  ·exact q e0.symm
 exact me (y:=txt [48]) (by rw[ec];simp) (by decide+kernel)
theorem yb {u:List Nat} {c d:Nat} {l:List Nat} (hu:43 ∉ u) (hn:dP u=none) (e:u=c::l) (hc:¬(50≤c∧c≤57)) (hd:d∈u) (h:bD d=false):di (txt u)=none:=by
 have es:spl 43 (txt u)=[u].map txt:=pL (us:=[u]) (by simp) (by simp[hu])
 refine me (y:=txt u) ?_ (Iz e hc hd h)
 rw[tj es (by show dP (ak (txt u))=none;rw[aN];exact hn)]
 simp
theorem K5 {n:Str} (h:nameB au n=true):di (txt (ak n++43::ak n))=none:=by
 have e:spl 43 (txt (ak n++43::ak n))=[ak n,ak n].map txt:=pL (us:=[ak n,ak n]) (by simp) (by simp[i8 h])
 have ec:(cq (txt (ak n++43::ak n))).2=[ak n,ak n].map txt:=tj e (by
  show dP (ak (txt (ak n)))=none
  rw[aN]
  have:=pM h (u:=[]) (v:=[])
  rwa [List.append_nil] at this)
 have hp:dA (txt (ak n))=some (n,1):=by
  have:=zu (p:=(n,1)) ⟨h,by show(1:Int)≤1;decide,by show(1:Int)≤9;decide⟩
  unfold bS at this
  exact this
 have em:dk dA (cq (txt (ak n++43::ak n))).2=some [(n,1),(n,1)]:=by
  rw[ec]
  show dk dA [txt (ak n),txt (ak n)]=_
  simp only[dk,hp]
 unfold di
 rw[em]
 dsimp only
 rw[if_neg]
 intro q
 unfold rising at q
 rw[Bool.and_eq_true] at q
 have:=of_decide_eq_true q.2
 simp at this
theorem K6 {f:ax} (ha:f.atom=true) (ok:f.Ok):gq (40::(aq f++[41])):=fun n w=>by
 cases n with
 | zero=>rfl
 | succ n=>
  show run n (aq f++[41]) (.par::w)=none
  cases n with
  | zero=>rfl
  | succ n=>
   show(match openP (aq f++[41]) with | none=>none | some (some (h,v'))=>run n v' (h:: .par::w) | some none=>_)=_
   rw[qp ha ok,uf ha ok (aQ (by decide))];rfl
theorem pN {n:Str} {r:List Nat} (h:nameB au n=true) (hr:Stop bD r) (h2:[32].isPrefixOf r=false):openP ([115,111,109,101,32]++(ak n++r))=none∧openP ([101,97,99,104,32]++(ak n++r))=none:=by
 obtain⟨h1,h3⟩:=gN (p:=bD) (bR h).2.2.1 hr
 have hd:cb [32] r=none:=if_neg (by rw[h2];decide)
 constructor
 ·unfold openP
  rw[if_neg (by show ¬(false=true);decide),if_neg (by show ¬(false=true);decide),if_pos (.inl (de _ _))]
  have e5:List.drop 5 (([115,111,109,101,32]:List Nat)++(ak n++r))=ak n++r:=rfl
  rw[e5,h1,h3,hd]
  split<;>rfl
 ·unfold openP
  rw[if_neg (by show ¬(false=true);decide),if_neg (by show ¬(false=true);decide),if_pos (.inr (de _ _))]
  have e5:List.drop 5 (([101,97,99,104,32]:List Nat)++(ak n++r))=ak n++r:=rfl
  rw[e5,h1,h3,hd]
  split<;>rfl
theorem vh {r:List Nat}:openP ([115,111,109,101,32]++32::r)=none:=by
 unfold openP
 rw[if_neg (by show ¬(false=true);decide),if_neg (by show ¬(false=true);decide),if_pos (.inl (de _ _))]
 have e5:List.drop 5 (([115,111,109,101,32]:List Nat)++32::r)=32::r:=rfl
 have e6:(32::r).takeWhile bD=[]:=by rw[List.takeWhile_cons];rfl
 rw[e5,e6,xa,if_neg (by decide)]
theorem Ap:∀k:Nat,gq (List.replicate k [110,111,116,32]).flatten
 | 0=>Cz
 | k+1=>by
  rw[List.replicate_succ,List.flatten_cons]
  exact xq (h:=.no) rfl (Ap k)
theorem CB:∀k:Nat,Rn 55 (List.replicate k [110,111,116,32]).flatten
 | 0=>cE (by simp)
 | k+1=>by
  rw[List.replicate_succ,List.flatten_cons]
  exact dX (a:=[110,111,116]) (cE (by decide)) (by decide) (CB k)
def Sm (k:Nat) (z:Str):Prop:=(∀c∈ak z,c<128)∧z.length≤k
theorem Sm.app {j k:Nat} {a b:Str} (ha:Sm j a) (hb:Sm k b):Sm (j+k) (a++b):=⟨fun c hc=>by rw[aI] at hc;exact(List.mem_append.mp hc).elim (ha.1 c) (hb.1 c),by rw[strLen_append];exact Nat.add_le_add ha.2 hb.2⟩
theorem Sm.fit {j k:Nat} {a b:Str} (ha:Sm j a) (hb:Sm k b) (h:j+k≤1000:=by decide):a.length+b.length≤sizeLine:=Nat.le_trans (Nat.add_le_add ha.2 hb.2) (Nat.le_trans h (by decide))
theorem Sm.asc {k:Nat} {z:Str} (h:Sm k z) (hk:k≤55:=by decide):jw z:=⟨⟨h.1,by have:=h.2;omega⟩,fun j=>cE (by rw[←bC];have:=h.2;omega) j⟩
theorem cu {n:Str} (h:nameB au n=true):Sm 3 n:=⟨fun c hc=>by have:=dc.mp ((bR h).2.2.1 c hc);omega,(bR h).2.1⟩
theorem gs {n:Str} (h:nameB aG n=true):Sm 3 n:=⟨fun c hc=>by have:=(cg h).2.2 c hc;omega,(cg h).2.1⟩
def Bd (z:Str):Prop:=jw z∧aM z=none
def w0 (n m a:Str):List Str:=[(Str.ofString ""),(Str.ofString " "),n,(n++(Str.ofString " =")),((Str.ofString "= ")++n),((n++(Str.ofString "="))++m),((n++(Str.ofString "  = "))++m),(((n++(Str.ofString " = "))++m)++(Str.ofString " ")),((((Str.ofString " ")++n)++(Str.ofString " = "))++m)]
def w1 (n m a:Str):List Str:=[((n++(Str.ofString " == "))++m),((n++(Str.ofString " <= "))++m),((n++(Str.ofString " > "))++m),(((n++(Str.ofString " = "))++m)++(Str.ofString " = 0")),(n++(Str.ofString " + 1 = 0")),(n++(Str.ofString "+ = 0"))]
def w2 (n m a:Str):List Str:=[(((Str.ofString "+")++n)++(Str.ofString " = 0")),(n++(Str.ofString "+0 = 0")),(Str.ofString "00 = 0"),(Str.ofString "01 = 0"),(Str.ofString "100 = 0"),(((Str.ofString "1")++n)++(Str.ofString " = 0")),(((Str.ofString "0")++n)++(Str.ofString " = 0"))]
def w3 (n m a:Str):List Str:=[(((Str.ofString "10")++n)++(Str.ofString " = 0")),(((Str.ofString "1+")++n)++(Str.ofString " = 0")),(((n++(Str.ofString "+"))++n)++(Str.ofString " = 0")),(n++(Str.ofString "2 = 0")),(((Str.ofString "2 ")++n)++(Str.ofString " = 0")),(Str.ofString "-1 = 0")]
def w4 (n m a:Str):List Str:=[(Str.ofString "+1 = 0"),(Str.ofString "1_0 = 0"),(Str.ofString "1+1 = 0"),(Str.ofString "not = 0"),(Str.ofString "and = 0"),(Str.ofString "some = 0"),(Str.ofString "abcd = 0"),(Str.ofString "N = 0"),(Str.ofString "nM = 0")]
def w5 (n m a:Str):List Str:=[((((a++(Str.ofString "["))++n)++(Str.ofString "]"))),(((((a++(Str.ofString "["))++n)++(Str.ofString "]")))++(Str.ofString " = 10")),(((((a++(Str.ofString "["))++n)++(Str.ofString "]")))++(Str.ofString " = ")),((((((a++(Str.ofString "["))++n)++(Str.ofString "]")))++(Str.ofString " = "))++m),(a++(Str.ofString "[] = 0")),(((a++(Str.ofString "["))++n)++(Str.ofString " = 0"))]
def w6 (n m a:Str):List Str:=[((a++n)++(Str.ofString "] = 0")),(((a++(Str.ofString " ["))++n)++(Str.ofString "] = 0")),(((((a++(Str.ofString "["))++n)++(Str.ofString "]")))++(Str.ofString "= 0")),(((((a++(Str.ofString "["))++n)++(Str.ofString "]")))++(Str.ofString " < 0")),(((Str.ofString "[")++n)++(Str.ofString "] = 0")),(Str.ofString "ABCD[0] = 0")]
def w7 (n m a:Str):List Str:=[(((a++(Str.ofString "[0]")))++(Str.ofString " ~ 0")),((((a++(Str.ofString "[0]")))++(Str.ofString " ~ "))++a),(((((a++(Str.ofString "[0]")))++(Str.ofString " ~ "))++((a++(Str.ofString "[0]"))))++(Str.ofString " = 0")),((((a++(Str.ofString "[0]")))++(Str.ofString "~"))++((a++(Str.ofString "[0]"))))]
def w8 (n m a:Str):List Str:=[(((Str.ofString "(")++n)++(Str.ofString " = 0)")),(Str.ofString "(0 = 0 and 0 = 0"),(Str.ofString "0 = 0 and 0 = 0"),(Str.ofString "(0 = 0 and 0 = 0))"),(Str.ofString "(0 = 0  and 0 = 0)")]
def w9 (n m a:Str):List Str:=[(Str.ofString "(0 = 0 nor 0 = 0)"),(Str.ofString "(0 = 0 and 0 = 0 and 0 = 0)"),(Str.ofString "(0 = 0 AND 0 = 0)"),(Str.ofString "( 0 = 0 and 0 = 0)"),(Str.ofString "()")]
def w10 (n m a:Str):List Str:=[(Str.ofString "not"),(Str.ofString "not "),(Str.ofString "not(0 = 0 and 0 = 0)"),(Str.ofString "not  0 = 0"),(Str.ofString "some 0 = 0"),((Str.ofString "some ")++n),(((Str.ofString "some ")++n)++(Str.ofString " "))]
def w11 (n m a:Str):List Str:=[(Str.ofString "some or 0 = 0"),(Str.ofString "each abcd 0 = 0"),(((Str.ofString "each ")++n)++(Str.ofString "0 = 0")),(Str.ofString "each N 0 = 0"),(((Str.ofString "every ")++n)++(Str.ofString " 0 = 0"))]
def w12 (n m a:Str):List Str:=[(((Str.ofString "some  ")++n)++(Str.ofString " 0 = 0"))]
def w13 (n m a:Str):List Str:=[(Str.ofString "0 = 0;"),(Str.ofString "not not"),(Str.ofString "(((((((((((((((((((("),(Txt.mul (Str.ofString "not ") 700),(Str.ofString "0 = 0 | 0 = 0")]
theorem wl:ak (Str.ofString " =")=[32,61]∧ak (Str.ofString "= ")=[61,32]∧ak (Str.ofString "=")=[61]∧ak (Str.ofString "  = ")=[32,32,61,32]∧ak (Str.ofString " ")=[32]∧ak (Str.ofString " = ")=[32,61,32]∧ak (Str.ofString " == ")=[32,61,61,32]∧ak (Str.ofString " <= ")=[32,60,61,32]∧ak (Str.ofString " > ")=[32,62,32]∧ak (Str.ofString " = 0")=[32,61,32,48]∧ak (Str.ofString " + 1 = 0")=[32,43,32,49,32,61,32,48]∧ak (Str.ofString "+ = 0")=[43,32,61,32,48]∧ak (Str.ofString "+")=[43]∧ak (Str.ofString "+0 = 0")=[43,48,32,61,32,48]∧ak (Str.ofString "1")=[49]∧ak (Str.ofString "0")=[48]∧ak (Str.ofString "10")=[49,48]∧ak (Str.ofString "1+")=[49,43]∧ak (Str.ofString "2 = 0")=[50,32,61,32,48]∧ak (Str.ofString "2 ")=[50,32]∧ak (Str.ofString " = 10")=[32,61,32,49,48]∧ak (Str.ofString "[] = 0")=[91,93,32,61,32,48]∧ak (Str.ofString "[")=[91]∧ak (Str.ofString "] = 0")=[93,32,61,32,48]∧ak (Str.ofString " [")=[32,91]∧ak (Str.ofString "= 0")=[61,32,48]∧ak (Str.ofString " < 0")=[32,60,32,48]∧ak (Str.ofString " ~ 0")=[32,126,32,48]∧ak (Str.ofString " ~ ")=[32,126,32]∧ak (Str.ofString "~")=[126]∧ak (Str.ofString " = 0)")=[32,61,32,48,41]∧ak (Str.ofString "(")=[40]∧ak (Str.ofString "some ")=[115,111,109,101,32]∧ak (Str.ofString "0 = 0")=[48,32,61,32,48]∧ak (Str.ofString "each ")=[101,97,99,104,32]∧ak (Str.ofString " 0 = 0")=[32,48,32,61,32,48]∧ak (Str.ofString "every ")=[101,118,101,114,121,32]∧ak (Str.ofString "some  ")=[115,111,109,101,32,32]∧ak (Str.ofString "]")=[93]∧ak (Str.ofString "[0]")=[91,48,93]:=⟨by decide+kernel,by decide+kernel,by decide+kernel,by decide+kernel,by decide+kernel,by decide+kernel,by decide+kernel,by decide+kernel,by decide+kernel,by decide+kernel,by decide+kernel,by decide+kernel,by decide+kernel,by decide+kernel,by decide+kernel,by decide+kernel,by decide+kernel,by decide+kernel,by decide+kernel,by decide+kernel,by decide+kernel,by decide+kernel,by decide+kernel,by decide+kernel,by decide+kernel,by decide+kernel,by decide+kernel,by decide+kernel,by decide+kernel,by decide+kernel,by decide+kernel,by decide+kernel,by decide+kernel,by decide+kernel,by decide+kernel,by decide+kernel,by decide+kernel,by decide+kernel,by decide+kernel,by decide+kernel⟩
theorem wb2 {n m a:Str} (hn:nameB au n=true) (hm:nameB au m=true) (ha:nameB aG a=true):aM n=none:=by
 obtain⟨c0,c1,c2,c3,c4,c5,c6,c7,c8,c9,c10,c11,c12,c13,c14,c15,c16,c17,c18,c19,c20,c21,c22,c23,c24,c25,c26,c27,c28,c29,c30,c31,c32,c33,c34,c35,c36,cY,cj,ck⟩:=wl
 exact bV.r (v:=ak n++[]) ((gg hn jV rfl rfl).t) (by simp[aI,aq,atT,bb,aK,cX])
theorem wb3 {n m a:Str} (hn:nameB au n=true) (hm:nameB au m=true) (ha:nameB aG a=true):aM (n++(Str.ofString " ="))=none:=by
 obtain⟨c0,c1,c2,c3,c4,c5,c6,c7,c8,c9,c10,c11,c12,c13,c14,c15,c16,c17,c18,c19,c20,c21,c22,c23,c24,c25,c26,c27,c28,c29,c30,c31,c32,c33,c34,c35,c36,cY,cj,ck⟩:=wl
 exact bV.r (v:=ak n++(32::61::[])) ((gg hn (aQ (by decide)) rfl rfl).t) (by simp[aI,c0,aq,atT,bb,aK,cX])
theorem wb4 {n m a:Str} (hn:nameB au n=true) (hm:nameB au m=true) (ha:nameB aG a=true):aM ((Str.ofString "= ")++n)=none:=by
 obtain⟨c0,c1,c2,c3,c4,c5,c6,c7,c8,c9,c10,c11,c12,c13,c14,c15,c16,c17,c18,c19,c20,c21,c22,c23,c24,c25,c26,c27,c28,c29,c30,c31,c32,c33,c34,c35,c36,cY,cj,ck⟩:=wl
 exact bV.r (v:=61::32::ak n) ((sC (by decide) (by decide) (by decide)).t) (by simp[aI,c1,aq,atT,bb,aK,cX])
theorem wb5 {n m a:Str} (hn:nameB au n=true) (hm:nameB au m=true) (ha:nameB aG a=true):aM ((n++(Str.ofString "="))++m)=none:=by
 obtain⟨c0,c1,c2,c3,c4,c5,c6,c7,c8,c9,c10,c11,c12,c13,c14,c15,c16,c17,c18,c19,c20,c21,c22,c23,c24,c25,c26,c27,c28,c29,c30,c31,c32,c33,c34,c35,c36,cY,cj,ck⟩:=wl
 exact bV.r (v:=ak n++(61::ak m)) ((gg hn (aQ (by decide)) rfl rfl).t) (by simp[aI,c2,aq,atT,bb,aK,cX])
theorem wb6 {n m a:Str} (hn:nameB au n=true) (hm:nameB au m=true) (ha:nameB aG a=true):aM ((n++(Str.ofString "  = "))++m)=none:=by
 obtain⟨c0,c1,c2,c3,c4,c5,c6,c7,c8,c9,c10,c11,c12,c13,c14,c15,c16,c17,c18,c19,c20,c21,c22,c23,c24,c25,c26,c27,c28,c29,c30,c31,c32,c33,c34,c35,c36,cY,cj,ck⟩:=wl
 exact bV.r (v:=ak n++(32::32::61::32::ak m)) ((gg hn (aQ (by decide)) rfl rfl).t) (by simp[aI,c3,aq,atT,bb,aK,cX])
theorem wb7 {n m a:Str} (hn:nameB au n=true) (hm:nameB au m=true) (ha:nameB aG a=true):aM (((n++(Str.ofString " = "))++m)++(Str.ofString " "))=none:=by
 obtain⟨c0,c1,c2,c3,c4,c5,c6,c7,c8,c9,c10,c11,c12,c13,c14,c15,c16,c17,c18,c19,c20,c21,c22,c23,c24,c25,c26,c27,c28,c29,c30,c31,c32,c33,c34,c35,c36,cY,cj,ck⟩:=wl
 exact bV.r (v:=aq (.same (jA n) (jA m))++[32]) (uv rfl ⟨(gb hn).1,(gb hm).1⟩ (aQ (by decide)) (by simp)) (by simp[aI,c4,c5,aq,atT,bb,aK,cX])
theorem wb8 {n m a:Str} (hn:nameB au n=true) (hm:nameB au m=true) (ha:nameB aG a=true):aM ((((Str.ofString " ")++n)++(Str.ofString " = "))++m)=none:=by
 obtain⟨c0,c1,c2,c3,c4,c5,c6,c7,c8,c9,c10,c11,c12,c13,c14,c15,c16,c17,c18,c19,c20,c21,c22,c23,c24,c25,c26,c27,c28,c29,c30,c31,c32,c33,c34,c35,c36,cY,cj,ck⟩:=wl
 exact bV.r (v:=32::(ak n++(32::61::32::ak m))) ((sC (by decide) (by decide) (by decide)).t) (by simp[aI,c5,c4,aq,atT,bb,aK,cX])
theorem wb9 {n m a:Str} (hn:nameB au n=true) (hm:nameB au m=true) (ha:nameB aG a=true):aM ((n++(Str.ofString " == "))++m)=none:=by
 obtain⟨c0,c1,c2,c3,c4,c5,c6,c7,c8,c9,c10,c11,c12,c13,c14,c15,c16,c17,c18,c19,c20,c21,c22,c23,c24,c25,c26,c27,c28,c29,c30,c31,c32,c33,c34,c35,c36,cY,cj,ck⟩:=wl
 exact bV.r (v:=ak n++(32::61::61::32::ak m)) ((gg hn (aQ (by decide)) rfl rfl).t) (by simp[aI,c6,aq,atT,bb,aK,cX])
theorem TF {n m a:Str} (hn:nameB au n=true) (hm:nameB au m=true) (ha:nameB aG a=true):aM ((n++(Str.ofString " <= "))++m)=none:=by
 obtain⟨c0,c1,c2,c3,c4,c5,c6,c7,c8,c9,c10,c11,c12,c13,c14,c15,c16,c17,c18,c19,c20,c21,c22,c23,c24,c25,c26,c27,c28,c29,c30,c31,c32,c33,c34,c35,c36,cY,cj,ck⟩:=wl
 exact bV.r (v:=ak n++(32::60::61::32::ak m)) ((gg hn (aQ (by decide)) rfl rfl).t) (by simp[aI,c7,aq,atT,bb,aK,cX])
theorem TH {n m a:Str} (hn:nameB au n=true) (hm:nameB au m=true) (ha:nameB aG a=true):aM ((n++(Str.ofString " > "))++m)=none:=by
 obtain⟨c0,c1,c2,c3,c4,c5,c6,c7,c8,c9,c10,c11,c12,c13,c14,c15,c16,c17,c18,c19,c20,c21,c22,c23,c24,c25,c26,c27,c28,c29,c30,c31,c32,c33,c34,c35,c36,cY,cj,ck⟩:=wl
 exact bV.r (v:=ak n++(32::62::32::ak m)) ((gg hn (aQ (by decide)) rfl rfl).t) (by simp[aI,c8,aq,atT,bb,aK,cX])
theorem TK {n m a:Str} (hn:nameB au n=true) (hm:nameB au m=true) (ha:nameB aG a=true):aM (((n++(Str.ofString " = "))++m)++(Str.ofString " = 0"))=none:=by
 obtain⟨c0,c1,c2,c3,c4,c5,c6,c7,c8,c9,c10,c11,c12,c13,c14,c15,c16,c17,c18,c19,c20,c21,c22,c23,c24,c25,c26,c27,c28,c29,c30,c31,c32,c33,c34,c35,c36,cY,cj,ck⟩:=wl
 exact bV.r (v:=aq (.same (jA n) (jA m))++[32,61,32,48]) (uv rfl ⟨(gb hn).1,(gb hm).1⟩ (aQ (by decide)) (by simp)) (by simp[aI,c9,c5,aq,atT,bb,aK,cX])
theorem TL {n m a:Str} (hn:nameB au n=true) (hm:nameB au m=true) (ha:nameB aG a=true):aM (n++(Str.ofString " + 1 = 0"))=none:=by
 obtain⟨c0,c1,c2,c3,c4,c5,c6,c7,c8,c9,c10,c11,c12,c13,c14,c15,c16,c17,c18,c19,c20,c21,c22,c23,c24,c25,c26,c27,c28,c29,c30,c31,c32,c33,c34,c35,c36,cY,cj,ck⟩:=wl
 exact bV.r (v:=ak n++(32::43::32::49::32::61::32::48::[])) ((gg hn (aQ (by decide)) rfl rfl).t) (by simp[aI,c10,aq,atT,bb,aK,cX])
theorem TN {n m a:Str} (hn:nameB au n=true) (hm:nameB au m=true) (ha:nameB aG a=true):aM (n++(Str.ofString "+ = 0"))=none:=by
 obtain⟨c0,c1,c2,c3,c4,c5,c6,c7,c8,c9,c10,c11,c12,c13,c14,c15,c16,c17,c18,c19,c20,c21,c22,c23,c24,c25,c26,c27,c28,c29,c30,c31,c32,c33,c34,c35,c36,cY,cj,ck⟩:=wl
 exact bV.r (v:=(ak n++[43])++[32,61,32,48]) ((iz (d:=43) (by simp) (by decide) (iJ (ki hn) (by decide)) (aQ (by decide)) (NB hn)).t) (by simp[aI,c11,aq,atT,bb,aK,cX])
theorem TQ {n m a:Str} (hn:nameB au n=true) (hm:nameB au m=true) (ha:nameB aG a=true):aM (((Str.ofString "+")++n)++(Str.ofString " = 0"))=none:=by
 obtain⟨c0,c1,c2,c3,c4,c5,c6,c7,c8,c9,c10,c11,c12,c13,c14,c15,c16,c17,c18,c19,c20,c21,c22,c23,c24,c25,c26,c27,c28,c29,c30,c31,c32,c33,c34,c35,c36,cY,cj,ck⟩:=wl
 exact bV.r (v:=([]++43::ak n)++[32,61,32,48]) ((iz (d:=43) (by simp) (by decide) (iJ (u:=[43]) (by decide) (ki hn)) (aQ (by decide)) (CA hn (u:=[]) (by simp) Ao)).t) (by simp[aI,c9,c12,aq,atT,bb,aK,cX])
theorem TR {n m a:Str} (hn:nameB au n=true) (hm:nameB au m=true) (ha:nameB aG a=true):aM (n++(Str.ofString "+0 = 0"))=none:=by
 obtain⟨c0,c1,c2,c3,c4,c5,c6,c7,c8,c9,c10,c11,c12,c13,c14,c15,c16,c17,c18,c19,c20,c21,c22,c23,c24,c25,c26,c27,c28,c29,c30,c31,c32,c33,c34,c35,c36,cY,cj,ck⟩:=wl
 exact bV.r (v:=(ak n++[43,48])++[32,61,32,48]) ((iz (d:=43) (by simp) (by decide) (iJ (ki hn) (by decide)) (aQ (by decide)) (IA hn)).t) (by simp[aI,c13,aq,atT,bb,aK,cX])
theorem TU {n m a:Str} (hn:nameB au n=true) (hm:nameB au m=true) (ha:nameB aG a=true):aM (((Str.ofString "1")++n)++(Str.ofString " = 0"))=none:=by
 obtain⟨c0,c1,c2,c3,c4,c5,c6,c7,c8,c9,c10,c11,c12,c13,c14,c15,c16,c17,c18,c19,c20,c21,c22,c23,c24,c25,c26,c27,c28,c29,c30,c31,c32,c33,c34,c35,c36,cY,cj,ck⟩:=wl
 exact bV.r (v:=([49]++ak n)++[32,61,32,48]) ((iz (d:=49) (by simp) (by decide) (iJ (u:=[49]) (by decide) (ki hn)) (aQ (by decide)) (yb (c:=49) (d:=49) (l:=[]++ak n) (by simp[i8 hn]) (by have:=pM hn (u:=[49]) (v:=[]);rwa [List.append_nil] at this) rfl (by decide) (by simp) (by decide))).t) (by simp[aI,c9,c14,aq,atT,bb,aK,cX])
theorem TV {n m a:Str} (hn:nameB au n=true) (hm:nameB au m=true) (ha:nameB aG a=true):aM (((Str.ofString "0")++n)++(Str.ofString " = 0"))=none:=by
 obtain⟨c0,c1,c2,c3,c4,c5,c6,c7,c8,c9,c10,c11,c12,c13,c14,c15,c16,c17,c18,c19,c20,c21,c22,c23,c24,c25,c26,c27,c28,c29,c30,c31,c32,c33,c34,c35,c36,cY,cj,ck⟩:=wl
 exact bV.r (v:=([48]++ak n)++[32,61,32,48]) ((iz (d:=48) (by simp) (by decide) (iJ (u:=[48]) (by decide) (ki hn)) (aQ (by decide)) (yb (c:=48) (d:=48) (l:=[]++ak n) (by simp[i8 hn]) (by have:=pM hn (u:=[48]) (v:=[]);rwa [List.append_nil] at this) rfl (by decide) (by simp) (by decide))).t) (by simp[aI,c9,c15,aq,atT,bb,aK,cX])
theorem TY {n m a:Str} (hn:nameB au n=true) (hm:nameB au m=true) (ha:nameB aG a=true):aM (((Str.ofString "10")++n)++(Str.ofString " = 0"))=none:=by
 obtain⟨c0,c1,c2,c3,c4,c5,c6,c7,c8,c9,c10,c11,c12,c13,c14,c15,c16,c17,c18,c19,c20,c21,c22,c23,c24,c25,c26,c27,c28,c29,c30,c31,c32,c33,c34,c35,c36,cY,cj,ck⟩:=wl
 exact bV.r (v:=([49,48]++ak n)++[32,61,32,48]) ((iz (d:=49) (by simp) (by decide) (iJ (u:=[49,48]) (by decide) (ki hn)) (aQ (by decide)) (yb (c:=49) (d:=49) (l:=[48]++ak n) (by simp[i8 hn]) (by have:=pM hn (u:=[49,48]) (v:=[]);rwa [List.append_nil] at this) rfl (by decide) (by simp) (by decide))).t) (by simp[aI,c9,c16,aq,atT,bb,aK,cX])
theorem T_ {n m a:Str} (hn:nameB au n=true) (hm:nameB au m=true) (ha:nameB aG a=true):aM (((Str.ofString "1+")++n)++(Str.ofString " = 0"))=none:=by
 obtain⟨c0,c1,c2,c3,c4,c5,c6,c7,c8,c9,c10,c11,c12,c13,c14,c15,c16,c17,c18,c19,c20,c21,c22,c23,c24,c25,c26,c27,c28,c29,c30,c31,c32,c33,c34,c35,c36,cY,cj,ck⟩:=wl
 exact bV.r (v:=([49]++43::ak n)++[32,61,32,48]) ((iz (d:=43) (by simp) (by decide) (iJ (u:=[49,43]) (by decide) (ki hn)) (aQ (by decide)) (CA hn (u:=[49]) (by decide) (by decide+kernel))).t) (by simp[aI,c9,c17,aq,atT,bb,aK,cX])
theorem T2 {n m a:Str} (hn:nameB au n=true) (hm:nameB au m=true) (ha:nameB aG a=true):aM (((n++(Str.ofString "+"))++n)++(Str.ofString " = 0"))=none:=by
 obtain⟨c0,c1,c2,c3,c4,c5,c6,c7,c8,c9,c10,c11,c12,c13,c14,c15,c16,c17,c18,c19,c20,c21,c22,c23,c24,c25,c26,c27,c28,c29,c30,c31,c32,c33,c34,c35,c36,cY,cj,ck⟩:=wl
 exact bV.r (v:=(ak n++43::ak n)++[32,61,32,48]) ((iz (d:=43) (by simp) (by decide) (iJ (ki hn) (iJ (u:=[43]) (by decide) (ki hn))) (aQ (by decide)) (K5 hn)).t) (by simp[aI,c9,c12,aq,atT,bb,aK,cX])
theorem T3 {n m a:Str} (hn:nameB au n=true) (hm:nameB au m=true) (ha:nameB aG a=true):aM (n++(Str.ofString "2 = 0"))=none:=by
 obtain⟨c0,c1,c2,c3,c4,c5,c6,c7,c8,c9,c10,c11,c12,c13,c14,c15,c16,c17,c18,c19,c20,c21,c22,c23,c24,c25,c26,c27,c28,c29,c30,c31,c32,c33,c34,c35,c36,cY,cj,ck⟩:=wl
 exact bV.r (v:=(ak n++[50])++[32,61,32,48]) ((iz (d:=50) (by simp) (by decide) (iJ (ki hn) (by decide)) (aQ (by decide)) (by obtain⟨c,l,e,h1,h2⟩:=iS hn;exact yb (c:=c) (d:=50) (l:=l++[50]) (by simp[i8 hn]) (by have:=pM hn (u:=[]) (v:=[50]);exact this) (by rw[e];rfl) (by omega) (by simp) (by decide))).t) (by simp[aI,c18,aq,atT,bb,aK,cX])
theorem T4 {n m a:Str} (hn:nameB au n=true) (hm:nameB au m=true) (ha:nameB aG a=true):aM (((Str.ofString "2 ")++n)++(Str.ofString " = 0"))=none:=by
 obtain⟨c0,c1,c2,c3,c4,c5,c6,c7,c8,c9,c10,c11,c12,c13,c14,c15,c16,c17,c18,c19,c20,c21,c22,c23,c24,c25,c26,c27,c28,c29,c30,c31,c32,c33,c34,c35,c36,cY,cj,ck⟩:=wl
 exact bV.r (v:=aX ⟨2,[]⟩++(32::(ak n++[32,61,32,48]))) ((Am NA (aQ (by decide)) (by obtain⟨c,l,e,h1,h2⟩:=iS hn;rw[e];simp[List.isPrefixOf];omega) (by obtain⟨c,l,e,h1,h2⟩:=iS hn;rw[e];simp[List.isPrefixOf];omega)).t) (by simp[aI,c9,c19,aq,atT,bb,aK,cX])
theorem T5 {n m a:Str} (hn:nameB au n=true) (hm:nameB au m=true) (ha:nameB aG a=true):aM ((((a++(Str.ofString "["))++n)++(Str.ofString "]")))=none:=by
 obtain⟨c0,c1,c2,c3,c4,c5,c6,c7,c8,c9,c10,c11,c12,c13,c14,c15,c16,c17,c18,c19,c20,c21,c22,c23,c24,c25,c26,c27,c28,c29,c30,c31,c32,c33,c34,c35,c36,cY,cj,ck⟩:=wl
 exact bV.r (v:=atT a (jA n)++[]) ((qx ha (gb hn).1 rfl rfl).t) (by simp[aI,c22,cj,ck,aq,atT,bb,aK,cX])
theorem T6 {n m a:Str} (hn:nameB au n=true) (hm:nameB au m=true) (ha:nameB aG a=true):aM (((((a++(Str.ofString "["))++n)++(Str.ofString "]")))++(Str.ofString " = 10"))=none:=by
 obtain⟨c0,c1,c2,c3,c4,c5,c6,c7,c8,c9,c10,c11,c12,c13,c14,c15,c16,c17,c18,c19,c20,c21,c22,c23,c24,c25,c26,c27,c28,c29,c30,c31,c32,c33,c34,c35,c36,cY,cj,ck⟩:=wl
 exact bV.r (v:=atT a (jA n)++([32,61,32]++49::[48])) (xR ha (gb hn).1 (by decide) (by simp)) (by simp[aI,c20,c22,cj,ck,aq,atT,bb,aK,cX])
theorem T7 {n m a:Str} (hn:nameB au n=true) (hm:nameB au m=true) (ha:nameB aG a=true):aM (((((a++(Str.ofString "["))++n)++(Str.ofString "]")))++(Str.ofString " = "))=none:=by
 obtain⟨c0,c1,c2,c3,c4,c5,c6,c7,c8,c9,c10,c11,c12,c13,c14,c15,c16,c17,c18,c19,c20,c21,c22,c23,c24,c25,c26,c27,c28,c29,c30,c31,c32,c33,c34,c35,c36,cY,cj,ck⟩:=wl
 exact bV.r (v:=atT a (jA n)++([32,61,32]++[])) ((An ha (gb hn).1 rfl).t) (by simp[aI,c5,c22,cj,ck,aq,atT,bb,aK,cX])
theorem T8 {n m a:Str} (hn:nameB au n=true) (hm:nameB au m=true) (ha:nameB aG a=true):aM ((((((a++(Str.ofString "["))++n)++(Str.ofString "]")))++(Str.ofString " = "))++m)=none:=by
 obtain⟨c0,c1,c2,c3,c4,c5,c6,c7,c8,c9,c10,c11,c12,c13,c14,c15,c16,c17,c18,c19,c20,c21,c22,c23,c24,c25,c26,c27,c28,c29,c30,c31,c32,c33,c34,c35,c36,cY,cj,ck⟩:=wl
 exact bV.r (v:=atT a (jA n)++([32,61,32]++ak m)) ((An ha (gb hn).1 (by obtain⟨c,l,e,h1,h2⟩:=iS hm;rw[e];unfold k_;dsimp only;rw[if_neg (fun q=>by have:=dO.mp q;omega)])).t) (by simp[aI,c5,c22,cj,ck,aq,atT,bb,aK,cX])
theorem T9 {n m a:Str} (hn:nameB au n=true) (hm:nameB au m=true) (ha:nameB aG a=true):aM (a++(Str.ofString "[] = 0"))=none:=by
 obtain⟨c0,c1,c2,c3,c4,c5,c6,c7,c8,c9,c10,c11,c12,c13,c14,c15,c16,c17,c18,c19,c20,c21,c22,c23,c24,c25,c26,c27,c28,c29,c30,c31,c32,c33,c34,c35,c36,cY,cj,ck⟩:=wl
 exact bV.r (v:=ak a++91::([]++93::[32,61,32,48])) ((tf ha (Iw ha (u:=[]) (by simp) (aQ (by decide)) (by decide+kernel))).t) (by simp[aI,c21,aq,atT,bb,aK,cX])
theorem Ua {n m a:Str} (hn:nameB au n=true) (hm:nameB au m=true) (ha:nameB aG a=true):aM (((a++(Str.ofString "["))++n)++(Str.ofString " = 0"))=none:=by
 obtain⟨c0,c1,c2,c3,c4,c5,c6,c7,c8,c9,c10,c11,c12,c13,c14,c15,c16,c17,c18,c19,c20,c21,c22,c23,c24,c25,c26,c27,c28,c29,c30,c31,c32,c33,c34,c35,c36,cY,cj,ck⟩:=wl
 exact bV.r (v:=ak a++91::(aX (jA n)++[32,61,32,48])) ((tf ha (Iy ha (gb hn).1 (aQ (by decide)) rfl)).t) (by simp[aI,c9,c22,aq,atT,bb,aK,cX])
theorem Ub {n m a:Str} (hn:nameB au n=true) (hm:nameB au m=true) (ha:nameB aG a=true):aM ((a++n)++(Str.ofString "] = 0"))=none:=by
 obtain⟨c0,c1,c2,c3,c4,c5,c6,c7,c8,c9,c10,c11,c12,c13,c14,c15,c16,c17,c18,c19,c20,c21,c22,c23,c24,c25,c26,c27,c28,c29,c30,c31,c32,c33,c34,c35,c36,cY,cj,ck⟩:=wl
 exact bV.r (v:=ak a++(ak n++93::[32,61,32,48])) ((tf ha (uw ha (by obtain⟨c,l,e,h1,h2⟩:=iS hn;rw[e];exact aQ (by cases q:bu c with | false=>rfl | true=>have:=gn.mp q;omega)) (by obtain⟨c,l,e,h1,h2⟩:=iS hn;rw[e];simp[List.isPrefixOf];omega))).t) (by simp[aI,c23,aq,atT,bb,aK,cX])
theorem Uc {n m a:Str} (hn:nameB au n=true) (hm:nameB au m=true) (ha:nameB aG a=true):aM (((a++(Str.ofString " ["))++n)++(Str.ofString "] = 0"))=none:=by
 obtain⟨c0,c1,c2,c3,c4,c5,c6,c7,c8,c9,c10,c11,c12,c13,c14,c15,c16,c17,c18,c19,c20,c21,c22,c23,c24,c25,c26,c27,c28,c29,c30,c31,c32,c33,c34,c35,c36,cY,cj,ck⟩:=wl
 exact bV.r (v:=ak a++(32::91::(ak n++93::[32,61,32,48]))) ((tf ha (uw ha (aQ (by decide)) rfl)).t) (by simp[aI,c23,c24,aq,atT,bb,aK,cX])
theorem Ud {n m a:Str} (hn:nameB au n=true) (hm:nameB au m=true) (ha:nameB aG a=true):aM (((((a++(Str.ofString "["))++n)++(Str.ofString "]")))++(Str.ofString "= 0"))=none:=by
 obtain⟨c0,c1,c2,c3,c4,c5,c6,c7,c8,c9,c10,c11,c12,c13,c14,c15,c16,c17,c18,c19,c20,c21,c22,c23,c24,c25,c26,c27,c28,c29,c30,c31,c32,c33,c34,c35,c36,cY,cj,ck⟩:=wl
 exact bV.r (v:=atT a (jA n)++[61,32,48]) ((qx ha (gb hn).1 rfl rfl).t) (by simp[aI,c25,c22,cj,ck,aq,atT,bb,aK,cX])
theorem Ue {n m a:Str} (hn:nameB au n=true) (hm:nameB au m=true) (ha:nameB aG a=true):aM (((((a++(Str.ofString "["))++n)++(Str.ofString "]")))++(Str.ofString " < 0"))=none:=by
 obtain⟨c0,c1,c2,c3,c4,c5,c6,c7,c8,c9,c10,c11,c12,c13,c14,c15,c16,c17,c18,c19,c20,c21,c22,c23,c24,c25,c26,c27,c28,c29,c30,c31,c32,c33,c34,c35,c36,cY,cj,ck⟩:=wl
 exact bV.r (v:=atT a (jA n)++[32,60,32,48]) ((qx ha (gb hn).1 rfl rfl).t) (by simp[aI,c26,c22,cj,ck,aq,atT,bb,aK,cX])
theorem Ug {n m a:Str} (hn:nameB au n=true) (hm:nameB au m=true) (ha:nameB aG a=true):aM (((Str.ofString "[")++n)++(Str.ofString "] = 0"))=none:=by
 obtain⟨c0,c1,c2,c3,c4,c5,c6,c7,c8,c9,c10,c11,c12,c13,c14,c15,c16,c17,c18,c19,c20,c21,c22,c23,c24,c25,c26,c27,c28,c29,c30,c31,c32,c33,c34,c35,c36,cY,cj,ck⟩:=wl
 exact bV.r (v:=91::(ak n++93::[32,61,32,48])) ((sC (by decide) (by decide) (by decide)).t) (by simp[aI,c23,c22,aq,atT,bb,aK,cX])
theorem Uh {n m a:Str} (hn:nameB au n=true) (hm:nameB au m=true) (ha:nameB aG a=true):aM (((a++(Str.ofString "[0]")))++(Str.ofString " ~ 0"))=none:=by
 obtain⟨c0,c1,c2,c3,c4,c5,c6,c7,c8,c9,c10,c11,c12,c13,c14,c15,c16,c17,c18,c19,c20,c21,c22,c23,c24,c25,c26,c27,c28,c29,c30,c31,c32,c33,c34,c35,c36,cY,cj,ck⟩:=wl
 exact bV.r (v:=atT a ⟨0,[]⟩++([32,126,32]++[48])) ((xr ha iy.1 (by decide+kernel)).t) (by simp[aI,c27,c22,cj,ck,aq,atT,bb,aK,cX])
theorem Ui {n m a:Str} (hn:nameB au n=true) (hm:nameB au m=true) (ha:nameB aG a=true):aM ((((a++(Str.ofString "[0]")))++(Str.ofString " ~ "))++a)=none:=by
 obtain⟨c0,c1,c2,c3,c4,c5,c6,c7,c8,c9,c10,c11,c12,c13,c14,c15,c16,c17,c18,c19,c20,c21,c22,c23,c24,c25,c26,c27,c28,c29,c30,c31,c32,c33,c34,c35,c36,cY,cj,ck⟩:=wl
 exact bV.r (v:=atT a ⟨0,[]⟩++([32,126,32]++(ak a++[]))) ((xr ha iy.1 (uw ha jV rfl)).t) (by simp[aI,c28,c22,cj,ck,aq,atT,bb,aK,cX])
theorem Uj {n m a:Str} (hn:nameB au n=true) (hm:nameB au m=true) (ha:nameB aG a=true):aM (((((a++(Str.ofString "[0]")))++(Str.ofString " ~ "))++((a++(Str.ofString "[0]"))))++(Str.ofString " = 0"))=none:=by
 obtain⟨c0,c1,c2,c3,c4,c5,c6,c7,c8,c9,c10,c11,c12,c13,c14,c15,c16,c17,c18,c19,c20,c21,c22,c23,c24,c25,c26,c27,c28,c29,c30,c31,c32,c33,c34,c35,c36,cY,cj,ck⟩:=wl
 exact bV.r (v:=aq (.alike a ⟨0,[]⟩ a ⟨0,[]⟩)++[32,61,32,48]) (uv rfl ⟨ha,iy.1,ha,iy.1⟩ (aQ (by decide)) (by simp)) (by simp[aI,c9,c28,c22,cj,ck,aq,atT,bb,aK,cX])
theorem Uk {n m a:Str} (hn:nameB au n=true) (hm:nameB au m=true) (ha:nameB aG a=true):aM ((((a++(Str.ofString "[0]")))++(Str.ofString "~"))++((a++(Str.ofString "[0]"))))=none:=by
 obtain⟨c0,c1,c2,c3,c4,c5,c6,c7,c8,c9,c10,c11,c12,c13,c14,c15,c16,c17,c18,c19,c20,c21,c22,c23,c24,c25,c26,c27,c28,c29,c30,c31,c32,c33,c34,c35,c36,cY,cj,ck⟩:=wl
 exact bV.r (v:=atT a ⟨0,[]⟩++126::atT a ⟨0,[]⟩) ((qx ha iy.1 rfl rfl).t) (by simp[aI,c29,c22,cj,ck,aq,atT,bb,aK,cX])
theorem Ul {n m a:Str} (hn:nameB au n=true) (hm:nameB au m=true) (ha:nameB aG a=true):aM (((Str.ofString "(")++n)++(Str.ofString " = 0)"))=none:=by
 obtain⟨c0,c1,c2,c3,c4,c5,c6,c7,c8,c9,c10,c11,c12,c13,c14,c15,c16,c17,c18,c19,c20,c21,c22,c23,c24,c25,c26,c27,c28,c29,c30,c31,c32,c33,c34,c35,c36,cY,cj,ck⟩:=wl
 exact bV.r (v:=40::(aq (.same (jA n) ⟨0,[]⟩)++[41])) ((K6 (f:=.same (jA n) ⟨0,[]⟩) rfl ⟨(gb hn).1,iy.1⟩).t) (by simp[aI,c30,c31,aq,atT,bb,aK,cX])
theorem Um {n m a:Str} (hn:nameB au n=true) (hm:nameB au m=true) (ha:nameB aG a=true):aM ((Str.ofString "some ")++n)=none:=by
 obtain⟨c0,c1,c2,c3,c4,c5,c6,c7,c8,c9,c10,c11,c12,c13,c14,c15,c16,c17,c18,c19,c20,c21,c22,c23,c24,c25,c26,c27,c28,c29,c30,c31,c32,c33,c34,c35,c36,cY,cj,ck⟩:=wl
 exact bV.r (v:=[115,111,109,101,32]++(ak n++[])) ((qv (pN hn jV rfl).1).t) (by simp[aI,c32,aq,atT,bb,aK,cX])
theorem Uo {n m a:Str} (hn:nameB au n=true) (hm:nameB au m=true) (ha:nameB aG a=true):aM (((Str.ofString "some ")++n)++(Str.ofString " "))=none:=by
 obtain⟨c0,c1,c2,c3,c4,c5,c6,c7,c8,c9,c10,c11,c12,c13,c14,c15,c16,c17,c18,c19,c20,c21,c22,c23,c24,c25,c26,c27,c28,c29,c30,c31,c32,c33,c34,c35,c36,cY,cj,ck⟩:=wl
 exact bV.r (v:=[115,111,109,101,32]++(ak n++32::[])) ((xq (uZ hn) Cz).t) (by simp[aI,c4,c32,aq,atT,bb,aK,cX])
theorem Up {n m a:Str} (hn:nameB au n=true) (hm:nameB au m=true) (ha:nameB aG a=true):aM (((Str.ofString "each ")++n)++(Str.ofString "0 = 0"))=none:=by
 obtain⟨c0,c1,c2,c3,c4,c5,c6,c7,c8,c9,c10,c11,c12,c13,c14,c15,c16,c17,c18,c19,c20,c21,c22,c23,c24,c25,c26,c27,c28,c29,c30,c31,c32,c33,c34,c35,c36,cY,cj,ck⟩:=wl
 exact bV.r (v:=[101,97,99,104,32]++(ak n++48::[32,61,32,48])) ((qv (pN hn (aQ (by decide)) rfl).2).t) (by simp[aI,c33,c34,aq,atT,bb,aK,cX])
theorem Uq {n m a:Str} (hn:nameB au n=true) (hm:nameB au m=true) (ha:nameB aG a=true):aM (((Str.ofString "every ")++n)++(Str.ofString " 0 = 0"))=none:=by
 obtain⟨c0,c1,c2,c3,c4,c5,c6,c7,c8,c9,c10,c11,c12,c13,c14,c15,c16,c17,c18,c19,c20,c21,c22,c23,c24,c25,c26,c27,c28,c29,c30,c31,c32,c33,c34,c35,c36,cY,cj,ck⟩:=wl
 exact bV.r (v:=[101,118,101,114,121]++32::(ak n++32::48::[32,61,32,48])) ((oO (by decide) (aQ (by decide)) (by decide) (by decide) (by decide) (.inl (by decide)) (by decide+kernel)).t) (by simp[aI,c35,c36,aq,atT,bb,aK,cX])
theorem Ur {n m a:Str} (hn:nameB au n=true) (hm:nameB au m=true) (ha:nameB aG a=true):aM (((Str.ofString "some  ")++n)++(Str.ofString " 0 = 0"))=none:=by
 obtain⟨c0,c1,c2,c3,c4,c5,c6,c7,c8,c9,c10,c11,c12,c13,c14,c15,c16,c17,c18,c19,c20,c21,c22,c23,c24,c25,c26,c27,c28,c29,c30,c31,c32,c33,c34,c35,c36,cY,cj,ck⟩:=wl
 exact bV.r (v:=[115,111,109,101,32]++32::(ak n++32::48::[32,61,32,48])) ((qv vh).t) (by simp[aI,c35,cY,aq,atT,bb,aK,cX])
theorem wb0:aM (Str.ofString "")=none:=by decide+kernel
theorem wb1:aM (Str.ofString " ")=none:=by decide+kernel
theorem Us:aM (Str.ofString "00 = 0")=none:=by decide+kernel
theorem Ut:aM (Str.ofString "01 = 0")=none:=by decide+kernel
theorem Uu:aM (Str.ofString "100 = 0")=none:=by decide+kernel
theorem Uv:aM (Str.ofString "-1 = 0")=none:=by decide+kernel
theorem Uw:aM (Str.ofString "+1 = 0")=none:=by decide+kernel
theorem Ux:aM (Str.ofString "1_0 = 0")=none:=by decide+kernel
theorem Uy:aM (Str.ofString "1+1 = 0")=none:=by decide+kernel
theorem Uz:aM (Str.ofString "not = 0")=none:=by decide+kernel
theorem UA:aM (Str.ofString "and = 0")=none:=by decide+kernel
theorem UB:aM (Str.ofString "some = 0")=none:=by decide+kernel
theorem UC:aM (Str.ofString "abcd = 0")=none:=by decide+kernel
theorem UD:aM (Str.ofString "N = 0")=none:=by decide+kernel
theorem UE:aM (Str.ofString "nM = 0")=none:=by decide+kernel
theorem UG:aM (Str.ofString "ABCD[0] = 0")=none:=by decide+kernel
theorem UH:aM (Str.ofString "(0 = 0 and 0 = 0")=none:=by decide+kernel
theorem UI:aM (Str.ofString "0 = 0 and 0 = 0")=none:=by decide+kernel
theorem UJ:aM (Str.ofString "(0 = 0 and 0 = 0))")=none:=by decide+kernel
theorem UK:aM (Str.ofString "(0 = 0  and 0 = 0)")=none:=by decide+kernel
theorem UL:aM (Str.ofString "(0 = 0 nor 0 = 0)")=none:=by decide+kernel
theorem UM:aM (Str.ofString "(0 = 0 and 0 = 0 and 0 = 0)")=none:=by decide+kernel
theorem UN:aM (Str.ofString "(0 = 0 AND 0 = 0)")=none:=by decide+kernel
theorem UO:aM (Str.ofString "( 0 = 0 and 0 = 0)")=none:=by decide+kernel
theorem UP:aM (Str.ofString "()")=none:=by decide+kernel
theorem UQ:aM (Str.ofString "not")=none:=by decide+kernel
theorem UR:aM (Str.ofString "not ")=none:=by decide+kernel
theorem US:aM (Str.ofString "not(0 = 0 and 0 = 0)")=none:=by decide+kernel
theorem UT:aM (Str.ofString "not  0 = 0")=none:=by decide+kernel
theorem UU:aM (Str.ofString "some 0 = 0")=none:=by decide+kernel
theorem UW:aM (Str.ofString "some or 0 = 0")=none:=by decide+kernel
theorem UX:aM (Str.ofString "each abcd 0 = 0")=none:=by decide+kernel
theorem UY:aM (Str.ofString "each N 0 = 0")=none:=by decide+kernel
theorem UZ:aM (Str.ofString "0 = 0;")=none:=by decide+kernel
theorem U_:aM (Str.ofString "not not")=none:=by decide+kernel
theorem U0:aM (Str.ofString "((((((((((((((((((((")=none:=by decide+kernel
theorem U1:Bd (Txt.mul (Str.ofString "not ") 700):=by
 have l0:(Str.ofString "not ").length=4:=by decide+kernel
 have c0:ak (Str.ofString "not ")=[110,111,116,32]:=by decide+kernel
 have em:=Gh (Str.ofString "not ") 700 (by rw[l0];decide)
 rw[c0] at em
 have em:ak (Txt.mul (Str.ofString "not ") 700)=(List.replicate 700 [110,111,116,32]).flatten:=em
 refine⟨⟨⟨fun c hc=>?_,?_⟩,fun k=>by rw[em];exact CB 700 k⟩,bV.r (Ap 700).t em⟩
 ·have hc:c∈ak (Txt.mul (Str.ofString "not ") 700):=hc
  rw[em] at hc
  obtain⟨l,h1,h2⟩:=List.mem_flatten.mp hc
  rw[List.eq_of_mem_replicate h1] at h2
  simp at h2
  omega
 ·rw[bC,em,List.length_flatten,List.map_replicate,List.sum_replicate_nat]
  show 700*4≤100000
  decide
theorem U2:aM (Str.ofString "0 = 0 | 0 = 0")=none:=by decide+kernel
def SmL:Prop:=Sm 0 (Str.ofString "")∧Sm 1 (Str.ofString " ")∧Sm 2 (Str.ofString " =")∧Sm 2 (Str.ofString "= ")∧Sm 1 (Str.ofString "=")∧Sm 4 (Str.ofString "  = ")∧Sm 3 (Str.ofString " = ")∧Sm 4 (Str.ofString " == ")∧Sm 4 (Str.ofString " <= ")∧Sm 3 (Str.ofString " > ")∧Sm 4 (Str.ofString " = 0")∧Sm 8 (Str.ofString " + 1 = 0")∧Sm 5 (Str.ofString "+ = 0")∧Sm 1 (Str.ofString "+")∧Sm 6 (Str.ofString "+0 = 0")∧Sm 6 (Str.ofString "00 = 0")∧Sm 6 (Str.ofString "01 = 0")∧Sm 7 (Str.ofString "100 = 0")∧Sm 1 (Str.ofString "1")∧Sm 1 (Str.ofString "0")∧Sm 2 (Str.ofString "10")∧Sm 2 (Str.ofString "1+")∧Sm 5 (Str.ofString "2 = 0")∧Sm 2 (Str.ofString "2 ")∧Sm 6 (Str.ofString "-1 = 0")∧Sm 6 (Str.ofString "+1 = 0")∧Sm 7 (Str.ofString "1_0 = 0")∧Sm 7 (Str.ofString "1+1 = 0")∧Sm 7 (Str.ofString "not = 0")∧Sm 7 (Str.ofString "and = 0")∧Sm 8 (Str.ofString "some = 0")∧Sm 8 (Str.ofString "abcd = 0")∧Sm 5 (Str.ofString "N = 0")∧Sm 6 (Str.ofString "nM = 0")∧Sm 1 (Str.ofString "[")∧Sm 1 (Str.ofString "]")∧Sm 5 (Str.ofString " = 10")∧Sm 6 (Str.ofString "[] = 0")∧Sm 5 (Str.ofString "] = 0")∧Sm 2 (Str.ofString " [")∧Sm 3 (Str.ofString "= 0")∧Sm 4 (Str.ofString " < 0")∧Sm 11 (Str.ofString "ABCD[0] = 0")∧Sm 3 (Str.ofString "[0]")∧Sm 4 (Str.ofString " ~ 0")∧Sm 3 (Str.ofString " ~ ")∧Sm 1 (Str.ofString "~")∧Sm 1 (Str.ofString "(")∧Sm 5 (Str.ofString " = 0)")∧Sm 16 (Str.ofString "(0 = 0 and 0 = 0")∧Sm 15 (Str.ofString "0 = 0 and 0 = 0")∧Sm 18 (Str.ofString "(0 = 0 and 0 = 0))")∧Sm 18 (Str.ofString "(0 = 0  and 0 = 0)")∧Sm 17 (Str.ofString "(0 = 0 nor 0 = 0)")∧Sm 27 (Str.ofString "(0 = 0 and 0 = 0 and 0 = 0)")∧Sm 17 (Str.ofString "(0 = 0 AND 0 = 0)")∧Sm 18 (Str.ofString "( 0 = 0 and 0 = 0)")∧Sm 2 (Str.ofString "()")∧Sm 3 (Str.ofString "not")∧Sm 4 (Str.ofString "not ")∧Sm 20 (Str.ofString "not(0 = 0 and 0 = 0)")∧Sm 10 (Str.ofString "not  0 = 0")∧Sm 10 (Str.ofString "some 0 = 0")∧Sm 5 (Str.ofString "some ")∧Sm 13 (Str.ofString "some or 0 = 0")∧Sm 15 (Str.ofString "each abcd 0 = 0")∧Sm 5 (Str.ofString "each ")∧Sm 5 (Str.ofString "0 = 0")∧Sm 12 (Str.ofString "each N 0 = 0")∧Sm 6 (Str.ofString "every ")∧Sm 6 (Str.ofString " 0 = 0")∧Sm 6 (Str.ofString "some  ")∧Sm 6 (Str.ofString "0 = 0;")∧Sm 7 (Str.ofString "not not")∧Sm 20 (Str.ofString "((((((((((((((((((((")∧Sm 13 (Str.ofString "0 = 0 | 0 = 0")
theorem m6:SmL:=⟨⟨by decide+kernel,by decide+kernel⟩,⟨by decide+kernel,by decide+kernel⟩,⟨by decide+kernel,by decide+kernel⟩,⟨by decide+kernel,by decide+kernel⟩,⟨by decide+kernel,by decide+kernel⟩,⟨by decide+kernel,by decide+kernel⟩,⟨by decide+kernel,by decide+kernel⟩,⟨by decide+kernel,by decide+kernel⟩,⟨by decide+kernel,by decide+kernel⟩,⟨by decide+kernel,by decide+kernel⟩,⟨by decide+kernel,by decide+kernel⟩,⟨by decide+kernel,by decide+kernel⟩,⟨by decide+kernel,by decide+kernel⟩,⟨by decide+kernel,by decide+kernel⟩,⟨by decide+kernel,by decide+kernel⟩,⟨by decide+kernel,by decide+kernel⟩,⟨by decide+kernel,by decide+kernel⟩,⟨by decide+kernel,by decide+kernel⟩,⟨by decide+kernel,by decide+kernel⟩,⟨by decide+kernel,by decide+kernel⟩,⟨by decide+kernel,by decide+kernel⟩,⟨by decide+kernel,by decide+kernel⟩,⟨by decide+kernel,by decide+kernel⟩,⟨by decide+kernel,by decide+kernel⟩,⟨by decide+kernel,by decide+kernel⟩,⟨by decide+kernel,by decide+kernel⟩,⟨by decide+kernel,by decide+kernel⟩,⟨by decide+kernel,by decide+kernel⟩,⟨by decide+kernel,by decide+kernel⟩,⟨by decide+kernel,by decide+kernel⟩,⟨by decide+kernel,by decide+kernel⟩,⟨by decide+kernel,by decide+kernel⟩,⟨by decide+kernel,by decide+kernel⟩,⟨by decide+kernel,by decide+kernel⟩,⟨by decide+kernel,by decide+kernel⟩,⟨by decide+kernel,by decide+kernel⟩,⟨by decide+kernel,by decide+kernel⟩,⟨by decide+kernel,by decide+kernel⟩,⟨by decide+kernel,by decide+kernel⟩,⟨by decide+kernel,by decide+kernel⟩,⟨by decide+kernel,by decide+kernel⟩,⟨by decide+kernel,by decide+kernel⟩,⟨by decide+kernel,by decide+kernel⟩,⟨by decide+kernel,by decide+kernel⟩,⟨by decide+kernel,by decide+kernel⟩,⟨by decide+kernel,by decide+kernel⟩,⟨by decide+kernel,by decide+kernel⟩,⟨by decide+kernel,by decide+kernel⟩,⟨by decide+kernel,by decide+kernel⟩,⟨by decide+kernel,by decide+kernel⟩,⟨by decide+kernel,by decide+kernel⟩,⟨by decide+kernel,by decide+kernel⟩,⟨by decide+kernel,by decide+kernel⟩,⟨by decide+kernel,by decide+kernel⟩,⟨by decide+kernel,by decide+kernel⟩,⟨by decide+kernel,by decide+kernel⟩,⟨by decide+kernel,by decide+kernel⟩,⟨by decide+kernel,by decide+kernel⟩,⟨by decide+kernel,by decide+kernel⟩,⟨by decide+kernel,by decide+kernel⟩,⟨by decide+kernel,by decide+kernel⟩,⟨by decide+kernel,by decide+kernel⟩,⟨by decide+kernel,by decide+kernel⟩,⟨by decide+kernel,by decide+kernel⟩,⟨by decide+kernel,by decide+kernel⟩,⟨by decide+kernel,by decide+kernel⟩,⟨by decide+kernel,by decide+kernel⟩,⟨by decide+kernel,by decide+kernel⟩,⟨by decide+kernel,by decide+kernel⟩,⟨by decide+kernel,by decide+kernel⟩,⟨by decide+kernel,by decide+kernel⟩,⟨by decide+kernel,by decide+kernel⟩,⟨by decide+kernel,by decide+kernel⟩,⟨by decide+kernel,by decide+kernel⟩,⟨by decide+kernel,by decide+kernel⟩,⟨by decide+kernel,by decide+kernel⟩⟩
theorem PR {n m a:Str} (hn':nameB au n=true) (hm':nameB au m=true) (ha':nameB aG a=true):∀z∈w0 n m a,Bd z:=by
 obtain⟨q0,q1,q2,q3,q4,q5,q6,q7,q8,q9,dF,lF,lG,iK,lH,m7,m8,m9,kI,kJ,kK,kL,lI,kM,ng,nh,nj,nq,nu,ny,nz,nB,nC,nE,dR,gc,lJ,lK,i9,jB,lL,lM,nG,eQ,lN,iL,kN,kO,lO,nH,nI,nJ,nK,nL,nN,nO,nP,nQ,nR,nS,nT,nU,nV,jy,nW,nX,kP,lP,nY,kQ,jC,kR,nZ,n_,n4,n5⟩:=m6
 have hn:=cu hn'
 have hm:=cu hm'
 have ha:=gs ha'
 unfold w0
 exact(List.forall_mem_cons.mpr ⟨⟨Sm.asc q0,wb0⟩,(List.forall_mem_cons.mpr ⟨⟨Sm.asc q1,wb1⟩,(List.forall_mem_cons.mpr ⟨⟨Sm.asc hn,wb2 hn' hm' ha'⟩,(List.forall_mem_cons.mpr ⟨⟨Sm.asc (Sm.app hn q2),wb3 hn' hm' ha'⟩,(List.forall_mem_cons.mpr ⟨⟨Sm.asc (Sm.app q3 hn),wb4 hn' hm' ha'⟩,(List.forall_mem_cons.mpr ⟨⟨Sm.asc (Sm.app (Sm.app hn q4) hm),wb5 hn' hm' ha'⟩,(List.forall_mem_cons.mpr ⟨⟨Sm.asc (Sm.app (Sm.app hn q5) hm),wb6 hn' hm' ha'⟩,(List.forall_mem_cons.mpr ⟨⟨Sm.asc (Sm.app (Sm.app (Sm.app hn q6) hm) q1),wb7 hn' hm' ha'⟩,(List.forall_mem_cons.mpr ⟨⟨Sm.asc (Sm.app (Sm.app (Sm.app q1 hn) q6) hm),wb8 hn' hm' ha'⟩,(fun z h=>nomatch h)⟩)⟩)⟩)⟩)⟩)⟩)⟩)⟩)⟩)
theorem PU {n m a:Str} (hn':nameB au n=true) (hm':nameB au m=true) (ha':nameB aG a=true):∀z∈w1 n m a,Bd z:=by
 obtain⟨q0,q1,q2,q3,q4,q5,q6,q7,q8,q9,dF,lF,lG,iK,lH,m7,m8,m9,kI,kJ,kK,kL,lI,kM,ng,nh,nj,nq,nu,ny,nz,nB,nC,nE,dR,gc,lJ,lK,i9,jB,lL,lM,nG,eQ,lN,iL,kN,kO,lO,nH,nI,nJ,nK,nL,nN,nO,nP,nQ,nR,nS,nT,nU,nV,jy,nW,nX,kP,lP,nY,kQ,jC,kR,nZ,n_,n4,n5⟩:=m6
 have hn:=cu hn'
 have hm:=cu hm'
 have ha:=gs ha'
 unfold w1
 exact(List.forall_mem_cons.mpr ⟨⟨Sm.asc (Sm.app (Sm.app hn q7) hm),wb9 hn' hm' ha'⟩,(List.forall_mem_cons.mpr ⟨⟨Sm.asc (Sm.app (Sm.app hn q8) hm),TF hn' hm' ha'⟩,(List.forall_mem_cons.mpr ⟨⟨Sm.asc (Sm.app (Sm.app hn q9) hm),TH hn' hm' ha'⟩,(List.forall_mem_cons.mpr ⟨⟨Sm.asc (Sm.app (Sm.app (Sm.app hn q6) hm) dF),TK hn' hm' ha'⟩,(List.forall_mem_cons.mpr ⟨⟨Sm.asc (Sm.app hn lF),TL hn' hm' ha'⟩,(List.forall_mem_cons.mpr ⟨⟨Sm.asc (Sm.app hn lG),TN hn' hm' ha'⟩,(fun z h=>nomatch h)⟩)⟩)⟩)⟩)⟩)⟩)
theorem PV {n m a:Str} (hn':nameB au n=true) (hm':nameB au m=true) (ha':nameB aG a=true):∀z∈w2 n m a,Bd z:=by
 obtain⟨q0,q1,q2,q3,q4,q5,q6,q7,q8,q9,dF,lF,lG,iK,lH,m7,m8,m9,kI,kJ,kK,kL,lI,kM,ng,nh,nj,nq,nu,ny,nz,nB,nC,nE,dR,gc,lJ,lK,i9,jB,lL,lM,nG,eQ,lN,iL,kN,kO,lO,nH,nI,nJ,nK,nL,nN,nO,nP,nQ,nR,nS,nT,nU,nV,jy,nW,nX,kP,lP,nY,kQ,jC,kR,nZ,n_,n4,n5⟩:=m6
 have hn:=cu hn'
 have hm:=cu hm'
 have ha:=gs ha'
 unfold w2
 exact(List.forall_mem_cons.mpr ⟨⟨Sm.asc (Sm.app (Sm.app iK hn) dF),TQ hn' hm' ha'⟩,(List.forall_mem_cons.mpr ⟨⟨Sm.asc (Sm.app hn lH),TR hn' hm' ha'⟩,(List.forall_mem_cons.mpr ⟨⟨Sm.asc m7,Us⟩,(List.forall_mem_cons.mpr ⟨⟨Sm.asc m8,Ut⟩,(List.forall_mem_cons.mpr ⟨⟨Sm.asc m9,Uu⟩,(List.forall_mem_cons.mpr ⟨⟨Sm.asc (Sm.app (Sm.app kI hn) dF),TU hn' hm' ha'⟩,(List.forall_mem_cons.mpr ⟨⟨Sm.asc (Sm.app (Sm.app kJ hn) dF),TV hn' hm' ha'⟩,(fun z h=>nomatch h)⟩)⟩)⟩)⟩)⟩)⟩)⟩)
theorem PX {n m a:Str} (hn':nameB au n=true) (hm':nameB au m=true) (ha':nameB aG a=true):∀z∈w3 n m a,Bd z:=by
 obtain⟨q0,q1,q2,q3,q4,q5,q6,q7,q8,q9,dF,lF,lG,iK,lH,m7,m8,m9,kI,kJ,kK,kL,lI,kM,ng,nh,nj,nq,nu,ny,nz,nB,nC,nE,dR,gc,lJ,lK,i9,jB,lL,lM,nG,eQ,lN,iL,kN,kO,lO,nH,nI,nJ,nK,nL,nN,nO,nP,nQ,nR,nS,nT,nU,nV,jy,nW,nX,kP,lP,nY,kQ,jC,kR,nZ,n_,n4,n5⟩:=m6
 have hn:=cu hn'
 have hm:=cu hm'
 have ha:=gs ha'
 unfold w3
 exact(List.forall_mem_cons.mpr ⟨⟨Sm.asc (Sm.app (Sm.app kK hn) dF),TY hn' hm' ha'⟩,(List.forall_mem_cons.mpr ⟨⟨Sm.asc (Sm.app (Sm.app kL hn) dF),T_ hn' hm' ha'⟩,(List.forall_mem_cons.mpr ⟨⟨Sm.asc (Sm.app (Sm.app (Sm.app hn iK) hn) dF),T2 hn' hm' ha'⟩,(List.forall_mem_cons.mpr ⟨⟨Sm.asc (Sm.app hn lI),T3 hn' hm' ha'⟩,(List.forall_mem_cons.mpr ⟨⟨Sm.asc (Sm.app (Sm.app kM hn) dF),T4 hn' hm' ha'⟩,(List.forall_mem_cons.mpr ⟨⟨Sm.asc ng,Uv⟩,(fun z h=>nomatch h)⟩)⟩)⟩)⟩)⟩)⟩)
theorem PY {n m a:Str} (hn':nameB au n=true) (hm':nameB au m=true) (ha':nameB aG a=true):∀z∈w4 n m a,Bd z:=by
 obtain⟨q0,q1,q2,q3,q4,q5,q6,q7,q8,q9,dF,lF,lG,iK,lH,m7,m8,m9,kI,kJ,kK,kL,lI,kM,ng,nh,nj,nq,nu,ny,nz,nB,nC,nE,dR,gc,lJ,lK,i9,jB,lL,lM,nG,eQ,lN,iL,kN,kO,lO,nH,nI,nJ,nK,nL,nN,nO,nP,nQ,nR,nS,nT,nU,nV,jy,nW,nX,kP,lP,nY,kQ,jC,kR,nZ,n_,n4,n5⟩:=m6
 have hn:=cu hn'
 have hm:=cu hm'
 have ha:=gs ha'
 unfold w4
 exact(List.forall_mem_cons.mpr ⟨⟨Sm.asc nh,Uw⟩,(List.forall_mem_cons.mpr ⟨⟨Sm.asc nj,Ux⟩,(List.forall_mem_cons.mpr ⟨⟨Sm.asc nq,Uy⟩,(List.forall_mem_cons.mpr ⟨⟨Sm.asc nu,Uz⟩,(List.forall_mem_cons.mpr ⟨⟨Sm.asc ny,UA⟩,(List.forall_mem_cons.mpr ⟨⟨Sm.asc nz,UB⟩,(List.forall_mem_cons.mpr ⟨⟨Sm.asc nB,UC⟩,(List.forall_mem_cons.mpr ⟨⟨Sm.asc nC,UD⟩,(List.forall_mem_cons.mpr ⟨⟨Sm.asc nE,UE⟩,(fun z h=>nomatch h)⟩)⟩)⟩)⟩)⟩)⟩)⟩)⟩)⟩)
theorem PZ {n m a:Str} (hn':nameB au n=true) (hm':nameB au m=true) (ha':nameB aG a=true):∀z∈w5 n m a,Bd z:=by
 obtain⟨q0,q1,q2,q3,q4,q5,q6,q7,q8,q9,dF,lF,lG,iK,lH,m7,m8,m9,kI,kJ,kK,kL,lI,kM,ng,nh,nj,nq,nu,ny,nz,nB,nC,nE,dR,gc,lJ,lK,i9,jB,lL,lM,nG,eQ,lN,iL,kN,kO,lO,nH,nI,nJ,nK,nL,nN,nO,nP,nQ,nR,nS,nT,nU,nV,jy,nW,nX,kP,lP,nY,kQ,jC,kR,nZ,n_,n4,n5⟩:=m6
 have hn:=cu hn'
 have hm:=cu hm'
 have ha:=gs ha'
 unfold w5
 exact(List.forall_mem_cons.mpr ⟨⟨Sm.asc (Sm.app (Sm.app (Sm.app ha dR) hn) gc),T5 hn' hm' ha'⟩,(List.forall_mem_cons.mpr ⟨⟨Sm.asc (Sm.app (Sm.app (Sm.app (Sm.app ha dR) hn) gc) lJ),T6 hn' hm' ha'⟩,(List.forall_mem_cons.mpr ⟨⟨Sm.asc (Sm.app (Sm.app (Sm.app (Sm.app ha dR) hn) gc) q6),T7 hn' hm' ha'⟩,(List.forall_mem_cons.mpr ⟨⟨Sm.asc (Sm.app (Sm.app (Sm.app (Sm.app (Sm.app ha dR) hn) gc) q6) hm),T8 hn' hm' ha'⟩,(List.forall_mem_cons.mpr ⟨⟨Sm.asc (Sm.app ha lK),T9 hn' hm' ha'⟩,(List.forall_mem_cons.mpr ⟨⟨Sm.asc (Sm.app (Sm.app (Sm.app ha dR) hn) dF),Ua hn' hm' ha'⟩,(fun z h=>nomatch h)⟩)⟩)⟩)⟩)⟩)⟩)
theorem P_ {n m a:Str} (hn':nameB au n=true) (hm':nameB au m=true) (ha':nameB aG a=true):∀z∈w6 n m a,Bd z:=by
 obtain⟨q0,q1,q2,q3,q4,q5,q6,q7,q8,q9,dF,lF,lG,iK,lH,m7,m8,m9,kI,kJ,kK,kL,lI,kM,ng,nh,nj,nq,nu,ny,nz,nB,nC,nE,dR,gc,lJ,lK,i9,jB,lL,lM,nG,eQ,lN,iL,kN,kO,lO,nH,nI,nJ,nK,nL,nN,nO,nP,nQ,nR,nS,nT,nU,nV,jy,nW,nX,kP,lP,nY,kQ,jC,kR,nZ,n_,n4,n5⟩:=m6
 have hn:=cu hn'
 have hm:=cu hm'
 have ha:=gs ha'
 unfold w6
 exact(List.forall_mem_cons.mpr ⟨⟨Sm.asc (Sm.app (Sm.app ha hn) i9),Ub hn' hm' ha'⟩,(List.forall_mem_cons.mpr ⟨⟨Sm.asc (Sm.app (Sm.app (Sm.app ha jB) hn) i9),Uc hn' hm' ha'⟩,(List.forall_mem_cons.mpr ⟨⟨Sm.asc (Sm.app (Sm.app (Sm.app (Sm.app ha dR) hn) gc) lL),Ud hn' hm' ha'⟩,(List.forall_mem_cons.mpr ⟨⟨Sm.asc (Sm.app (Sm.app (Sm.app (Sm.app ha dR) hn) gc) lM),Ue hn' hm' ha'⟩,(List.forall_mem_cons.mpr ⟨⟨Sm.asc (Sm.app (Sm.app dR hn) i9),Ug hn' hm' ha'⟩,(List.forall_mem_cons.mpr ⟨⟨Sm.asc nG,UG⟩,(fun z h=>nomatch h)⟩)⟩)⟩)⟩)⟩)⟩)
theorem P0 {n m a:Str} (hn':nameB au n=true) (hm':nameB au m=true) (ha':nameB aG a=true):∀z∈w7 n m a,Bd z:=by
 obtain⟨q0,q1,q2,q3,q4,q5,q6,q7,q8,q9,dF,lF,lG,iK,lH,m7,m8,m9,kI,kJ,kK,kL,lI,kM,ng,nh,nj,nq,nu,ny,nz,nB,nC,nE,dR,gc,lJ,lK,i9,jB,lL,lM,nG,eQ,lN,iL,kN,kO,lO,nH,nI,nJ,nK,nL,nN,nO,nP,nQ,nR,nS,nT,nU,nV,jy,nW,nX,kP,lP,nY,kQ,jC,kR,nZ,n_,n4,n5⟩:=m6
 have hn:=cu hn'
 have hm:=cu hm'
 have ha:=gs ha'
 unfold w7
 exact(List.forall_mem_cons.mpr ⟨⟨Sm.asc (Sm.app (Sm.app ha eQ) lN),Uh hn' hm' ha'⟩,(List.forall_mem_cons.mpr ⟨⟨Sm.asc (Sm.app (Sm.app (Sm.app ha eQ) iL) ha),Ui hn' hm' ha'⟩,(List.forall_mem_cons.mpr ⟨⟨Sm.asc (Sm.app (Sm.app (Sm.app (Sm.app ha eQ) iL) (Sm.app ha eQ)) dF),Uj hn' hm' ha'⟩,(List.forall_mem_cons.mpr ⟨⟨Sm.asc (Sm.app (Sm.app (Sm.app ha eQ) kN) (Sm.app ha eQ)),Uk hn' hm' ha'⟩,(fun z h=>nomatch h)⟩)⟩)⟩)⟩)
theorem P1 {n m a:Str} (hn':nameB au n=true) (hm':nameB au m=true) (ha':nameB aG a=true):∀z∈w8 n m a,Bd z:=by
 obtain⟨q0,q1,q2,q3,q4,q5,q6,q7,q8,q9,dF,lF,lG,iK,lH,m7,m8,m9,kI,kJ,kK,kL,lI,kM,ng,nh,nj,nq,nu,ny,nz,nB,nC,nE,dR,gc,lJ,lK,i9,jB,lL,lM,nG,eQ,lN,iL,kN,kO,lO,nH,nI,nJ,nK,nL,nN,nO,nP,nQ,nR,nS,nT,nU,nV,jy,nW,nX,kP,lP,nY,kQ,jC,kR,nZ,n_,n4,n5⟩:=m6
 have hn:=cu hn'
 have hm:=cu hm'
 have ha:=gs ha'
 unfold w8
 exact(List.forall_mem_cons.mpr ⟨⟨Sm.asc (Sm.app (Sm.app kO hn) lO),Ul hn' hm' ha'⟩,(List.forall_mem_cons.mpr ⟨⟨Sm.asc nH,UH⟩,(List.forall_mem_cons.mpr ⟨⟨Sm.asc nI,UI⟩,(List.forall_mem_cons.mpr ⟨⟨Sm.asc nJ,UJ⟩,(List.forall_mem_cons.mpr ⟨⟨Sm.asc nK,UK⟩,(fun z h=>nomatch h)⟩)⟩)⟩)⟩)⟩)
theorem P2 {n m a:Str} (hn':nameB au n=true) (hm':nameB au m=true) (ha':nameB aG a=true):∀z∈w9 n m a,Bd z:=by
 obtain⟨q0,q1,q2,q3,q4,q5,q6,q7,q8,q9,dF,lF,lG,iK,lH,m7,m8,m9,kI,kJ,kK,kL,lI,kM,ng,nh,nj,nq,nu,ny,nz,nB,nC,nE,dR,gc,lJ,lK,i9,jB,lL,lM,nG,eQ,lN,iL,kN,kO,lO,nH,nI,nJ,nK,nL,nN,nO,nP,nQ,nR,nS,nT,nU,nV,jy,nW,nX,kP,lP,nY,kQ,jC,kR,nZ,n_,n4,n5⟩:=m6
 have hn:=cu hn'
 have hm:=cu hm'
 have ha:=gs ha'
 unfold w9
 exact(List.forall_mem_cons.mpr ⟨⟨Sm.asc nL,UL⟩,(List.forall_mem_cons.mpr ⟨⟨Sm.asc nN,UM⟩,(List.forall_mem_cons.mpr ⟨⟨Sm.asc nO,UN⟩,(List.forall_mem_cons.mpr ⟨⟨Sm.asc nP,UO⟩,(List.forall_mem_cons.mpr ⟨⟨Sm.asc nQ,UP⟩,(fun z h=>nomatch h)⟩)⟩)⟩)⟩)⟩)
theorem NC {n m a:Str} (hn':nameB au n=true) (hm':nameB au m=true) (ha':nameB aG a=true):∀z∈w10 n m a,Bd z:=by
 obtain⟨q0,q1,q2,q3,q4,q5,q6,q7,q8,q9,dF,lF,lG,iK,lH,m7,m8,m9,kI,kJ,kK,kL,lI,kM,ng,nh,nj,nq,nu,ny,nz,nB,nC,nE,dR,gc,lJ,lK,i9,jB,lL,lM,nG,eQ,lN,iL,kN,kO,lO,nH,nI,nJ,nK,nL,nN,nO,nP,nQ,nR,nS,nT,nU,nV,jy,nW,nX,kP,lP,nY,kQ,jC,kR,nZ,n_,n4,n5⟩:=m6
 have hn:=cu hn'
 have hm:=cu hm'
 have ha:=gs ha'
 unfold w10
 exact(List.forall_mem_cons.mpr ⟨⟨Sm.asc nR,UQ⟩,(List.forall_mem_cons.mpr ⟨⟨Sm.asc nS,UR⟩,(List.forall_mem_cons.mpr ⟨⟨Sm.asc nT,US⟩,(List.forall_mem_cons.mpr ⟨⟨Sm.asc nU,UT⟩,(List.forall_mem_cons.mpr ⟨⟨Sm.asc nV,UU⟩,(List.forall_mem_cons.mpr ⟨⟨Sm.asc (Sm.app jy hn),Um hn' hm' ha'⟩,(List.forall_mem_cons.mpr ⟨⟨Sm.asc (Sm.app (Sm.app jy hn) q1),Uo hn' hm' ha'⟩,(fun z h=>nomatch h)⟩)⟩)⟩)⟩)⟩)⟩)⟩)
theorem ND {n m a:Str} (hn':nameB au n=true) (hm':nameB au m=true) (ha':nameB aG a=true):∀z∈w11 n m a,Bd z:=by
 obtain⟨q0,q1,q2,q3,q4,q5,q6,q7,q8,q9,dF,lF,lG,iK,lH,m7,m8,m9,kI,kJ,kK,kL,lI,kM,ng,nh,nj,nq,nu,ny,nz,nB,nC,nE,dR,gc,lJ,lK,i9,jB,lL,lM,nG,eQ,lN,iL,kN,kO,lO,nH,nI,nJ,nK,nL,nN,nO,nP,nQ,nR,nS,nT,nU,nV,jy,nW,nX,kP,lP,nY,kQ,jC,kR,nZ,n_,n4,n5⟩:=m6
 have hn:=cu hn'
 have hm:=cu hm'
 have ha:=gs ha'
 unfold w11
 exact(List.forall_mem_cons.mpr ⟨⟨Sm.asc nW,UW⟩,(List.forall_mem_cons.mpr ⟨⟨Sm.asc nX,UX⟩,(List.forall_mem_cons.mpr ⟨⟨Sm.asc (Sm.app (Sm.app kP hn) lP),Up hn' hm' ha'⟩,(List.forall_mem_cons.mpr ⟨⟨Sm.asc nY,UY⟩,(List.forall_mem_cons.mpr ⟨⟨Sm.asc (Sm.app (Sm.app kQ hn) jC),Uq hn' hm' ha'⟩,(fun z h=>nomatch h)⟩)⟩)⟩)⟩)⟩)
theorem NF {n m a:Str} (hn':nameB au n=true) (hm':nameB au m=true) (ha':nameB aG a=true):∀z∈w12 n m a,Bd z:=by
 obtain⟨q0,q1,q2,q3,q4,q5,q6,q7,q8,q9,dF,lF,lG,iK,lH,m7,m8,m9,kI,kJ,kK,kL,lI,kM,ng,nh,nj,nq,nu,ny,nz,nB,nC,nE,dR,gc,lJ,lK,i9,jB,lL,lM,nG,eQ,lN,iL,kN,kO,lO,nH,nI,nJ,nK,nL,nN,nO,nP,nQ,nR,nS,nT,nU,nV,jy,nW,nX,kP,lP,nY,kQ,jC,kR,nZ,n_,n4,n5⟩:=m6
 have hn:=cu hn'
 have hm:=cu hm'
 have ha:=gs ha'
 unfold w12
 exact(List.forall_mem_cons.mpr ⟨⟨Sm.asc (Sm.app (Sm.app kR hn) jC),Ur hn' hm' ha'⟩,(fun z h=>nomatch h)⟩)
theorem NG {n m a:Str} (hn':nameB au n=true) (hm':nameB au m=true) (ha':nameB aG a=true):∀z∈w13 n m a,Bd z:=by
 obtain⟨q0,q1,q2,q3,q4,q5,q6,q7,q8,q9,dF,lF,lG,iK,lH,m7,m8,m9,kI,kJ,kK,kL,lI,kM,ng,nh,nj,nq,nu,ny,nz,nB,nC,nE,dR,gc,lJ,lK,i9,jB,lL,lM,nG,eQ,lN,iL,kN,kO,lO,nH,nI,nJ,nK,nL,nN,nO,nP,nQ,nR,nS,nT,nU,nV,jy,nW,nX,kP,lP,nY,kQ,jC,kR,nZ,n_,n4,n5⟩:=m6
 have hn:=cu hn'
 have hm:=cu hm'
 have ha:=gs ha'
 unfold w13
 exact(List.forall_mem_cons.mpr ⟨⟨Sm.asc nZ,UZ⟩,(List.forall_mem_cons.mpr ⟨⟨Sm.asc n_,U_⟩,(List.forall_mem_cons.mpr ⟨⟨Sm.asc n4,U0⟩,(List.forall_mem_cons.mpr ⟨U1,(List.forall_mem_cons.mpr ⟨⟨Sm.asc n5,U2⟩,(fun z h=>nomatch h)⟩)⟩)⟩)⟩)⟩)
def qy (n m a:Str):List Str:=w0 n m a++w1 n m a++w2 n m a++w3 n m a++w4 n m a++w5 n m a++w6 n m a++w7 n m a++w8 n m a++w9 n m a++w10 n m a++w11 n m a++w12 n m a++w13 n m a
def NH:Sp:=fun vs H Q _=>∃n m a:Str,vs=[.str n,.str m,.str a]∧nameB au n=true∧nameB au m=true∧nameB aG a=true∧∀L H',Same H H'→H' L=some (.lst ((qy n m a).map V.str))→Q (.ref L) H'
theorem cQ:bh ["_law_n","_law_m","_law_a","_law_some","_law_one"] ["_law_n","_law_m","_law_a"] (aw jR):=⟨rfl,rfl,rfl,by decide+kernel,rfl,by decide+kernel,by decide+kernel⟩
theorem Gj {a:dG} (T:Txt K mg a):a_ P w K mg base dq 1 a.qg a.rl ["_law_n","_law_m","_law_a"] NH:=by
 refine T.HF.ok cQ (fun vs H Q E h=>?_) (fun cdv A outer s H vs Q E hr h=>?_)
 ·obtain⟨n,m,a',rfl,_⟩:=h
  rfl
 ·obtain⟨n,m,a',rfl,hn',hm',ha',k⟩:=h
  refine⟨_,(aj (aH (i:=3) cQ.nd rfl (Or.inl rfl) (bN (ae ah (ae ah (ae (pv 0) (ae (av ao (pv 0) ah) (ae (av ao ah (pv 0)) (ae (av ao (av ao (pv 0) ah) (pv 1)) (ae (av ao (av ao (pv 0) ah) (pv 1)) (ae (av ao (av ao (av ao (pv 0) ah) (pv 1)) ah) (ae (av ao (av ao (av ao ah (pv 0)) ah) (pv 1)) af)))))))))))
  (aj (aH (i:=3) cQ.nd rfl (Or.inl rfl) (av gu (pv 3) (bN (ae (av ao (av ao (pv 0) ah) (pv 1)) (ae (av ao (av ao (pv 0) ah) (pv 1)) (ae (av ao (av ao (pv 0) ah) (pv 1)) (ae (av ao (av ao (av ao (pv 0) ah) (pv 1)) ah) (ae (av ao (pv 0) ah) (ae (av ao (pv 0) ah) af)))))))))
  (aj (aH (i:=3) cQ.nd rfl (Or.inl rfl) (av gu (pv 3) (bN (ae (av ao (av ao ah (pv 0)) ah) (ae (av ao (pv 0) ah) (ae ah (ae ah (ae ah (ae (av ao (av ao ah (pv 0)) ah) (ae (av ao (av ao ah (pv 0)) ah) af))))))))))
  (aj (aH (i:=3) cQ.nd rfl (Or.inl rfl) (av gu (pv 3) (bN (ae (av ao (av ao ah (pv 0)) ah) (ae (av ao (av ao ah (pv 0)) ah) (ae (av ao (av ao (av ao (pv 0) ah) (pv 0)) ah) (ae (av ao (pv 0) ah) (ae (av ao (av ao ah (pv 0)) ah) (ae ah af)))))))))
  (aj (aH (i:=3) cQ.nd rfl (Or.inl rfl) (av gu (pv 3) (bN (ae ah (ae ah (ae ah (ae ah (ae ah (ae ah (ae ah (ae ah (ae ah af))))))))))))
  (aj (aH (i:=4) cQ.nd rfl (Or.inl rfl) (av ao (av ao (av ao (pv 2) ah) (pv 0)) ah))
  (aj (aH (i:=3) cQ.nd rfl (Or.inl rfl) (av gu (pv 3) (bN (ae (pv 4) (ae (av ao (pv 4) ah) (ae (av ao (pv 4) ah) (ae (av ao (av ao (pv 4) ah) (pv 1)) (ae (av ao (pv 2) ah) (ae (av ao (av ao (av ao (pv 2) ah) (pv 0)) ah) af)))))))))
  (aj (aH (i:=3) cQ.nd rfl (Or.inl rfl) (av gu (pv 3) (bN (ae (av ao (av ao (pv 2) (pv 0)) ah) (ae (av ao (av ao (av ao (pv 2) ah) (pv 0)) ah) (ae (av ao (pv 4) ah) (ae (av ao (pv 4) ah) (ae (av ao (av ao ah (pv 0)) ah) (ae ah af)))))))))
  (aj (aH (i:=4) cQ.nd rfl (Or.inl rfl) (av ao (pv 2) ah))
  (aj (aH (i:=3) cQ.nd rfl (Or.inl rfl) (av gu (pv 3) (bN (ae (av ao (pv 4) ah) (ae (av ao (av ao (pv 4) ah) (pv 2)) (ae (av ao (av ao (av ao (pv 4) ah) (pv 4)) ah) (ae (av ao (av ao (pv 4) ah) (pv 4)) af)))))))
  (aj (aH (i:=3) cQ.nd rfl (Or.inl rfl) (av gu (pv 3) (bN (ae (av ao (av ao ah (pv 0)) ah) (ae ah (ae ah (ae ah (ae ah af))))))))
  (aj (aH (i:=3) cQ.nd rfl (Or.inl rfl) (av gu (pv 3) (bN (ae ah (ae ah (ae ah (ae ah (ae ah af))))))))
  (aj (aH (i:=3) cQ.nd rfl (Or.inl rfl) (av gu (pv 3) (bN (ae ah (ae ah (ae ah (ae ah (ae ah (ae (av ao ah (pv 0)) (ae (av ao (av ao ah (pv 0)) ah) af))))))))))
  (aj (aH (i:=3) cQ.nd rfl (Or.inl rfl) (av gu (pv 3) (bN (ae ah (ae ah (ae (av ao (av ao ah (pv 0)) ah) (ae ah (ae (av ao (av ao ah (pv 0)) ah) af))))))))
  (aj (dZ (dm PySem.F.plainAttrs_list PySem.F.slot_list_append PySem.F.type_list_append dg (pv 3) (ae (av ao (av ao ah (pv 0)) ah) af)))
  (aD (aR (av gu (pv 3) (bN (ae ah (ae ah (ae ah (ae (av KN ah ai) (ae ah af)))))))))))))))))))))))),?_⟩
  obtain⟨q0,q1,q2,q3,q4,q5,q6,q7,q8,q9,dF,lF,lG,iK,lH,m7,m8,m9,kI,kJ,kK,kL,lI,kM,ng,nh,nj,nq,nu,ny,nz,nB,nC,nE,dR,gc,lJ,lK,i9,jB,lL,lM,nG,eQ,lN,iL,kN,kO,lO,nH,nI,nJ,nK,nL,nN,nO,nP,nQ,nR,nS,nT,nU,nV,jy,nW,nX,kP,lP,nY,kQ,jC,kR,nZ,n_,n4,n5⟩:=m6
  have hn:=cu hn'
  have hm:=cu hm'
  have ha:=gs ha'
  refine⟨_,rfl,_,rfl,_,_,rfl,rfl,Sm.fit hn q2,_,rfl,_,_,rfl,rfl,Sm.fit q3 hn,_,rfl,_,_,rfl,rfl,Sm.fit hn q4,_,rfl,_,_,rfl,rfl,Sm.fit (Sm.app hn q4) hm,_,rfl,_,_,rfl,rfl,Sm.fit hn q5,_,rfl,_,_,rfl,rfl,Sm.fit (Sm.app hn q5) hm,_,rfl,_,_,rfl,rfl,Sm.fit hn q6,_,rfl,_,_,rfl,rfl,Sm.fit (Sm.app hn q6) hm,_,_,rfl,rfl,Sm.fit (Sm.app (Sm.app hn q6) hm) q1,_,rfl,_,_,rfl,rfl,Sm.fit q1 hn,_,_,rfl,rfl,Sm.fit (Sm.app q1 hn) q6,_,rfl,_,_,rfl,rfl,Sm.fit (Sm.app (Sm.app q1 hn) q6) hm,by show 9≤sizeLine;decide,fun F0 MY=>?_⟩
  generalize h0:upd H F0 _=G0
  have s0:Same H G0:=h0▸Same.new MY
  have e0:G0 F0=some (.lst ((w0 n m a').map V.str)):=by rw[←h0];exact ag
  clear h0
  dsimp only[c_]
  rw[show(L2.start ["_law_n","_law_m","_law_a","_law_some","_law_one"] [V.str n,V.str m,V.str a']).set 3 (some (V.ref F0))=[some (.str n),some (.str m),some (.str a'),some (.ref F0),none] from rfl]
  refine⟨_,rfl,_,rfl,_,_,rfl,rfl,Sm.fit hn q7,_,rfl,_,_,rfl,rfl,Sm.fit (Sm.app hn q7) hm,_,rfl,_,_,rfl,rfl,Sm.fit hn q8,_,rfl,_,_,rfl,rfl,Sm.fit (Sm.app hn q8) hm,_,rfl,_,_,rfl,rfl,Sm.fit hn q9,_,rfl,_,_,rfl,rfl,Sm.fit (Sm.app hn q9) hm,_,rfl,_,_,rfl,rfl,Sm.fit hn q6,_,rfl,_,_,rfl,rfl,Sm.fit (Sm.app hn q6) hm,_,_,rfl,rfl,Sm.fit (Sm.app (Sm.app hn q6) hm) dF,_,rfl,_,_,rfl,rfl,Sm.fit hn lF,_,rfl,_,_,rfl,rfl,Sm.fit hn lG,by show 6≤sizeLine;decide,fun N1 hN1=>?_⟩
  generalize g1:upd G0 N1 _=M1
  have t1:Same G0 M1:=g1▸Same.new hN1
  have RW:M1 N1=some (.lst ((w1 n m a').map V.str)):=by rw[←g1];exact ag
  clear g1
  refine⟨F0,N1,_,_,rfl,rfl,t1 _ _ e0,RW,by show 15≤sizeLine;decide,fun F1 RX=>?_⟩
  generalize h1:upd M1 F1 _=G1
  have s1:Same H G1:=h1▸(s0.trans t1).trans (Same.new RX)
  have e1:G1 F1=some (.lst ((w0 n m a'++w1 n m a').map V.str)):=by rw[←h1,List.map_append];exact ag
  have Mb:H F1=none:=(s0.trans t1).free RX
  clear h1 s0 t1 RW e0
  dsimp only[c_]
  rw[show([some (.str n),some (.str m),some (.str a'),some (.ref F0),none]:St).set 3 (some (V.ref F1))=[some (.str n),some (.str m),some (.str a'),some (.ref F1),none] from rfl]
  refine⟨_,rfl,_,rfl,_,_,rfl,rfl,Sm.fit iK hn,_,_,rfl,rfl,Sm.fit (Sm.app iK hn) dF,_,rfl,_,_,rfl,rfl,Sm.fit hn lH,_,rfl,_,_,rfl,rfl,Sm.fit kI hn,_,_,rfl,rfl,Sm.fit (Sm.app kI hn) dF,_,rfl,_,_,rfl,rfl,Sm.fit kJ hn,_,_,rfl,rfl,Sm.fit (Sm.app kJ hn) dF,by show 7≤sizeLine;decide,fun N2 hN2=>?_⟩
  generalize g2:upd G1 N2 _=M2
  have t2:Same G1 M2:=g2▸Same.new hN2
  have RY:M2 N2=some (.lst ((w2 n m a').map V.str)):=by rw[←g2];exact ag
  clear g2
  refine⟨F1,N2,_,_,rfl,rfl,t2 _ _ e1,RY,by show 22≤sizeLine;decide,fun F2 RZ=>?_⟩
  generalize h2:upd M2 F2 _=G2
  have s2:Same H G2:=h2▸(s1.trans t2).trans (Same.new RZ)
  have e2:G2 F2=some (.lst ((w0 n m a'++w1 n m a'++w2 n m a').map V.str)):=by rw[←h2,List.map_append];exact ag
  have fr2:H F2=none:=(s1.trans t2).free RZ
  clear h2 s1 t2 RY e1
  dsimp only[c_]
  rw[show([some (.str n),some (.str m),some (.str a'),some (.ref F1),none]:St).set 3 (some (V.ref F2))=[some (.str n),some (.str m),some (.str a'),some (.ref F2),none] from rfl]
  refine⟨_,rfl,_,rfl,_,_,rfl,rfl,Sm.fit kK hn,_,_,rfl,rfl,Sm.fit (Sm.app kK hn) dF,_,rfl,_,_,rfl,rfl,Sm.fit kL hn,_,_,rfl,rfl,Sm.fit (Sm.app kL hn) dF,_,rfl,_,_,rfl,rfl,Sm.fit hn iK,_,rfl,_,_,rfl,rfl,Sm.fit (Sm.app hn iK) hn,_,_,rfl,rfl,Sm.fit (Sm.app (Sm.app hn iK) hn) dF,_,rfl,_,_,rfl,rfl,Sm.fit hn lI,_,rfl,_,_,rfl,rfl,Sm.fit kM hn,_,_,rfl,rfl,Sm.fit (Sm.app kM hn) dF,by show 6≤sizeLine;decide,fun N3 hN3=>?_⟩
  generalize g3:upd G2 N3 _=M3
  have t3:Same G2 M3:=g3▸Same.new hN3
  have R_:M3 N3=some (.lst ((w3 n m a').map V.str)):=by rw[←g3];exact ag
  clear g3
  refine⟨F2,N3,_,_,rfl,rfl,t3 _ _ e2,R_,by show 28≤sizeLine;decide,fun F3 R0=>?_⟩
  generalize h3:upd M3 F3 _=G3
  have s3:Same H G3:=h3▸(s2.trans t3).trans (Same.new R0)
  have e3:G3 F3=some (.lst ((w0 n m a'++w1 n m a'++w2 n m a'++w3 n m a').map V.str)):=by rw[←h3,List.map_append];exact ag
  have Li:H F3=none:=(s2.trans t3).free R0
  clear h3 s2 t3 R_ e2
  dsimp only[c_]
  rw[show([some (.str n),some (.str m),some (.str a'),some (.ref F2),none]:St).set 3 (some (V.ref F3))=[some (.str n),some (.str m),some (.str a'),some (.ref F3),none] from rfl]
  refine⟨_,rfl,by show 9≤sizeLine;decide,fun N4 hN4=>?_⟩
  generalize g4:upd G3 N4 _=M4
  have t4:Same G3 M4:=g4▸Same.new hN4
  have Gk:M4 N4=some (.lst ((w4 n m a').map V.str)):=by rw[←g4];exact ag
  clear g4
  refine⟨F3,N4,_,_,rfl,rfl,t4 _ _ e3,Gk,by show 37≤sizeLine;decide,fun F4 R3=>?_⟩
  generalize h4:upd M4 F4 _=G4
  have s4:Same H G4:=h4▸(s3.trans t4).trans (Same.new R3)
  have e4:G4 F4=some (.lst ((w0 n m a'++w1 n m a'++w2 n m a'++w3 n m a'++w4 n m a').map V.str)):=by rw[←h4,List.map_append];exact ag
  have fr4:H F4=none:=(s3.trans t4).free R3
  clear h4 s3 t4 Gk e3
  dsimp only[c_]
  rw[show([some (.str n),some (.str m),some (.str a'),some (.ref F3),none]:St).set 3 (some (V.ref F4))=[some (.str n),some (.str m),some (.str a'),some (.ref F4),none] from rfl]
  refine⟨_,rfl,_,_,rfl,rfl,Sm.fit ha dR,_,rfl,_,_,rfl,rfl,Sm.fit (Sm.app ha dR) hn,_,_,rfl,rfl,Sm.fit (Sm.app (Sm.app ha dR) hn) gc,?_⟩
  dsimp only[c_]
  rw[show([some (.str n),some (.str m),some (.str a'),some (.ref F4),none]:St).set 4 (some (V.str (((a'++(Str.ofString "["))++n)++(Str.ofString "]"))))=[some (.str n),some (.str m),some (.str a'),some (.ref F4),some (.str (((a'++(Str.ofString "["))++n)++(Str.ofString "]")))] from rfl]
  refine⟨_,rfl,_,rfl,_,rfl,_,_,rfl,rfl,Sm.fit (Sm.app (Sm.app (Sm.app ha dR) hn) gc) lJ,_,rfl,_,_,rfl,rfl,Sm.fit (Sm.app (Sm.app (Sm.app ha dR) hn) gc) q6,_,rfl,_,_,rfl,rfl,Sm.fit (Sm.app (Sm.app (Sm.app ha dR) hn) gc) q6,_,rfl,_,_,rfl,rfl,Sm.fit (Sm.app (Sm.app (Sm.app (Sm.app ha dR) hn) gc) q6) hm,_,rfl,_,_,rfl,rfl,Sm.fit ha lK,_,rfl,_,_,rfl,rfl,Sm.fit ha dR,_,rfl,_,_,rfl,rfl,Sm.fit (Sm.app ha dR) hn,_,_,rfl,rfl,Sm.fit (Sm.app (Sm.app ha dR) hn) dF,by show 6≤sizeLine;decide,fun N5 hN5=>?_⟩
  generalize g5:upd G4 N5 _=M5
  have t5:Same G4 M5:=g5▸Same.new hN5
  have Gm:M5 N5=some (.lst ((w5 n m a').map V.str)):=by rw[←g5];exact ag
  clear g5
  refine⟨F4,N5,_,_,rfl,rfl,t5 _ _ e4,Gm,by show 43≤sizeLine;decide,fun F5 R4=>?_⟩
  generalize h5:upd M5 F5 _=G5
  have s5:Same H G5:=h5▸(s4.trans t5).trans (Same.new R4)
  have e5:G5 F5=some (.lst ((w0 n m a'++w1 n m a'++w2 n m a'++w3 n m a'++w4 n m a'++w5 n m a').map V.str)):=by rw[←h5,List.map_append];exact ag
  have wa:H F5=none:=(s4.trans t5).free R4
  clear h5 s4 t5 Gm e4
  dsimp only[c_]
  rw[show([some (.str n),some (.str m),some (.str a'),some (.ref F4),some (.str (((a'++(Str.ofString "["))++n)++(Str.ofString "]")))]:St).set 3 (some (V.ref F5))=[some (.str n),some (.str m),some (.str a'),some (.ref F5),some (.str (((a'++(Str.ofString "["))++n)++(Str.ofString "]")))] from rfl]
  refine⟨_,rfl,_,rfl,_,rfl,_,_,rfl,rfl,Sm.fit ha hn,_,_,rfl,rfl,Sm.fit (Sm.app ha hn) i9,_,rfl,_,_,rfl,rfl,Sm.fit ha jB,_,rfl,_,_,rfl,rfl,Sm.fit (Sm.app ha jB) hn,_,_,rfl,rfl,Sm.fit (Sm.app (Sm.app ha jB) hn) i9,_,rfl,_,_,rfl,rfl,Sm.fit (Sm.app (Sm.app (Sm.app ha dR) hn) gc) lL,_,rfl,_,_,rfl,rfl,Sm.fit (Sm.app (Sm.app (Sm.app ha dR) hn) gc) lM,_,rfl,_,_,rfl,rfl,Sm.fit dR hn,_,_,rfl,rfl,Sm.fit (Sm.app dR hn) i9,by show 6≤sizeLine;decide,fun N6 hN6=>?_⟩
  generalize g6:upd G5 N6 _=M6
  have t6:Same G5 M6:=g6▸Same.new hN6
  have xk:M6 N6=some (.lst ((w6 n m a').map V.str)):=by rw[←g6];exact ag
  clear g6
  refine⟨F5,N6,_,_,rfl,rfl,t6 _ _ e5,xk,by show 49≤sizeLine;decide,fun F6 R5=>?_⟩
  generalize h6:upd M6 F6 _=G6
  have s6:Same H G6:=h6▸(s5.trans t6).trans (Same.new R5)
  have e6:G6 F6=some (.lst ((w0 n m a'++w1 n m a'++w2 n m a'++w3 n m a'++w4 n m a'++w5 n m a'++w6 n m a').map V.str)):=by rw[←h6,List.map_append];exact ag
  have fr6:H F6=none:=(s5.trans t6).free R5
  clear h6 s5 t6 xk e5
  dsimp only[c_]
  rw[show([some (.str n),some (.str m),some (.str a'),some (.ref F5),some (.str (((a'++(Str.ofString "["))++n)++(Str.ofString "]")))]:St).set 3 (some (V.ref F6))=[some (.str n),some (.str m),some (.str a'),some (.ref F6),some (.str (((a'++(Str.ofString "["))++n)++(Str.ofString "]")))] from rfl]
  refine⟨_,rfl,_,_,rfl,rfl,Sm.fit ha eQ,?_⟩
  dsimp only[c_]
  rw[show([some (.str n),some (.str m),some (.str a'),some (.ref F6),some (.str (((a'++(Str.ofString "["))++n)++(Str.ofString "]")))]:St).set 4 (some (V.str (a'++(Str.ofString "[0]"))))=[some (.str n),some (.str m),some (.str a'),some (.ref F6),some (.str (a'++(Str.ofString "[0]")))] from rfl]
  refine⟨_,rfl,_,rfl,_,_,rfl,rfl,Sm.fit (Sm.app ha eQ) lN,_,rfl,_,_,rfl,rfl,Sm.fit (Sm.app ha eQ) iL,_,rfl,_,_,rfl,rfl,Sm.fit (Sm.app (Sm.app ha eQ) iL) ha,_,rfl,_,_,rfl,rfl,Sm.fit (Sm.app ha eQ) iL,_,rfl,_,_,rfl,rfl,Sm.fit (Sm.app (Sm.app ha eQ) iL) (Sm.app ha eQ),_,_,rfl,rfl,Sm.fit (Sm.app (Sm.app (Sm.app ha eQ) iL) (Sm.app ha eQ)) dF,_,rfl,_,_,rfl,rfl,Sm.fit (Sm.app ha eQ) kN,_,rfl,_,_,rfl,rfl,Sm.fit (Sm.app (Sm.app ha eQ) kN) (Sm.app ha eQ),by show 4≤sizeLine;decide,fun N7 hN7=>?_⟩
  generalize g7:upd G6 N7 _=M7
  have t7:Same G6 M7:=g7▸Same.new hN7
  have R6:M7 N7=some (.lst ((w7 n m a').map V.str)):=by rw[←g7];exact ag
  clear g7
  refine⟨F6,N7,_,_,rfl,rfl,t7 _ _ e6,R6,by show 53≤sizeLine;decide,fun F7 R7=>?_⟩
  generalize h7:upd M7 F7 _=G7
  have s7:Same H G7:=h7▸(s6.trans t7).trans (Same.new R7)
  have e7:G7 F7=some (.lst ((w0 n m a'++w1 n m a'++w2 n m a'++w3 n m a'++w4 n m a'++w5 n m a'++w6 n m a'++w7 n m a').map V.str)):=by rw[←h7,List.map_append];exact ag
  have Ji:H F7=none:=(s6.trans t7).free R7
  clear h7 s6 t7 R6 e6
  dsimp only[c_]
  rw[show([some (.str n),some (.str m),some (.str a'),some (.ref F6),some (.str (a'++(Str.ofString "[0]")))]:St).set 3 (some (V.ref F7))=[some (.str n),some (.str m),some (.str a'),some (.ref F7),some (.str (a'++(Str.ofString "[0]")))] from rfl]
  refine⟨_,rfl,_,rfl,_,_,rfl,rfl,Sm.fit kO hn,_,_,rfl,rfl,Sm.fit (Sm.app kO hn) lO,by show 5≤sizeLine;decide,fun N8 hN8=>?_⟩
  generalize g8:upd G7 N8 _=M8
  have t8:Same G7 M8:=g8▸Same.new hN8
  have R8:M8 N8=some (.lst ((w8 n m a').map V.str)):=by rw[←g8];exact ag
  clear g8
  refine⟨F7,N8,_,_,rfl,rfl,t8 _ _ e7,R8,by show 58≤sizeLine;decide,fun F8 R9=>?_⟩
  generalize h8:upd M8 F8 _=G8
  have s8:Same H G8:=h8▸(s7.trans t8).trans (Same.new R9)
  have e8:G8 F8=some (.lst ((w0 n m a'++w1 n m a'++w2 n m a'++w3 n m a'++w4 n m a'++w5 n m a'++w6 n m a'++w7 n m a'++w8 n m a').map V.str)):=by rw[←h8,List.map_append];exact ag
  have fr8:H F8=none:=(s7.trans t8).free R9
  clear h8 s7 t8 R8 e7
  dsimp only[c_]
  rw[show([some (.str n),some (.str m),some (.str a'),some (.ref F7),some (.str (a'++(Str.ofString "[0]")))]:St).set 3 (some (V.ref F8))=[some (.str n),some (.str m),some (.str a'),some (.ref F8),some (.str (a'++(Str.ofString "[0]")))] from rfl]
  refine⟨_,rfl,by show 5≤sizeLine;decide,fun N9 hN9=>?_⟩
  generalize g9:upd G8 N9 _=M9
  have t9:Same G8 M9:=g9▸Same.new hN9
  have R':M9 N9=some (.lst ((w9 n m a').map V.str)):=by rw[←g9];exact ag
  clear g9
  refine⟨F8,N9,_,_,rfl,rfl,t9 _ _ e8,R',by show 63≤sizeLine;decide,fun F9 Sb=>?_⟩
  generalize h9:upd M9 F9 _=G9
  have s9:Same H G9:=h9▸(s8.trans t9).trans (Same.new Sb)
  have e9:G9 F9=some (.lst ((w0 n m a'++w1 n m a'++w2 n m a'++w3 n m a'++w4 n m a'++w5 n m a'++w6 n m a'++w7 n m a'++w8 n m a'++w9 n m a').map V.str)):=by rw[←h9,List.map_append];exact ag
  have fr9:H F9=none:=(s8.trans t9).free Sb
  clear h9 s8 t9 R' e8
  dsimp only[c_]
  rw[show([some (.str n),some (.str m),some (.str a'),some (.ref F8),some (.str (a'++(Str.ofString "[0]")))]:St).set 3 (some (V.ref F9))=[some (.str n),some (.str m),some (.str a'),some (.ref F9),some (.str (a'++(Str.ofString "[0]")))] from rfl]
  refine⟨_,rfl,_,rfl,_,_,rfl,rfl,Sm.fit jy hn,_,rfl,_,_,rfl,rfl,Sm.fit jy hn,_,_,rfl,rfl,Sm.fit (Sm.app jy hn) q1,by show 7≤sizeLine;decide,fun NI U3=>?_⟩
  generalize NJ:upd G9 NI _=NK
  have t10:Same G9 NK:=NJ▸Same.new U3
  have NL:NK NI=some (.lst ((w10 n m a').map V.str)):=by rw[←NJ];exact ag
  clear NJ
  refine⟨F9,NI,_,_,rfl,rfl,t10 _ _ e9,NL,by show 70≤sizeLine;decide,fun F10 NM=>?_⟩
  generalize h10:upd NK F10 _=JP
  have tF:Same H JP:=h10▸(s9.trans t10).trans (Same.new NM)
  have e10:JP F10=some (.lst ((w0 n m a'++w1 n m a'++w2 n m a'++w3 n m a'++w4 n m a'++w5 n m a'++w6 n m a'++w7 n m a'++w8 n m a'++w9 n m a'++w10 n m a').map V.str)):=by rw[←h10,List.map_append];exact ag
  have adl:H F10=none:=(s9.trans t10).free NM
  clear h10 s9 t10 NL e9
  dsimp only[c_]
  rw[show([some (.str n),some (.str m),some (.str a'),some (.ref F9),some (.str (a'++(Str.ofString "[0]")))]:St).set 3 (some (V.ref F10))=[some (.str n),some (.str m),some (.str a'),some (.ref F10),some (.str (a'++(Str.ofString "[0]")))] from rfl]
  refine⟨_,rfl,_,rfl,_,_,rfl,rfl,Sm.fit kP hn,_,_,rfl,rfl,Sm.fit (Sm.app kP hn) lP,_,rfl,_,_,rfl,rfl,Sm.fit kQ hn,_,_,rfl,rfl,Sm.fit (Sm.app kQ hn) jC,by show 5≤sizeLine;decide,fun NN U4=>?_⟩
  generalize NP:upd JP NN _=M11
  have t11:Same JP M11:=NP▸Same.new U4
  have NQ:M11 NN=some (.lst ((w11 n m a').map V.str)):=by rw[←NP];exact ag
  clear NP
  refine⟨F10,NN,_,_,rfl,rfl,t11 _ _ e10,NQ,by show 75≤sizeLine;decide,fun F11 NR=>?_⟩
  generalize h11:upd M11 F11 _=NS
  have yC:Same H NS:=h11▸(tF.trans t11).trans (Same.new NR)
  have BU:NS F11=some (.lst ((w0 n m a'++w1 n m a'++w2 n m a'++w3 n m a'++w4 n m a'++w5 n m a'++w6 n m a'++w7 n m a'++w8 n m a'++w9 n m a'++w10 n m a'++w11 n m a').map V.str)):=by rw[←h11,List.map_append];exact ag
  have U5:H F11=none:=(tF.trans t11).free NR
  clear h11 tF t11 NQ e10
  dsimp only[c_]
  rw[show([some (.str n),some (.str m),some (.str a'),some (.ref F10),some (.str (a'++(Str.ofString "[0]")))]:St).set 3 (some (V.ref F11))=[some (.str n),some (.str m),some (.str a'),some (.ref F11),some (.str (a'++(Str.ofString "[0]")))] from rfl]
  refine⟨_,rfl,.inl ⟨rfl,_,.of BU⟩,_,rfl,_,_,rfl,rfl,Sm.fit kR hn,_,_,rfl,rfl,Sm.fit (Sm.app kR hn) jC,F11,_,_,rfl,rfl,BU,by show 75<sizeLine;decide,?_⟩
  generalize h12:upd NS F11 _=JQ
  have e12:JQ F11=some (.lst ((w0 n m a'++w1 n m a'++w2 n m a'++w3 n m a'++w4 n m a'++w5 n m a'++w6 n m a'++w7 n m a'++w8 n m a'++w9 n m a'++w10 n m a'++w11 n m a'++w12 n m a').map V.str)):=by rw[←h12,List.map_append];exact ag
  have s12:Same H JQ:=h12▸yC.kbn U5 KB.write
  clear h12
  refine⟨_,rfl,_,_,rfl,rfl,by decide,by decide,by decide+kernel,?_⟩
  obtain⟨nt,hnt⟩:∃nt,nt=Txt.mul (Str.ofString "not ") 700:=⟨_,rfl⟩
  rw[←hnt]
  refine⟨by show 5≤sizeLine;decide,fun NT U6=>?_⟩
  generalize NU:upd JQ NT _=Sd
  have Se:Same JQ Sd:=NU▸Same.new U6
  have U7:Sd NT=some (.lst ((w13 n m a').map V.str)):=by rw[←NU];unfold w13;rw[←hnt];exact ag
  clear NU
  refine⟨F11,NT,_,_,rfl,rfl,Se _ _ e12,U7,by show 81≤sizeLine;decide,fun F13 U8=>?_⟩
  exact k F13 _ ((s12.trans Se).trans (Same.new U8)) (by rw[ag];unfold qy;rw[List.map_append];rfl)
theorem xS:bootBuiltins "ValueError"=some (.type "ValueError"):=by decide+kernel
theorem kit_is {K:PySem.W.Frag} {C D G:Addr} {bm:List Value} (c:XC K C (.ref D::fq)) (cG:XC K G bm):PySem.W.kitOne K (.ref C) (.ref G)=some (decide (G=C)||decide (G=D)):=by
 rw[KL c cG,List.contains_cons,List.contains_cons]
 have e:fq.contains (Value.ref G)=false:=rfl
 rw[e,Bool.or_false]
 have z:∀A B:Addr,(Value.ref A == Value.ref B)=decide (A=B):=fun A B=>by
  by_cases h:A=B
  ·subst h;simp
  ·rw[decide_eq_false h]
   exact beq_eq_false_iff_ne.mpr fun q=>h (by cases q;rfl)
 rw[z,z]
theorem Aq {K:PySem.W.Frag} {C D G:Addr} {bm:List Value} (c:XC K C (.ref D::fq)) (cG:XC K G bm) (n1:¬G=C) (n2:¬G=D):PySem.W.kitOne K (.ref C) (oU (.ref G))=some false:=by
 show PySem.W.kitOne K (.ref C) (.ref G)=_
 rw[kit_is c cG,decide_eq_false n1,decide_eq_false n2];rfl
theorem IB {K:PySem.W.Frag} {C D:Addr} (c:XC K C (.ref D::fq)):PySem.W.kitOne K (.ref C) (oU (.ref C))=some true:=by
 show PySem.W.kitOne K (.ref C) (.ref C)=_
 rw[kit_is c c,decide_eq_true rfl];rfl
def vi (K:PySem.W.Frag):Sp:=fun vs H Q _=>∃z:Str,vs=[.str z]∧jw z∧(aM z=none→∀H',Same H H'→Q (.str (Str.ofString "none")) H')∧(∀f,aM z=some f→∀y H',Same H H'→aA K H' y f.dt→Q y H')
theorem Ar {K:PySem.W.Frag} {H:Hp}:∀l:List Bool,aL K H (l.map V.bl) (l.map Dt.bl)
 | []=>by simp[aL]
 | x::l=>by rw[List.map_cons,List.map_cons,aL];exact⟨by rw[aA],Ar l⟩
theorem As:∀l:List Bool,Dt.deps (l.map Dt.bl)=0
 | []=>by simp[Dt.deps]
 | x::l=>by rw[List.map_cons,Dt.deps,As l];simp[Dt.dep]
theorem ml {K:PySem.W.Frag} {H:Hp} {F:Addr} {l:List Bool} (e:H F=some (.lst (l.map V.bl))):aA K H (.ref F) (.lst (l.map Dt.bl)):=by rw[aA];exact⟨F,_,rfl,.of e,Ar l⟩
theorem vT (l:List Bool):(Dt.lst (l.map Dt.bl)).dep≤40:=by rw[Dt.dep,As];decide
theorem IC:(Dt.lst ([true,false,false,false,false].map Dt.bl)).beq (Dt.lst (([]:List Bool).map Dt.bl))=false:=by simp[Dt.beq,Dt.dH]
theorem Gn:(Dt.lst ([true,false,false,false,false].map Dt.bl)).beq (Dt.lst (([true,false,false,false,false]:List Bool).map Dt.bl))=true:=by simp[Dt.beq,Dt.dH]
theorem K7:(Dt.lst (([]:List Bool).map Dt.bl)).beq (Dt.lst (([]:List Bool).map Dt.bl))=true:=by simp[Dt.beq,Dt.dH]
theorem kS:bh ["_law_text","_law_found","_law_kinds","e"] ["_law_text"] (aw jS):=⟨rfl,rfl,rfl,by decide+kernel,rfl,by decide+kernel,by decide+kernel⟩
theorem Gp {a:dG} {x:gk} (T:Txt K mg a) (TE:TX K mg x):a_ P w K mg base dq 11 a.mQ a.oA ["_law_text"] (vi K):=by
 have xT:a_ P w K mg base (b_ P w) 10 a.gB a.il ["text"] (xp K x.c4):=vS T TE
 refine T.HJ.ok kS (fun vs H Q E h=>?_) (fun cdv A outer s H vs Q E hr h=>?_)
 ·obtain⟨z,rfl,_⟩:=h
  rfl
 ·obtain⟨z,rfl,az,kn,kq⟩:=h
  have vU:aU 10 _:=hr
  refine⟨_,(aj (aH (i:=1) kS.nd rfl (Or.inl rfl) o_)
  (aj (aH (i:=2) kS.nd rfl (Or.inl rfl) (bN af))
  (aj (Mk (i:=1) (j:=3) xT vU (by rfl) T.xI T.xJ T.xK (ae (pv 0) af) kS.nd rfl (Or.inl rfl) ⟨rfl,rfl⟩ (by rfl) TE.mD TE.xD rfl rfl
   (fun _=>aj (aH (i:=2) kS.nd rfl (Or.inl rfl) (bN (ae (bq (kz K) (by rfl) T.gT gy (ae (pv 3) (ae (dM (v:=.ref x.c4) (by rfl) TE.m4 rfl) af))) (ae (bq (kz K) (by rfl) T.gT gy (ae (pv 3) (ae (dM (v:=.ref x.c1) (by rfl) TE.m1 rfl) af))) (ae (bq (kz K) (by rfl) T.gT gy (ae (pv 3) (ae (dM (v:=.ref x.c2) (by rfl) TE.m2 rfl) af))) (ae (bq (kz K) (by rfl) T.gT gy (ae (pv 3) (ae (dM (v:=.ref x.c3) (by rfl) TE.m3 rfl) af))) af))))))
    (aD (dZ (Mr K PySem.F.plainAttrs_list PySem.F.slot_list_append PySem.F.type_list_append dg (pv 2) (ae (Lf (bq (kz K) (by rfl) T.gT gy (ae (pv 3) (ae (Kn (v:=.ty "ValueError") rfl TE.zV xS rfl) af)))) af))))))
  (aj (bH (aP (yI K hr.units) (pv 2) (bN af) (aW _))
   (aD (aR (pv 1)))
   bg)
  (aD (aR (aO (bF K) (bN (ae ah (ae ah af))) (dU qR (by rfl) T.sQ pA (ae (iT (yI K hr.units) (pv 2) (bN (ae jb (ae jb (ae jb (ae jb (ae jb af)))))) (aW _)) af)) (fun _ _=>rfl)))))))),?_⟩
  have ne:=TE.ne
  simp only[List.nodup_cons,List.mem_cons,List.not_mem_nil,or_false,not_or] at ne
  obtain⟨⟨n12,n13,n14,n1D⟩,⟨n23,n24,n2D⟩,⟨n34,n3D⟩,n4D,_⟩:=ne
  obtain⟨h0,vW⟩:=TE.vW
  refine⟨by decide,fun L hL=>?_⟩
  have sL:=Same.new (o:=.lst []) hL
  have eL:(upd H L (.lst [])) L=some (.lst ([].map V.bl)):=ag
  generalize upd H L (.lst [])=H0 at sL eL ⊢
  refine⟨_,rfl,z,rfl,az,fun f hf y H1 s1 dy=>?_,fun hn H1 y s1 Hy=>?_⟩
  ·refine⟨_,rfl,by decide,fun E1 NV=>?_⟩
   generalize h5:upd H1 E1 _=H5
   have s5:Same H1 H5:=h5▸Same.new NV
   have NW:H5 E1=some (.lst (([]:List Bool).map V.bl)):=by rw[←h5];exact ag
   clear h5
   refine⟨_,_,ml (s5 _ _ (s1 _ _ eL)),ml NW,rfl,rfl,vT _,_,rfl,?_⟩
   rw[K7]
   exact bE ⟨_,rfl,kq f hf y H5 (sL.trans (s1.trans s5)) (aJ s5.kts _ _ f.bG dy)⟩
  ·have hod:∀Au,(none:Option Addr)=some Au→∃fs,H1 Au=some (.xd fs):=fun Au z=>by cases z
   refine⟨y,x.c4,_,rfl,Hy,TE.x4,by simp,?_⟩
   rw[p6 Hy]
   refine⟨_,rfl,y,x.c4,none,_,false,true,.ref x.c4,rfl,Hy,hod,TE.x4,IB TE.x4,_,rfl,y,x.c4,none,_,false,false,.ref x.c1,rfl,Hy,hod,TE.x4,Aq TE.x4 TE.x1 n14 n1D,_,rfl,y,x.c4,none,_,false,false,.ref x.c2,rfl,Hy,hod,TE.x4,Aq TE.x4 TE.x2 n24 n2D,_,rfl,y,x.c4,none,_,false,false,.ref x.c3,rfl,Hy,hod,TE.x4,Aq TE.x4 TE.x3 n34 n3D,by show 4≤sizeLine;decide,fun M hM=>?_⟩
   generalize h2:upd H1 M _=H2
   have s2:Same H1 H2:=h2▸Same.new hM
   have eM:H2 M=some (.lst ([true,false,false,false].map V.bl)):=by rw[←h2];exact ag
   clear h2
   have Hy2:=s2 _ _ Hy
   have U9:∀Au,(none:Option Addr)=some Au→∃fs,H2 Au=some (.xd fs):=fun Au z=>by cases z
   refine⟨_,rfl,.inl ⟨rfl,_,.of eM⟩,_,rfl,y,x.c4,none,_,false,true,.ty "ValueError",rfl,Hy2,U9,TE.x4,Mh vW TE.x4,_,rfl,M,_,_,rfl,rfl,eM,by show 4<sizeLine;decide,?_⟩
   generalize h3:upd H2 M _=H3
   have Sf:H3 M=some (.lst ([true,false,false,false,false].map V.bl)):=by rw[←h3];exact ag
   have s3:Same H1 H3:=h3▸s2.kbn hM KB.write
   clear h3
   refine⟨_,rfl,by decide,fun E1 NV=>?_⟩
   generalize h5:upd H3 E1 _=H5
   have s5:Same H3 H5:=h5▸Same.new NV
   have NW:H5 E1=some (.lst (([]:List Bool).map V.bl)):=by rw[←h5];exact ag
   clear h5
   refine⟨_,_,ml (s5 _ _ Sf),ml NW,rfl,rfl,vT _,_,rfl,?_⟩
   rw[IC]
   refine aY ⟨by show 2≤sizeLine;decide,fun R hR=>?_⟩
   generalize h6:upd H5 R _=H6
   have s6:Same H5 H6:=h6▸Same.new hR
   have eR:H6 R=some (.lst [.str (Str.ofString "other"),.str (Str.ofString "none")]):=by rw[←h6];exact ag
   clear h6
   refine⟨_,rfl,by show 5≤sizeLine;decide,fun V5 hV5=>?_⟩
   generalize h7:upd H6 V5 _=H7
   have s7:Same H6 H7:=h7▸Same.new hV5
   have eV:H7 V5=some (.lst (([true,false,false,false,false]:List Bool).map V.bl)):=by rw[←h7];exact ag
   clear h7
   refine⟨_,_,ml (s7 _ _ (s6 _ _ (s5 _ _ Sf))),ml eV,rfl,rfl,vT _,?_⟩
   rw[Gn]
   refine .inr ⟨true,rfl,R,_,_,.str (Str.ofString "none"),rfl,rfl,.of (s7 _ _ eR),aB (j:=1) rfl,?_⟩
   exact kn hn H7 (sL.trans (s1.trans (s3.trans (s5.trans (s6.trans s7)))))
theorem Gq {p:Nat→Bool}:∀(x y:List Nat),((x++y).takeWhile p).length≤(x.takeWhile p).length+(y.takeWhile p).length
 | [],y=>by simp
 | c::x,y=>by
  have:=Gq (p:=p) x y
  rw[List.cons_append,List.takeWhile_cons,List.takeWhile_cons]
  split
  ·rw[List.length_cons,List.length_cons];omega
  ·simp
theorem Gr {n m:Nat} {a b:List Nat} (ha:Rn n a) (hb:Rn m b):Rn (n+m) (a++b):=fun k=>by
 by_cases hk:k≤a.length
 ·rw[List.drop_append_of_le_length hk]
  exact Nat.le_trans (Gq _ _) (Nat.add_le_add (ha k) (hb 0))
 ·rw[List.drop_append,List.drop_of_length_le (by omega),List.nil_append]
  exact Nat.le_trans (hb _) (by omega)
theorem vV {n k:Nat} {l:List Nat} (h:Rn n l):Rn n (l.drop k):=fun j=>by rw[List.drop_drop];exact h _
theorem Gs {p:Nat→Bool}:∀(x y:List Nat),(x.takeWhile p).length≤((x++y).takeWhile p).length
 | [],y=>by simp
 | c::x,y=>by
  have:=Gs (p:=p) x y
  rw[List.cons_append,List.takeWhile_cons,List.takeWhile_cons]
  split
  ·rw[List.length_cons,List.length_cons];omega
  ·simp
theorem tm {n k:Nat} {l:List Nat} (h:Rn n l):Rn n (l.take k):=fun j=>by
 by_cases hj:j≤(l.take k).length
 ·have e:l.drop j=(l.take k).drop j++l.drop k:=by
   conv=>lhs;rw[←List.take_append_drop k l]
   rw[List.drop_append_of_le_length hj]
  have:=h j
  rw[e] at this
  exact Nat.le_trans (Gs _ _) this
 ·rw[List.drop_of_length_le (by omega)];simp
theorem P4 {n m:Nat} {l:List Nat} (h:Rn n l) (e:n≤m):Rn m l:=fun k=>Nat.le_trans (h k) e
structure Gd (z:Str):Prop where
 asc:∀c∈ak z,c<128
 len:z.length≤900
 one:1≤z.length
 rn:Rn 25 (ak z)
def NX:Sp:=fun vs H Q _=>∃c:Int,vs=[.int c]∧0≤c∧c<7000∧∀(d:Nat) H',d<128→Same H H'→Q (.str ⟨#[d]⟩) H'
def IE:Sp:=fun vs H Q _=>∃(d:Addr) (z:Str),vs=[.ref d,.str z]∧bY H d∧Gd z∧∀(y:Str) H',KB d H H'→bY H' d→jw y→y.length≤901→Q (.str y) H'
theorem yc {z:Str} {k:Nat} (h:k≤z.length):Txt.slice z none (some (k:Int))=txt ((ak z).take k):=by
 refine cI ?_
 rw[gD]
 show _=ak (txt _)
 rw[aN]
 unfold p8
 rw[HT.pV,HT.ia,List.drop_zero,Nat.sub_zero,show z.cps.toList.length=z.length from cU z,Nat.min_eq_left h]
 try rfl
theorem D0 {z:Str} {k:Nat} (h:k≤z.length):Txt.slice z (some (k:Int)) none=txt ((ak z).drop k):=by
 refine cI ?_
 rw[gD]
 show _=ak (txt _)
 rw[aN]
 unfold p8
 rw[HT.pV,HT.ia,show z.cps.toList.length=z.length from cU z,Nat.min_eq_left h,List.take_of_length_le (by rw[List.length_drop,show z.cps.toList.length=z.length from cU z];exact Nat.le_refl _)]
 try rfl
theorem vj {z y:Str} {u v w:List Nat} (g:Gd z) (e:ak y=u++(v++w)) (hu:∀c∈u,c∈ak z) (hv:∀c∈v,c<128) (hw:∀c∈w,c∈ak z) (ru:Rn 25 u) (lv:v.length≤1) (lB:Rn 25 w) (hl:u.length+w.length≤z.length):jw y∧y.length≤901:=by
 have hy:y.length≤901:=by rw[bC,e,List.length_append,List.length_append];have:=g.len;omega
 refine⟨⟨⟨fun c hc=>?_,by omega⟩,fun k=>?_⟩,hy⟩
 ·have hc:c∈ak y:=hc
  rw[e] at hc
  rcases List.mem_append.mp hc with q | q
  ·exact g.asc c (hu c q)
  ·rcases List.mem_append.mp q with q | q
   ·exact hv c q
   ·exact g.asc c (hw c q)
 ·rw[e]
  exact P4 (Gr ru (Gr (cE lv) lB)) (by decide) k
theorem Av {z:Str} {n:Nat} {i:Int} (hl:z.cps.toList.length=n) (ha:∀c∈z.cps.toList,c<128) (h0:0≤i) (h1:i<n):∃c,c<128∧ku z.cps.toList i=some c:=by
 obtain⟨k,rfl⟩:∃k:Nat,i=(k:Int):=⟨i.toNat,by omega⟩
 have hk:k<z.cps.toList.length:=by omega
 exact⟨z.cps.toList[k],ha _ (List.getElem_mem hk),aB (List.getElem?_eq_getElem hk)⟩
theorem xu:bh ["_law_cell","_law_some"] ["_law_cell"] (aw jT):=⟨rfl,rfl,rfl,by decide+kernel,rfl,by decide+kernel,by decide+kernel⟩
theorem Gu {a:dG} (T:Txt K mg a):a_ P w K mg base dq 1 a.qh a.rm ["_law_cell"] NX:=by
 refine T.HK.ok xu (fun vs H Q E h=>?_) (fun cdv A outer s H vs Q E hr h=>?_)
 ·obtain⟨c,rfl,_⟩:=h
  rfl
 ·obtain⟨c,rfl,c0,c1,k⟩:=h
  refine⟨_,(aj (bH (aP cL (av cH (pv 0) ai) ai (aW _))
   (aD (aR (aO mr ah (av cH (av mz (pv 0) ai) ai) (fun _ _=>rfl))))
   bg)
  (aj (aH (i:=1) xu.nd rfl (Or.inl rfl) ah)
  (aD (aR (aO mr (pv 1) (av cH (av mz (pv 0) ai) ai) (fun _ _=>rfl)))))),?_⟩
  refine⟨_,rfl,_,_,rfl,rfl,cpos (by decide),rfl,_,rfl,dr (fun _=>?_) (fun _=>?_)⟩
  ·obtain⟨d,d1,ed⟩:=Av (z:=Str.ofString " =<~[]()+notandrsmech0123456789A") (n:=32) (i:=c / 2 % 32) (by decide+kernel) (by decide+kernel) (by omega) (by omega)
   refine⟨_,rfl,_,_,rfl,rfl,⟨by decide,by decide⟩,_,_,rfl,rfl,cpos (by decide),_,_,d,rfl,rfl,by decide+kernel,?_,k d H d1 (Same.refl _)⟩
   exact ed
  ·obtain⟨d,d1,ed⟩:=Av (z:=Str.ofString " !\"#$&'()*+,-./0123456789:;<=>?@ABCDEFGHIJKLMNOPQRSTUVWXYZ[\\]^_`abcdefghijklmnopqrstuvwxyz{|}~") (n:=94) (i:=c / 2 % 94) (by decide+kernel) (by decide+kernel) (by omega) (by omega)
   refine⟨_,rfl,_,rfl,_,_,rfl,rfl,⟨by decide,by decide⟩,_,_,rfl,rfl,cpos (by decide),_,_,d,rfl,rfl,by decide+kernel,?_,k d H d1 (Same.refl _)⟩
   exact ed
theorem kj:bh ["_law_deck_here","_law_text","_law_goes","_law_at","_law_sign_here"] ["_law_deck_here","_law_text"] (aw ig):=⟨rfl,rfl,rfl,by decide+kernel,rfl,by decide+kernel,by decide+kernel⟩
theorem Bx {a:dG} (T:Txt K mg a):a_ P w K mg base dq 2 a.lU a.oV ["_law_deck_here","_law_text"] IE:=by
 have bt:=i3 (P:=P) (w:=w) (base:=base) T
 have IG:=Gu (P:=P) (w:=w) (base:=base) T
 refine T.Dv.ok kj (fun vs H Q E h=>?_) (fun cdv A outer s H vs Q E hr h=>?_)
 ·obtain⟨d,z,rfl,_⟩:=h
  rfl
 ·obtain⟨d,z,rfl,hd,g,k⟩:=h
  have bo:aU 1 _:=hr
  have Gv:aU 1 _:=hr
  refine⟨_,(aj (aH (i:=2) kj.nd rfl (Or.inl rfl) (aE bt bo rfl T.bK T.bL T.bM .nil aT (ae (pv 0) (ae ai af))))
  (aj (aH (i:=3) kj.nd rfl (Or.inl rfl) (aE bt bo rfl T.bK T.bL T.bM .nil aT (ae (pv 0) (ae (bq (bP K) (by rfl) T.dv cO (ae (pv 1) af)) af))))
  (aj (aH (i:=4) kj.nd rfl (Or.inl rfl) (aE IG Gv rfl T.HL T.HM T.HN .nil aT (ae (aE bt bo rfl T.bK T.bL T.bM .nil aT (ae (pv 0) (ae ai af))) af)))
  (aj (bH (aP cL (pv 2) ai (aW _))
   (aD (aR (av ao (cT eY (pv 1) fQ (cx (pv 3))) (cT eY (pv 1) (cx (av cA (pv 3) ai)) fQ))))
   bg)
  (aj (bH (aP cL (pv 2) ai (aW _))
   (aD (aR (av ao (av ao (cT eY (pv 1) fQ (cx (pv 3))) (pv 4)) (cT eY (pv 1) (cx (pv 3)) fQ))))
   bg)
  (aj (bH (aP cL (pv 2) ai (aW _))
   (aD (aR (av ao (av ao (cT eY (pv 1) fQ (cx (pv 3))) (pv 4)) (cT eY (pv 1) (cx (av cA (pv 3) ai)) fQ))))
   bg)
  (aD (aR (cT eY (pv 1) fQ (cx (pv 3))))))))))),?_⟩
  have zl:z.length≤sizeLine:=Nat.le_trans g.len (by decide)
  have z1:=g.one
  refine⟨_,rfl,d,4,rfl,hd,by decide,fun go H1 g0 g1 k1 d1=>?_⟩
  refine⟨_,rfl,_,rfl,_,z.length,rfl,⟨zl,rfl⟩,d,_,rfl,d1,by omega,fun r H2 r0 r1 k2 d2=>?_⟩
  obtain⟨j,rfl⟩:∃j:Nat,r=(j:Int):=⟨r.toNat,by omega⟩
  refine⟨_,rfl,d,7000,rfl,d2,by decide,fun cl H3 l0 l1 k3 d3=>⟨cl,rfl,l0,l1,fun c H4 hc s4=>?_⟩⟩
  have k4:=((k1.trans k2).trans k3).trans s4.kb
  have d4:=d3.same s4
  have mt:∀c∈(ak z).take j,c∈ak z:=fun c hc=>List.mem_of_mem_take hc
  have md:∀i,∀c∈(ak z).drop i,c∈ak z:=fun i c hc=>List.mem_of_mem_drop hc
  have lz:=bC z
  have lt:((ak z).take j).length=j:=by rw[List.length_take];omega
  have ld:∀i,((ak z).drop i).length=z.length-i:=fun i=>by rw[List.length_drop,lz]
  have zs:z.length≤900:=g.len
  have s1:(⟨#[c]⟩:Str).length=1:=rfl
  have sl:2000≤sizeLine:=by decide
  refine⟨_,rfl,rfl,_,rfl,dr (fun _=>?_) (fun _=>?_)⟩
  ·refine⟨_,rfl,_,rfl,_,rfl,z,rfl,zl,_,rfl,_,rfl,_,_,rfl,rfl,_,rfl,z,rfl,zl,?_⟩
   rw[yc (show j≤z.length by omega),show Txt.slice z (some ((j:Int)+1)) none=txt ((ak z).drop (j+1)) from D0 (k:=j+1) (by omega)]
   refine⟨_,_,rfl,rfl,by rw[cJ,cJ,lt,ld];omega,?_⟩
   obtain⟨a1,a2⟩:=vj (y:=txt ((ak z).take j)++txt ((ak z).drop (j+1))) (u:=(ak z).take j) (v:=[]) (w:=(ak z).drop (j+1)) g (by rw[aI,aN,aN];try rfl) mt (by simp) (md _) (tm g.rn) (by simp) (vV g.rn) (by rw[lt,ld];omega)
   exact k _ _ k4 d4 a1 a2
  refine⟨_,rfl,rfl,_,rfl,dr (fun _=>?_) (fun _=>?_)⟩
  ·refine⟨_,rfl,_,rfl,_,rfl,z,rfl,zl,_,rfl,?_⟩
   rw[yc (show j≤z.length by omega)]
   refine⟨_,_,rfl,rfl,by rw[cJ,lt,s1];omega,_,rfl,_,rfl,_,rfl,z,rfl,zl,?_⟩
   rw[D0 (show j≤z.length by omega)]
   refine⟨_,_,rfl,rfl,by rw[strLen_append,cJ,cJ,lt,ld,s1];omega,?_⟩
   obtain⟨a1,a2⟩:=vj (y:=txt ((ak z).take j)++⟨#[c]⟩++txt ((ak z).drop j)) (u:=(ak z).take j) (v:=[c]) (w:=(ak z).drop j) g (by rw[aI,aI,aN,aN,List.append_assoc];try rfl) mt (by simpa using hc) (md _) (tm g.rn) (by simp) (vV g.rn) (by rw[lt,ld];omega)
   exact k _ _ k4 d4 a1 a2
  refine⟨_,rfl,rfl,_,rfl,dr (fun _=>?_) (fun _=>?_)⟩
  ·refine⟨_,rfl,_,rfl,_,rfl,z,rfl,zl,_,rfl,?_⟩
   rw[yc (show j≤z.length by omega)]
   refine⟨_,_,rfl,rfl,by rw[cJ,lt,s1];omega,_,rfl,_,rfl,_,_,rfl,rfl,_,rfl,z,rfl,zl,?_⟩
   rw[show Txt.slice z (some ((j:Int)+1)) none=txt ((ak z).drop (j+1)) from D0 (k:=j+1) (by omega)]
   refine⟨_,_,rfl,rfl,by rw[strLen_append,cJ,cJ,lt,ld,s1];omega,?_⟩
   obtain⟨a1,a2⟩:=vj (y:=txt ((ak z).take j)++⟨#[c]⟩++txt ((ak z).drop (j+1))) (u:=(ak z).take j) (v:=[c]) (w:=(ak z).drop (j+1)) g (by rw[aI,aI,aN,aN,List.append_assoc];try rfl) mt (by simpa using hc) (md _) (tm g.rn) (by simp) (vV g.rn) (by rw[lt,ld];omega)
   exact k _ _ k4 d4 a1 a2
  refine⟨_,rfl,_,rfl,_,rfl,z,rfl,zl,?_⟩
  rw[yc (show j≤z.length by omega)]
  obtain⟨a1,a2⟩:=vj (y:=txt ((ak z).take j)) (u:=(ak z).take j) (v:=[]) (w:=[]) g (by rw[aN];simp) mt (by simp) (by simp) (tm g.rn) (by simp) (cE (by simp)) (by rw[lt];simp;omega)
  exact k _ _ k4 d4 a1 a2
def yd (K:PySem.W.Frag):Sp:=fun vs H Q _=>∃(a:Addr) (ns:List Int),vs=[.ref a]∧cf K H a (ns.map V.int)∧ns.length≤63∧∀H',Q (.bl true) H'
theorem CD (f:ax):∃ds,f.dt=.tup ds:=by cases f<;>exact⟨_,rfl⟩
theorem eqT {K:PySem.W.Frag} {H:Hp} {x y:V} {f:ax} {Q:VK} (neg:Bool) (h1:aA K H x f.dt) (h2:aA K H y f.dt) (hd:f.deep≤130) (q:Q (.bl (!neg)) H):Dh K neg x y H Q:=by
 obtain⟨ds,e⟩:=CD f
 have:=f.dep
 rw[e] at h1 h2 this
 refine⟨ds,ds,h1,h2,by omega,?_⟩
 rw[Dt.beq_refl]
 cases neg<;>exact q
theorem fH:∀f:ax,f.size=f.nodes
 | .same _ _=>rfl
 | .less _ _=>rfl
 | .sign _ _ _=>rfl
 | .alike _ _ _ _=>rfl
 | .no f=>by simp[ax.size,ax.nodes,fH f]
 | .and f g=>by simp[ax.size,ax.nodes,fH f,fH g]
 | .or f g=>by simp[ax.size,ax.nodes,fH f,fH g]
 | .some _ f=>by simp[ax.size,ax.nodes,fH f]
 | .each _ f=>by simp[ax.size,ax.nodes,fH f]
theorem eK:∀f:ax,f.deep+1≤f.nodes
 | .same _ _=>by simp[ax.deep,ax.nodes]
 | .less _ _=>by simp[ax.deep,ax.nodes]
 | .sign _ _ _=>by simp[ax.deep,ax.nodes]
 | .alike _ _ _ _=>by simp[ax.deep,ax.nodes]
 | .no f=>by have:=eK f;simp[ax.deep,ax.nodes];omega
 | .and f g=>by have:=eK f;have:=eK g;simp[ax.deep,ax.nodes];omega
 | .or f g=>by have:=eK f;have:=eK g;simp[ax.deep,ax.nodes];omega
 | .some _ f=>by have:=eK f;simp[ax.deep,ax.nodes];omega
 | .each _ f=>by have:=eK f;simp[ax.deep,ax.nodes];omega
theorem hJ (t:Term):t.parts.length≤(aX t).length+1:=by
 have h1:=vH (c:=43) (bU t)
 have h2:t.parts.length≤(bU t).length:=by unfold bU;rw[List.length_append,List.length_map];omega
 unfold aX
 omega
theorem D3 (a:Str) (t:Term):(aX t).length≤(atT a t).length:=by unfold atT;simp;omega
theorem i':∀{f:ax},(aq f).length≤9000→f.lE
 | .same t u,h=>by have:=hJ t;have:=hJ u;simp[aq] at h;exact⟨by omega,by omega⟩
 | .less t u,h=>by have:=hJ t;have:=hJ u;simp[aq] at h;exact⟨by omega,by omega⟩
 | .sign a t s,h=>by have:=hJ t;have:=D3 a t;simp[aq] at h;exact(by omega:t.parts.length≤10000)
 | .alike a t b u,h=>by have:=hJ t;have:=D3 a t;have:=hJ u;have:=D3 b u;simp[aq] at h;exact⟨by omega,by omega⟩
 | .no f,h=>i' (f:=f) (by simp[aq] at h;omega)
 | .and f g,h=>⟨i' (by simp[aq] at h;omega),i' (by simp[aq] at h;omega)⟩
 | .or f g,h=>⟨i' (by simp[aq] at h;omega),i' (by simp[aq] at h;omega)⟩
 | .some _ f,h=>i' (f:=f) (by simp[aq] at h;omega)
 | .each _ f,h=>i' (f:=f) (by simp[aq] at h;omega)
theorem K8 {n m a:Str} (hn:nameB au n=true) (hm:nameB au m=true) (ha:nameB aG a=true):∀z∈qy n m a,Bd z:=by
 intro z hz
 unfold qy at hz
 simp only[List.mem_append] at hz
 rcases hz with((((((((((((h | h) | h) | h) | h) | h) | h) | h) | h) | h) | h) | h) | h) | h
 ·exact PR hn hm ha z h
 ·exact PU hn hm ha z h
 ·exact PV hn hm ha z h
 ·exact PX hn hm ha z h
 ·exact PY hn hm ha z h
 ·exact PZ hn hm ha z h
 ·exact P_ hn hm ha z h
 ·exact P0 hn hm ha z h
 ·exact P1 hn hm ha z h
 ·exact P2 hn hm ha z h
 ·exact NC hn hm ha z h
 ·exact ND hn hm ha z h
 ·exact NF hn hm ha z h
 ·exact NG hn hm ha z h
theorem qz (n m a:Str):(qy n m a).length=81:=rfl
theorem D4 {σ:St} {H:Hp} {Φ:List V→Hp→Prop} (h:Φ [] H):jH σ H Φ:=h
theorem hU:bh ["_law_script","_law_deck_here","_law_names_here","_law_rows","_law_saying_here","_law_good","_law_some","_law_wild_here","_law_k","_law_text","_law_found"] ["_law_script"] (aw lQ):=⟨rfl,rfl,rfl,by decide+kernel,rfl,by decide+kernel,by decide+kernel⟩
theorem NY {a:dG} {x:gk} {b:rY} (T:Txt K mg a) (TE:TX K mg x) (U:oH K w.params mg b):a_ P w K mg base dq 17 a.Di a.Fe ["_law_script"] (yd K):=by
 have IH:=Fv (P:=P) (w:=w) (base:=base) T
 have bt:=i3 (P:=P) (w:=w) (base:=base) T
 have xv:=DC (P:=P) (w:=w) (base:=base) T
 have iu:a_ P w K mg base dq 16 a.jq a.j6 ["_law_deck_here","_law_names_here","_law_rows","_law_box","_law_deep"] (ug K 12):=tP T 12
 have qN:a_ P w K mg base dq 6 a.gC a.iq ["saying"] (sd K):=vO T U
 have II:=Gj (P:=P) (w:=w) (base:=base) T
 have oa:a_ P w K mg base dq 11 a.mQ a.oA ["_law_text"] (vi K):=Gp T TE
 have D5:=Bx (P:=P) (w:=w) (base:=base) T
 refine T.PC.ok hU (fun vs H Q E h=>?_) (fun cdv A outer s H vs Q E hr h=>?_)
 ·obtain⟨d,ms,rfl,_⟩:=h
  rfl
 ·obtain⟨sa,is,rfl,hS,his,k⟩:=h
  have Gw:aU 1 _:=hr.mono (by decide)
  have bo:aU 1 _:=hr.mono (by decide)
  have vk:aU 2 _:=hr.mono (by decide)
  have gK:aU 16 _:=hr
  have pO:aU 6 _:=hr.mono (by decide)
  have Gx:aU 1 _:=hr.mono (by decide)
  have kU:aU 11 _:=hr.mono (by decide)
  have By:aU 2 _:=hr.mono (by decide)
  have JR:=(fun {k:Nat} {A:Around} (r:aU k A)=>(by have:=r.un;omega:A.units+180<cLine)) hr
  refine⟨_,(aj (aH (i:=1) hU.nd rfl (Or.inl rfl) (aE IH Gw rfl T.HA T.HB T.HC .nil aT (ae (pv 0) (ae ai af))))
  (aj (aH (i:=2) hU.nd rfl (Or.inl rfl) (aE xv vk rfl T.wQ T.wR T.wU .nil aT (ae (pv 1) (ae ai (ae jb af)))))
  (aj (aH (i:=3) hU.nd rfl (Or.inl rfl) (aE xv vk rfl T.wQ T.wR T.wU .nil aT (ae (pv 1) (ae (av cA ai (aE bt bo rfl T.bK T.bL T.bM .nil aT (ae (pv 1) (ae ai af)))) (ae jb af)))))
  (aj (aH (i:=4) hU.nd rfl (Or.inl rfl) (aE iu gK rfl T.jr T.js T.jt .nil aT (ae (pv 1) (ae (pv 2) (ae (pv 3) (ae (bN (ae ai af)) (ae (aE bt bo rfl T.bK T.bL T.bM .nil aT (ae (pv 1) (ae ai af))) af)))))))
  (aj (aH (i:=5) hU.nd rfl (Or.inl rfl) (aE qN pO rfl T.qF T.qG T.qH .nil aT (ae (pv 4) af)))
  (aj (aH (i:=6) hU.nd rfl (Or.inl rfl) (aE II Gx rfl T.HG T.HH T.HI .nil aT (ae (aO (bF K) (pv 2) ai (fun _ _=>rfl)) (ae (aO (bF K) (pv 2) ai (fun _ _=>rfl)) (ae (aO (bF K) (pv 3) ai (fun _ _=>rfl)) af)))))
  (aj (aH (i:=7) hU.nd rfl (Or.inl rfl) (aO (bF K) (pv 6) (aE bt bo rfl T.bK T.bL T.bM .nil aT (ae (pv 1) (ae (bq (bP K) (by rfl) T.dv cO (ae (pv 6) af)) af))) (fun _ _=>rfl)))
  (aj (bH (PW.pt (je (aP og (aE oa kU rfl T.mR T.mS T.mT .nil aT (ae (pv 7) af)) ah (aW _)) (jc (aP (KS K JR) (aE oa kU rfl T.mR T.mS T.mT .nil aT (ae (pv 5) af)) (pv 4) (aW _)))))
   (aD (aR jb))
   bg)
  (aj (ko PassesOwn.never rfl (gO rfl T.i_ (ae ai af)) (cR (i:=8) hU.nd rfl (Or.inl rfl))
   (aj (aH (i:=9) hU.nd rfl (Or.inl rfl) (aE D5 By rfl T.Dw T.Dx T.Dy .nil aT (ae (pv 1) (ae (pv 5) af))))
   (aj (aH (i:=10) hU.nd rfl (Or.inl rfl) (aE oa kU rfl T.mR T.mS T.mT .nil aT (ae (pv 9) af)))
   (aj (bH (PW.pt (je (aP (B3 K (sH hr)) (pv 10) ah (aW _)) (jc (PW.pt (jd (aP (KU K (sH hr)) (pv 10) ah (aW _)) (jG (aP og (aE qN pO rfl T.qF T.qG T.qH .nil aT (ae (pv 10) af)) (pv 9) (aW _))))))))
    (aD (aR jb))
    bg)
   (aD (bH (PW.pt (jd (aP (B3 K (sH hr)) (pv 10) ah (aW _)) (jG (aP cL (pv 9) (pv 5) (aW _)))))
    (aD (aR jb))
    bg))))))
  (aD (aR (Ef (iT (KR K JR) (aE oa kU rfl T.mR T.mS T.mT .nil aT (ae (pv 5) af)) (pv 4) (aW _)) (yf (iT cL (aE oa kU rfl T.mR T.mS T.mT .nil aT (ae (pv 7) af)) ah (aW _))))))))))))))),?_⟩
  refine⟨_,rfl,sa,is,rfl,hS,his,fun d H1 hd s1 d1=>?_⟩
  refine⟨_,rfl,d,3,false,rfl,d1,by decide,fun N ss H2 hN k2 d2 eN ls Jx nok=>?_⟩
  have rN:N≠d:=(d1.ne hN).symm
  have IJ:Jy ss:=⟨Jx,fun x hx=>DG (nok x hx)⟩
  refine⟨_,rfl,_,rfl,d,4,rfl,d2,by decide,fun r H3 r0 r1 k3 d3=>⟨_,_,rfl,rfl,?_⟩⟩
  obtain⟨m,rfl⟩:∃m:Nat,r=(m:Int):=⟨r.toNat,by omega⟩
  refine⟨d,m+1,true,by show[V.ref d,V.int (1+(m:Int)),V.bl true]=[V.ref d,V.int ((m:Int)+1),V.bl true];rw[Int.add_comm],d3,by omega,fun R rs H4 hR k4 d4 eR lr ndr rok=>?_⟩
  have NZ:MK rs:=fun x hx=>DE (rok x hx)
  have Gk:=k4 _ _ (k3 _ _ eN rN) rN
  have N_:R≠d:=(d3.ne hR).symm
  refine⟨_,rfl,_,rfl,_,rfl,by show 1≤sizeLine;decide,fun bx hbx=>?_⟩
  have sb:=Same.new (o:=.lst [.int 8]) hbx
  have Sg:bx≠d:=(d4.ne hbx).symm
  refine⟨_,rfl,d,6,rfl,d4.same sb,by decide,fun dp H5 p0 p1 k5 d5=>?_⟩
  obtain⟨dpn,rfl⟩:∃m:Nat,dp=(m:Int):=⟨dp.toNat,by omega⟩
  have Gm:=k5 _ _ (sb _ _ Gk) rN
  have Sh:=k5 _ _ (sb _ _ eR) N_
  have Si:=bj Gk hbx
  have Sj:=bj eR hbx
  refine⟨d,N,R,bx,ss,rs,8,dpn,rfl,d5,⟨.of Gm,rN,Si,by omega,by omega,IJ⟩,⟨.of Sh,N_,Sj,by omega,NZ⟩,k5 _ _ ag Sg,Sg,by omega,fun p f H6 xf hf hf2 k6 d6 hb6=>?_⟩
  obtain⟨JB,fit,comps⟩:=hf2
  have hcm:f.comps≤6:=by unfold pz at comps;omega
  have N0:(aq f).length≤480:=by have:=gX fit;omega
  have xk:=k6 _ _ Gm rN Si
  have eR6:=k6 _ _ Sh N_ Sj
  have Sk:∀{g:ax},g.Ok→(aq g).length≤901→(g.deep≤1000∧g.size≤70000)∧g.Ok∧g.lE∧(aq g).length≤1000000:=fun {g} ok l=>by
   have h1:=fg g
   have h2:=eK g
   have h3:=fH g
   exact⟨⟨by omega,by omega⟩,ok,i' (by omega),by omega⟩
  obtain⟨w1,w2,w3,w4⟩:=Sk fit.ok (by omega)
  refine⟨_,rfl,.ref p,f,rfl,hf,w1,w2,w3,w4,fun H7 s7=>?_⟩
  have Sl:=aJ s7.kts _ _ f.bG hf
  have d7:=d6.same s7
  have Oa:ak (txt (aq f))=aq f:=aN _
  have Ob:aM (txt (aq f))=some f:=H_ fit.ok Oa
  have Oc:jw (txt (aq f)):=Iv fit Oa (by omega)
  have gd:Gd (txt (aq f)):=⟨Oc.1.1,by rw[cJ];omega,by rw[cJ];have h1:=fg f;have h2:=eK f;omega,by rw[Oa];have:=Cw (b:=[]) fit (.inl rfl);rwa [List.append_nil] at this⟩
  obtain⟨n0,e0⟩:∃n0,ss[0]? =some n0:=⟨ss[0],List.getElem?_eq_getElem (by omega)⟩
  obtain⟨n1,e1⟩:∃n1,ss[1]? =some n1:=⟨ss[1],List.getElem?_eq_getElem (by omega)⟩
  obtain⟨a0,ea⟩:∃a0,rs[0]? =some a0:=⟨rs[0],List.getElem?_eq_getElem (by omega)⟩
  have hn0:=IJ.2 _ (List.mem_of_getElem? e0)
  have hn1:=IJ.2 _ (List.mem_of_getElem? e1)
  have ha0:=NZ _ (List.mem_of_getElem? ea)
  refine⟨_,rfl,N,_,_,.str n0,rfl,rfl,.of (s7 _ _ xk),aB (j:=0) (by rw[List.getElem?_map,e0];rfl),_,rfl,N,_,_,.str n1,rfl,rfl,.of (s7 _ _ xk),aB (j:=1) (by rw[List.getElem?_map,e1];rfl),_,rfl,R,_,_,.str a0,rfl,rfl,.of (s7 _ _ eR6),aB (j:=0) (by rw[List.getElem?_map,ea];rfl),n0,n1,a0,rfl,hn0,hn1,ha0,fun L H8 s8 eL=>?_⟩
  have d8:=d7.same s8
  have Sn:=aJ s8.kts _ _ f.bG Sl
  have hLd:L≠d:=fun z=>by
   obtain⟨ms,ex⟩:=id d8
   rw[z,ex] at eL
   have h2:=HO.lst.inj (Option.some.inj eL)
   cases ms with
   | nil=>have:=congrArg List.length h2;rw[List.length_map,List.length_map,qz] at this;exact absurd this (by decide)
   | cons i l=>have h3:some (V.int i)=some (V.str (Str.ofString "")):=congrArg List.head? h2;cases h3
  refine⟨_,rfl,_,rfl,_,rfl,_,_,rfl,.inl ⟨_,.of eL,rfl⟩,d,_,rfl,d8,by rw[List.length_map,qz];decide,fun r H9 r0 r1 k9 d9=>?_⟩
  rw[List.length_map,qz] at r1
  obtain⟨j,rfl⟩:∃j:Nat,r=(j:Int):=⟨r.toNat,by omega⟩
  have hj:j<(qy n0 n1 a0).length:=by rw[qz];omega
  obtain⟨z,ez⟩:∃z,(qy n0 n1 a0)[j]? =some z:=⟨_,List.getElem?_eq_getElem hj⟩
  obtain⟨za,zb⟩:=K8 hn0 hn1 ha0 z (List.mem_of_getElem? ez)
  have hf9:=aJ (d8.kts (K:=K) k9) _ _ f.bG Sn
  refine⟨L,_,_,.str z,rfl,rfl,.of (k9 _ _ eL hLd),aB (by rw[List.getElem?_map,ez];rfl),?_⟩
  have So:∀{Hx:Hp} {Qx:VK} {Ex:XK},(∀H',Same Hx H'→Qx (.str (Str.ofString "none")) H')→vi K [.str z] Hx Qx Ex:=fun h=>⟨z,rfl,za,fun _=>h,fun g e=>(by rw[zb] at e;cases e)⟩
  have Sq:∀{Hx:Hp} {Qx:VK} {Ex:XK},(∀y H',Same Hx H'→aA K H' y f.dt→Qx y H')→vi K [.str (txt (aq f))] Hx Qx Ex:=fun h=>⟨_,rfl,Oc,fun e=>(by rw[Ob] at e;cases e),fun g e=>(by rw[Ob] at e;cases e;exact h)⟩
  refine⟨_,rfl,D4<|So fun BS tF=>⟨rfl,_,rfl,?_⟩⟩
  rw[decide_eq_true rfl]
  have IK:=aJ tF.kts _ _ f.bG hf9
  refine aY ⟨_,rfl,D4<|Sq fun y1 Q_ yC vd=>⟨_,rfl,eqT true vd (aJ yC.kts _ _ f.bG IK) (by omega) ⟨_,rfl,aY ?_⟩⟩⟩
  have U':=aJ yC.kts _ _ f.bG IK
  have d11:=(d9.same tF).same yC
  clear hf Sl Sn hf9 IK
  refine⟨_,rfl,by decide,by decide,kr (lo:=0) (n:=4) (fun i σ H'=>∃v8 v9 v10:Option V,σ=[some (.ref sa),some (.ref d),some (.ref N),some (.ref R),some (.ref p),some (.str (txt (aq f))),some (.ref L),some (.str z),v8,v9,v10]∧bY H' d∧aA K H' (.ref p) f.dt)
   ⟨none,none,none,rfl,d11,U'⟩ ?_ ?_⟩
  ·rintro i σ H12 hi ⟨v8,v9,v10,rfl,Od,IL⟩
   refine⟨_,rfl,_,rfl,d,_,rfl,Od,gd,fun y H13 k13 Sr ay ly=>?_⟩
   have Oe:=aJ (Od.kts (K:=K) k13) _ _ f.bG IL
   refine⟨_,rfl,y,rfl,ay,fun hn Og CF=>?_,fun g hg yv Og CF dy=>?_⟩
   ·
    have IM:=aJ CF.kts _ _ f.bG Oe
    refine⟨_,rfl,Str.ofString "other",rfl,.inl ⟨Str.ofString "none",rfl,_,rfl,?_⟩⟩
    rw[show(if false=true then !decide (V.str (Str.ofString "none")=V.str (Str.ofString "other")) else decide (V.str (Str.ofString "none")=V.str (Str.ofString "other")))=false by decide+kernel]
    refine aY ⟨_,rfl,Str.ofString "none",rfl,.inl ⟨Str.ofString "none",rfl,_,rfl,?_⟩⟩
    rw[show(if true=true then !decide (V.str (Str.ofString "none")=V.str (Str.ofString "none")) else decide (V.str (Str.ofString "none")=V.str (Str.ofString "none")))=false by decide+kernel]
    refine aY (aY ⟨_,rfl,Str.ofString "none",rfl,.inl ⟨Str.ofString "none",rfl,_,rfl,?_⟩⟩)
    rw[show(if false=true then !decide (V.str (Str.ofString "none")=V.str (Str.ofString "none")) else decide (V.str (Str.ofString "none")=V.str (Str.ofString "none")))=true by decide+kernel]
    refine bE ⟨_,rfl,_,rfl,rfl,_,rfl,?_⟩
    rw[decide_eq_false (show ¬V.str y=V.str (txt (aq f)) from fun q=>by rw[V.str.inj q,Ob] at hn;cases hn)]
    exact aY ⟨_,_,_,rfl,Sr.same CF,IM⟩
   ·
    obtain⟨Nl,ey⟩:=Bw hg
    have IM:=aJ CF.kts _ _ f.bG Oe
    obtain⟨ds,eds⟩:=CD g
    have Ss:=dy
    rw[eds] at Ss
    obtain⟨q,xs,rfl,hq,_⟩:=dQ Ss
    obtain⟨u1,u2,u3,u4⟩:=Sk Nl (by rw[←ey,←bC];omega)
    refine⟨_,rfl,Str.ofString "other",rfl,.inr ⟨q,xs,rfl,hq,_,rfl,aY ⟨_,rfl,Str.ofString "none",rfl,.inr ⟨q,xs,rfl,hq,_,rfl,bE ?_⟩⟩⟩⟩
    refine⟨_,rfl,.ref q,g,rfl,dy,u1,u2,u3,u4,fun H15 Oh=>⟨_,rfl,rfl,_,rfl,?_⟩⟩
    rw[show txt (aq g)=y by rw[←ey,fV],decide_eq_true rfl]
    refine aY ⟨_,rfl,Str.ofString "none",rfl,.inr ⟨q,xs,rfl,Oh.iP hq,_,rfl,aY ?_⟩⟩
    exact aY ⟨_,_,_,rfl,(Sr.same CF).same Oh,aJ Oh.kts _ _ f.bG IM⟩
  rintro σ H12 ⟨v8,v9,v10,rfl,Od,IL⟩
  refine⟨_,rfl,D4<|Sq fun y1 H13 tR vd=>⟨_,rfl,eqT false vd (aJ tR.kts _ _ f.bG IL) (by omega) ⟨_,rfl,bE ?_⟩⟩⟩
  refine⟨_,rfl,D4<|So fun Og CF=>⟨rfl,?_⟩⟩
  rw[decide_eq_true rfl]
  exact k Og
@[elab_as_elim] theorem kx {P:List Value→Prop} (us:List Value) (e:us.length=1) (h:∀a,P [a]):P us:=by
 cases us with
 | nil=>cases e
 | cons a us=>cases us with
  | nil=>exact h a
  | cons _ _=>cases e
@[elab_as_elim] theorem ln2 {P:List Value→Prop} (us:List Value) (e:us.length=2) (h:∀a0 a1,P [a0,a1]):P us:=by
 cases us with
 | nil=>cases e
 | cons a us=>exact kx (P:=fun z=>P (a::z)) us (Nat.succ.inj e) (h a)
@[elab_as_elim] theorem xx {P:List Value→Prop} (us:List Value) (e:us.length=3) (h:∀a0 a1 a2,P [a0,a1,a2]):P us:=by
 cases us with
 | nil=>cases e
 | cons a us=>exact ln2 (P:=fun z=>P (a::z)) us (Nat.succ.inj e) (h a)
@[elab_as_elim] theorem Sv {P:List Value→Prop} (us:List Value) (e:us.length=4) (h:∀a0 a1 a2 a3,P [a0,a1,a2,a3]):P us:=by
 cases us with
 | nil=>cases e
 | cons a us=>exact xx (P:=fun z=>P (a::z)) us (Nat.succ.inj e) (h a)
@[elab_as_elim] theorem N0 {P:List Value→Prop} (us:List Value) (e:us.length=5) (h:∀a0 a1 a2 a3 a4,P [a0,a1,a2,a3,a4]):P us:=by
 cases us with
 | nil=>cases e
 | cons a us=>exact Sv (P:=fun z=>P (a::z)) us (Nat.succ.inj e) (h a)
@[elab_as_elim] theorem ln6 {P:List Value→Prop} (us:List Value) (e:us.length=6) (h:∀a0 a1 a2 a3 a4 a5,P [a0,a1,a2,a3,a4,a5]):P us:=by
 cases us with
 | nil=>cases e
 | cons a us=>exact N0 (P:=fun z=>P (a::z)) us (Nat.succ.inj e) (h a)
theorem all_mk {l:PySem.W.OpenLaw} {w:World} {K:PySem.W.Frag} {h:Heap} {mg:Str→Option Value} {fa:Addr} (X:K.In h) (G:h.Ns mainGlobals mg) (hfa:mg "law"=some (.ref fa))
  {f0:Addr} {od0 an0:Option Addr} {sl0:Array (Option Value)} {oc0 kV0 dc0 pm0 Sw ct0:Value}
  {f1:Addr} {od1 an1:Option Addr} {sl1:Array (Option Value)} {oc1 kV1 dc1 pm1 Sx ct1:Value}
  {f2:Addr} {od2 an2:Option Addr} {sl2:Array (Option Value)} {oc2 kV2 dc2 pm2 Sy ct2:Value}
  {f3:Addr} {od3 an3:Option Addr} {sl3:Array (Option Value)} {oc3 kV3 dc3 pm3 Sz ct3:Value}
  {f4:Addr} {od4 an4:Option Addr} {sl4:Array (Option Value)} {oc4 kV4 dc4 pm4 SA ct4:Value}
  {f5:Addr} {od5 an5:Option Addr} {sl5:Array (Option Value)} {oc5 kV5 dc5 pm5 SD ct5:Value}
  {f6:Addr} {od6 an6:Option Addr} {sl6:Array (Option Value)} {oc6 kV6 dc6 pm6 SE ct6:Value}
  {f7:Addr} {od7 an7:Option Addr} {sl7:Array (Option Value)} {oc7 kV7 dc7 pm7 SF ct7:Value}
  {f8:Addr} {od8 an8:Option Addr} {sl8:Array (Option Value)} {oc8 kV8 dc8 pm8 SG ct8:Value}
  {f9:Addr} {od9 an9:Option Addr} {sl9:Array (Option Value)} {oc9 kV9 dc9 pm9 SH ct9:Value}
  {Cr:Addr} {Va Vb:Option Addr} {Vc:Array (Option Value)} {Vd Ve Vf Vg Oi Vh:Value}
  {f11:Addr} {Vi Vj:Option Addr} {Vk:Array (Option Value)} {Vl Vm Vn Vo Oj Vp:Value}
  {JS:Addr} {Vq Vr:Option Addr} {Vs:Array (Option Value)} {Vt Vu Vv Vw Ol Vx:Value}
  {JT:Addr} {Vy Vz:Option Addr} {VA:Array (Option Value)} {VB VC VD VE Om VF:Value}
  {JU:Addr} {VG VH:Option Addr} {VI:Array (Option Value)} {VJ VL VM VN Oo VO:Value}
  {JV:Addr} {VP VQ:Option Addr} {VR:Array (Option Value)} {VS VT VU VV Oq VW:Value}
  {JW:Addr} {VX VY:Option Addr} {VZ:Array (Option Value)} {V_ V0 V1 V2 Ot V3:Value}
  {JX:Addr} {V4 V6:Option Addr} {V7:Array (Option Value)} {V8 V9 V' Wa Ou Wb:Value}
  {JY:Addr} {Wc Wd:Option Addr} {Wf:Array (Option Value)} {Wg Wh Wi Wj Ov Wk:Value}
  {JZ:Addr} {Wl Wm:Option Addr} {Wn:Array (Option Value)} {Wo Wq Wr Ws Ow Wu:Value}
  {J_:Addr} {Wv Ww:Option Addr} {Wx:Array (Option Value)} {Wy Wz WA WB Ox WC:Value}
  {J0:Addr} {WD WE:Option Addr} {WG:Array (Option Value)} {WH WI WJ WK Oy WL:Value}
  {J4:Addr} {WM WN:Option Addr} {WO:Array (Option Value)} {WQ WR WS WT Oz WU:Value}
  {J5:Addr} {WV WW:Option Addr} {WX:Array (Option Value)} {WY WZ W_ W0 OA W2:Value}
  {J6:Addr} {W3 W4:Option Addr} {W5:Array (Option Value)} {W6 W7 W8 W9 OB W':Value}
  {J7:Addr} {Xa Xb:Option Addr} {Xc:Array (Option Value)} {Xd Xe Xf Xg OC Xh:Value}
  {J8:Addr} {Xi Xj:Option Addr} {Xk:Array (Option Value)} {Xl Xm Xn Xo OD Xp:Value}
  {J9:Addr} {Xq Xr:Option Addr} {Xs:Array (Option Value)} {Xt Xu Xv Xw OE Xx:Value}
  {J':Addr} {Xy Xz:Option Addr} {XA:Array (Option Value)} {XB XD XE XF OG XG:Value}
  {Ka:Addr} {XH XJ:Option Addr} {XN:Array (Option Value)} {XO XQ XR XS OH XT:Value}
  {Kb:Addr} {XU XW:Option Addr} {XX:Array (Option Value)} {XY XZ X_ X0 OI X2:Value}
  {Kc:Addr} {X3 X4:Option Addr} {X5:Array (Option Value)} {X6 X7 X8 X9 OJ Ya:Value}
  {f32:Addr} {Yb Yc:Option Addr} {Yd:Array (Option Value)} {Ye Yf Yg Yh OL Yi:Value}
  {Kd:Addr} {Yj Yk:Option Addr} {Yl:Array (Option Value)} {Ym Yn Yo Yp OM Yq:Value}
  {Ke:Addr} {Yr Ys:Option Addr} {Yt:Array (Option Value)} {Yu Yv Yw Yx OO Yy:Value}
  {Kf:Addr} {Yz YA:Option Addr} {YB:Array (Option Value)} {YC YD YE YF OP YG:Value}
  {OQ:Addr} {YH OS:Option Addr} {YI:Array (Option Value)} {YJ OT OU OV IP OW:Value}
  (a0:PySem.W.nsIn K mainGlobals "due"=some (some (.ref f0))) (l0:K.lookup f0=some ⟨oc0,od0,.func (PySem.W.fnOf "due" "due" (aZ sP) (aV sP) (aw sP) .none kV0 dc0 pm0 an0 Sw ct0),sl0⟩) (c0:PySem.W.codeIn K Sw "due"=true) (k0:PySem.W.keepIn K (.ref f0)=true)
  (a1:PySem.W.nsIn K mainGlobals "run_end"=some (some (.ref f1))) (l1:K.lookup f1=some ⟨oc1,od1,.func (PySem.W.fnOf "run_end" "run_end" (aZ iU) (aV iU) (aw iU) .none kV1 dc1 pm1 an1 Sx ct1),sl1⟩) (c1:PySem.W.codeIn K Sx "run_end"=true) (k1:PySem.W.keepIn K (.ref f1)=true)
  (a2:PySem.W.nsIn K mainGlobals "is_made_of"=some (some (.ref f2))) (l2:K.lookup f2=some ⟨oc2,od2,.func (PySem.W.fnOf "is_made_of" "is_made_of" (aZ eZ) (aV eZ) (aw eZ) .none kV2 dc2 pm2 an2 Sy ct2),sl2⟩) (c2:PySem.W.codeIn K Sy "is_made_of"=true) (k2:PySem.W.keepIn K (.ref f2)=true)
  (a3:PySem.W.nsIn K mainGlobals "read_name"=some (some (.ref f3))) (l3:K.lookup f3=some ⟨oc3,od3,.func (PySem.W.fnOf "read_name" "read_name" (aZ gE) (aV gE) (aw gE) .none kV3 dc3 pm3 an3 Sz ct3),sl3⟩) (c3:PySem.W.codeIn K Sz "read_name"=true) (k3:PySem.W.keepIn K (.ref f3)=true)
  (a4:PySem.W.nsIn K mainGlobals "read_figure"=some (some (.ref f4))) (l4:K.lookup f4=some ⟨oc4,od4,.func (PySem.W.fnOf "read_figure" "read_figure" (aZ fz) (aV fz) (aw fz) .none kV4 dc4 pm4 an4 SA ct4),sl4⟩) (c4:PySem.W.codeIn K SA "read_figure"=true) (k4:PySem.W.keepIn K (.ref f4)=true)
  (a5:PySem.W.nsIn K mainGlobals "is_number"=some (some (.ref f5))) (l5:K.lookup f5=some ⟨oc5,od5,.func (PySem.W.fnOf "is_number" "is_number" (aZ gF) (aV gF) (aw gF) .none kV5 dc5 pm5 an5 SD ct5),sl5⟩) (c5:PySem.W.codeIn K SD "is_number"=true) (k5:PySem.W.keepIn K (.ref f5)=true)
  (a6:PySem.W.nsIn K mainGlobals "read_part"=some (some (.ref f6))) (l6:K.lookup f6=some ⟨oc6,od6,.func (PySem.W.fnOf "read_part" "read_part" (aZ gG) (aV gG) (aw gG) .none kV6 dc6 pm6 an6 SE ct6),sl6⟩) (c6:PySem.W.codeIn K SE "read_part"=true) (k6:PySem.W.keepIn K (.ref f6)=true)
  (a7:PySem.W.nsIn K mainGlobals "read_term"=some (some (.ref f7))) (l7:K.lookup f7=some ⟨oc7,od7,.func (PySem.W.fnOf "read_term" "read_term" (aZ eO) (aV eO) (aw eO) .none kV7 dc7 pm7 an7 SF ct7),sl7⟩) (c7:PySem.W.codeIn K SF "read_term"=true) (k7:PySem.W.keepIn K (.ref f7)=true)
  (a8:PySem.W.nsIn K mainGlobals "term_at"=some (some (.ref f8))) (l8:K.lookup f8=some ⟨oc8,od8,.func (PySem.W.fnOf "term_at" "term_at" (aZ iV) (aV iV) (aw iV) .none kV8 dc8 pm8 an8 SG ct8),sl8⟩) (c8:PySem.W.codeIn K SG "term_at"=true) (k8:PySem.W.keepIn K (.ref f8)=true)
  (a9:PySem.W.nsIn K mainGlobals "row_at"=some (some (.ref f9))) (l9:K.lookup f9=some ⟨oc9,od9,.func (PySem.W.fnOf "row_at" "row_at" (aZ jL) (aV jL) (aw jL) .none kV9 dc9 pm9 an9 SH ct9),sl9⟩) (c9:PySem.W.codeIn K SH "row_at"=true) (k9:PySem.W.keepIn K (.ref f9)=true)
  (a10:PySem.W.nsIn K mainGlobals "sides_at"=some (some (.ref Cr))) (l10:K.lookup Cr=some ⟨Vd,Va,.func (PySem.W.fnOf "sides_at" "sides_at" (aZ ib) (aV ib) (aw ib) .none Ve Vf Vg Vb Oi Vh),Vc⟩) (c10:PySem.W.codeIn K Oi "sides_at"=true) (k10:PySem.W.keepIn K (.ref Cr)=true)
  (a11:PySem.W.nsIn K mainGlobals "signs_at"=some (some (.ref f11))) (l11:K.lookup f11=some ⟨Vl,Vi,.func (PySem.W.fnOf "signs_at" "signs_at" (aZ ic) (aV ic) (aw ic) .none Vm Vn Vo Vj Oj Vp),Vk⟩) (c11:PySem.W.codeIn K Oj "signs_at"=true) (k11:PySem.W.keepIn K (.ref f11)=true)
  (a12:PySem.W.nsIn K mainGlobals "atom_at"=some (some (.ref JS))) (l12:K.lookup JS=some ⟨Vt,Vq,.func (PySem.W.fnOf "atom_at" "atom_at" (aZ iW) (aV iW) (aw iW) .none Vu Vv Vw Vr Ol Vx),Vs⟩) (c12:PySem.W.codeIn K Ol "atom_at"=true) (k12:PySem.W.keepIn K (.ref JS)=true)
  (a13:PySem.W.nsIn K mainGlobals "opening_at"=some (some (.ref JT))) (l13:K.lookup JT=some ⟨VB,Vy,.func (PySem.W.fnOf "opening_at" "opening_at" (aZ fR) (aV fR) (aw fR) .none VC VD VE Vz Om VF),VA⟩) (c13:PySem.W.codeIn K Om "opening_at"=true) (k13:PySem.W.keepIn K (.ref JT)=true)
  (a14:PySem.W.nsIn K mainGlobals "opened"=some (some (.ref JU))) (l14:K.lookup JU=some ⟨VJ,VG,.func (PySem.W.fnOf "opened" "opened" (aZ jM) (aV jM) (aw jM) .none VL VM VN VH Oo VO),VI⟩) (c14:PySem.W.codeIn K Oo "opened"=true) (k14:PySem.W.keepIn K (.ref JU)=true)
  (a15:PySem.W.nsIn K mainGlobals "closed"=some (some (.ref JV))) (l15:K.lookup JV=some ⟨VS,VP,.func (PySem.W.fnOf "closed" "closed" (aZ jN) (aV jN) (aw jN) .none VT VU VV VQ Oq VW),VR⟩) (c15:PySem.W.codeIn K Oq "closed"=true) (k15:PySem.W.keepIn K (.ref JV)=true)
  (a16:PySem.W.nsIn K mainGlobals "read_saying"=some (some (.ref JW))) (l16:K.lookup JW=some ⟨V_,VX,.func (PySem.W.fnOf "read_saying" "read_saying" (aZ fA) (aV fA) (aw fA) .none V0 V1 V2 VY Ot V3),VZ⟩) (c16:PySem.W.codeIn K Ot "read_saying"=true) (k16:PySem.W.keepIn K (.ref JW)=true)
  (a17:PySem.W.nsIn K mainGlobals "inner_parts"=some (some (.ref JX))) (l17:K.lookup JX=some ⟨V8,V4,.func (PySem.W.fnOf "inner_parts" "inner_parts" (aZ eI) (aV eI) (aw eI) .none V9 V' Wa V6 Ou Wb),V7⟩) (c17:PySem.W.codeIn K Ou "inner_parts"=true) (k17:PySem.W.keepIn K (.ref JX)=true)
  (a18:PySem.W.nsIn K mainGlobals "parts_in_order"=some (some (.ref JY))) (l18:K.lookup JY=some ⟨Wg,Wc,.func (PySem.W.fnOf "parts_in_order" "parts_in_order" (aZ dN) (aV dN) (aw dN) .none Wh Wi Wj Wd Ov Wk),Wf⟩) (c18:PySem.W.codeIn K Ov "parts_in_order"=true) (k18:PySem.W.keepIn K (.ref JY)=true)
  (a19:PySem.W.nsIn K mainGlobals "told_of_parts"=some (some (.ref JZ))) (l19:K.lookup JZ=some ⟨Wo,Wl,.func (PySem.W.fnOf "told_of_parts" "told_of_parts" (aZ du) (aV du) (aw du) .none Wq Wr Ws Wm Ow Wu),Wn⟩) (c19:PySem.W.codeIn K Ow "told_of_parts"=true) (k19:PySem.W.keepIn K (.ref JZ)=true)
  (a20:PySem.W.nsIn K mainGlobals "show_part"=some (some (.ref J_))) (l20:K.lookup J_=some ⟨Wy,Wv,.func (PySem.W.fnOf "show_part" "show_part" (aZ gH) (aV gH) (aw gH) .none Wz WA WB Ww Ox WC),Wx⟩) (c20:PySem.W.codeIn K Ox "show_part"=true) (k20:PySem.W.keepIn K (.ref J_)=true)
  (a21:PySem.W.nsIn K mainGlobals "show_term"=some (some (.ref J0))) (l21:K.lookup J0=some ⟨WH,WD,.func (PySem.W.fnOf "show_term" "show_term" (aZ fM) (aV fM) (aw fM) .none WI WJ WK WE Oy WL),WG⟩) (c21:PySem.W.codeIn K Oy "show_term"=true) (k21:PySem.W.keepIn K (.ref J0)=true)
  (a22:PySem.W.nsIn K mainGlobals "show_at"=some (some (.ref J4))) (l22:K.lookup J4=some ⟨WQ,WM,.func (PySem.W.fnOf "show_at" "show_at" (aZ iX) (aV iX) (aw iX) .none WR WS WT WN Oz WU),WO⟩) (c22:PySem.W.codeIn K Oz "show_at"=true) (k22:PySem.W.keepIn K (.ref J4)=true)
  (a23:PySem.W.nsIn K mainGlobals "show_atom"=some (some (.ref J5))) (l23:K.lookup J5=some ⟨WY,WV,.func (PySem.W.fnOf "show_atom" "show_atom" (aZ gI) (aV gI) (aw gI) .none WZ W_ W0 WW OA W2),WX⟩) (c23:PySem.W.codeIn K OA "show_atom"=true) (k23:PySem.W.keepIn K (.ref J5)=true)
  (a24:PySem.W.nsIn K mainGlobals "show_over"=some (some (.ref J6))) (l24:K.lookup J6=some ⟨W6,W3,.func (PySem.W.fnOf "show_over" "show_over" (aZ gJ) (aV gJ) (aw gJ) .none W7 W8 W9 W4 OB W'),W5⟩) (c24:PySem.W.codeIn K OB "show_over"=true) (k24:PySem.W.keepIn K (.ref J6)=true)
  (a25:PySem.W.nsIn K mainGlobals "show_saying"=some (some (.ref J7))) (l25:K.lookup J7=some ⟨Xd,Xa,.func (PySem.W.fnOf "show_saying" "show_saying" (aZ fB) (aV fB) (aw fB) .none Xe Xf Xg Xb OC Xh),Xc⟩) (c25:PySem.W.codeIn K OC "show_saying"=true) (k25:PySem.W.keepIn K (.ref J7)=true)
  (a26:PySem.W.nsIn K mainGlobals "_law_deck"=some (some (.ref J8))) (l26:K.lookup J8=some ⟨Xl,Xi,.func (PySem.W.fnOf "_law_deck" "_law_deck" (aZ jO) (aV jO) (aw jO) .none Xm Xn Xo Xj OD Xp),Xk⟩) (c26:PySem.W.codeIn K OD "_law_deck"=true) (k26:PySem.W.keepIn K (.ref J8)=true)
  (a27:PySem.W.nsIn K mainGlobals "_law_next"=some (some (.ref J9))) (l27:K.lookup J9=some ⟨Xt,Xq,.func (PySem.W.fnOf "_law_next" "_law_next" (aZ jP) (aV jP) (aw jP) .none Xu Xv Xw Xr OE Xx),Xs⟩) (c27:PySem.W.codeIn K OE "_law_next"=true) (k27:PySem.W.keepIn K (.ref J9)=true)
  (a28:PySem.W.nsIn K mainGlobals "_law_names"=some (some (.ref J'))) (l28:K.lookup J'=some ⟨XB,Xy,.func (PySem.W.fnOf "_law_names" "_law_names" (aZ fE) (aV fE) (aw fE) .none XD XE XF Xz OG XG),XA⟩) (c28:PySem.W.codeIn K OG "_law_names"=true) (k28:PySem.W.keepIn K (.ref J')=true)
  (a29:PySem.W.nsIn K mainGlobals "_law_term"=some (some (.ref Ka))) (l29:K.lookup Ka=some ⟨XO,XH,.func (PySem.W.fnOf "_law_term" "_law_term" (aZ jQ) (aV jQ) (aw jQ) .none XQ XR XS XJ OH XT),XN⟩) (c29:PySem.W.codeIn K OH "_law_term"=true) (k29:PySem.W.keepIn K (.ref Ka)=true)
  (a30:PySem.W.nsIn K mainGlobals "_law_plain"=some (some (.ref Kb))) (l30:K.lookup Kb=some ⟨XY,XU,.func (PySem.W.fnOf "_law_plain" "_law_plain" (aZ iY) (aV iY) (aw iY) .none XZ X_ X0 XW OI X2),XX⟩) (c30:PySem.W.codeIn K OI "_law_plain"=true) (k30:PySem.W.keepIn K (.ref Kb)=true)
  (a31:PySem.W.nsIn K mainGlobals "_law_saying"=some (some (.ref Kc))) (l31:K.lookup Kc=some ⟨X6,X3,.func (PySem.W.fnOf "_law_saying" "_law_saying" (aZ ie) (aV ie) (aw ie) .none X7 X8 X9 X4 OJ Ya),X5⟩) (c31:PySem.W.codeIn K OJ "_law_saying"=true) (k31:PySem.W.keepIn K (.ref Kc)=true)
  (a32:PySem.W.nsIn K mainGlobals "_law_wild"=some (some (.ref f32))) (l32:K.lookup f32=some ⟨Ye,Yb,.func (PySem.W.fnOf "_law_wild" "_law_wild" (aZ jR) (aV jR) (aw jR) .none Yf Yg Yh Yc OL Yi),Yd⟩) (c32:PySem.W.codeIn K OL "_law_wild"=true) (k32:PySem.W.keepIn K (.ref f32)=true)
  (a33:PySem.W.nsIn K mainGlobals "_law_read"=some (some (.ref Kd))) (l33:K.lookup Kd=some ⟨Ym,Yj,.func (PySem.W.fnOf "_law_read" "_law_read" (aZ jS) (aV jS) (aw jS) .none Yn Yo Yp Yk OM Yq),Yl⟩) (c33:PySem.W.codeIn K OM "_law_read"=true) (k33:PySem.W.keepIn K (.ref Kd)=true)
  (a34:PySem.W.nsIn K mainGlobals "_law_sign"=some (some (.ref Ke))) (l34:K.lookup Ke=some ⟨Yu,Yr,.func (PySem.W.fnOf "_law_sign" "_law_sign" (aZ jT) (aV jT) (aw jT) .none Yv Yw Yx Ys OO Yy),Yt⟩) (c34:PySem.W.codeIn K OO "_law_sign"=true) (k34:PySem.W.keepIn K (.ref Ke)=true)
  (a35:PySem.W.nsIn K mainGlobals "_law_spoilt"=some (some (.ref Kf))) (l35:K.lookup Kf=some ⟨YC,Yz,.func (PySem.W.fnOf "_law_spoilt" "_law_spoilt" (aZ ig) (aV ig) (aw ig) .none YD YE YF YA OP YG),YB⟩) (c35:PySem.W.codeIn K OP "_law_spoilt"=true) (k35:PySem.W.keepIn K (.ref Kf)=true)
  (a36:PySem.W.nsIn K mainGlobals "law"=some (some (.ref OQ))) (l36:K.lookup OQ=some ⟨YJ,YH,.func (PySem.W.fnOf "law" "law" (aZ lQ) (aV lQ) (aw lQ) .none OT OU OV OS IP OW),YI⟩) (c36:PySem.W.codeIn K IP "law"=true) (k36:PySem.W.keepIn K (.ref OQ)=true)
  (z0:PySem.W.nsIn K mainGlobals "ValueError"=some none)
  (z1:PySem.W.nsIn K mainGlobals "all"=some none)
  (z2:PySem.W.nsIn K mainGlobals "int"=some none)
  (z3:PySem.W.nsIn K mainGlobals "list"=some none)
  (z4:PySem.W.nsIn K mainGlobals "range"=some none)
  (z5:PySem.W.nsIn K mainGlobals "sorted"=some none)
  (z6:PySem.W.nsIn K mainGlobals "len"=some none)
  (z7:PySem.W.nsIn K mainGlobals "tuple"=some none)
  (z8:PySem.W.nsIn K mainGlobals "enumerate"=some none)
  (z9:PySem.W.nsIn K mainGlobals "reversed"=some none)
  (z10:PySem.W.nsIn K mainGlobals "min"=some none)
  (z11:PySem.W.nsIn K mainGlobals "set"=some none)
  (z12:PySem.W.nsIn K mainGlobals "str"=some none)
  (z13:PySem.W.nsIn K mainGlobals "isinstance"=some none)
  {gt0:Tok} (gg0:PySem.W.nsIn K mainGlobals "SMALL"=some (some (.str "abcdefghijklmnopqrstuvwxyz" gt0)))
  {gt1:Tok} (gg1:PySem.W.nsIn K mainGlobals "GREAT"=some (some (.str "ABCDEFGHIJKLMNOPQRSTUVWXYZ" gt1)))
  {gt2:Tok} (gg2:PySem.W.nsIn K mainGlobals "FIGURES"=some (some (.str "0123456789" gt2)))
  {gt3:Tok} (gg3:PySem.W.nsIn K mainGlobals "TERM_SIGNS"=some (some (.str "abcdefghijklmnopqrstuvwxyz0123456789+" gt3)))
  {gt4:Tok} (gg4:PySem.W.nsIn K mainGlobals "LONGEST_NAME"=some (some (.int 3 gt4)))
  {xDC Kg:Addr} {YK xDq:_} {YL YM P5 YN P6 YO YQ YR YS YT YU:_}
  (xDa:PySem.W.nsIn K mainGlobals "JudgeError"=some (some (.ref xDC)))
  (xDl:K.lookup xDC=some (PySem.excClassObj YK xDq xDC Kg YL fq true YM P5 YN P6 YO YQ YR YS YT YU "ValueError.__new__"))
  {SJ:Obj}
  (xDnl:K.lookup Kg=some SJ)
  (xDno:nsO SJ=true)
  (xDni:PySem.W.nsIn K Kg "__init__"=some none)
  (xDg:PySem.W.specialIn K (.ref xDC) "__getattribute__"=some (some (.builtin "type.__getattribute__")))
  (xDr:PySem.W.readsIn K xDC (.type "type")=true)
  (xDf:PySem.W.findCls K (.ref xDC) (.type "type") "__init__"=some (.val (.builtin "ValueError.__init__")))
  (xDga:PySem.W.findIn K (.ref xDC) "__getattribute__"=some (some (.builtin "BaseException.__getattribute__")))
  (xDgh:PySem.W.findIn K (.ref xDC) "__getattr__"=some none)
  (xDsa:PySem.W.findIn K (.ref xDC) "__setattr__"=some (some (.builtin "object.__setattr__")))
  (xDcl:PySem.W.findIn K (.ref xDC) "__class__"=some (some (.builtin "object.__class__")))
  (xgt:PySem.W.specialIn K (.builtin "object.__class__") "__get__"=some (some (.builtin "getset_descriptor.__get__")))
  (xtk:PySem.W.takesIn K (.builtin "object.__class__")=some true)
  (xzV:PySem.W.nsIn K mainGlobals "ValueError"=some none)
  {x1C x1N:Addr} {YV x1q:_} {YW YX P7 YY P8 YZ Y_ Y0 Y1 Y2 Y3:_}
  (x1a:PySem.W.nsIn K mainGlobals "NoRow"=some (some (.ref x1C)))
  (x1l:K.lookup x1C=some (PySem.excClassObj YV x1q x1C x1N YW (.ref xDC::fq) true YX P7 YY P8 YZ Y_ Y0 Y1 Y2 Y3 "ValueError.__new__"))
  (x1ga:PySem.W.findIn K (.ref x1C) "__getattribute__"=some (some (.builtin "BaseException.__getattribute__")))
  (x1gh:PySem.W.findIn K (.ref x1C) "__getattr__"=some none)
  (x1sa:PySem.W.findIn K (.ref x1C) "__setattr__"=some (some (.builtin "object.__setattr__")))
  (x1cl:PySem.W.findIn K (.ref x1C) "__class__"=some (some (.builtin "object.__class__")))
  {x1F:Addr} {P9 P':Option Addr} {Qa:Array (Option Value)} {Qb Qd Qe Qg Kh Qh:Value}
  (x1i:PySem.W.findIn K (.ref x1C) "__init__"=some (some (.ref x1F)))
  (x1fl:K.lookup x1F=some ⟨Qb,P9,.func (PySem.W.fnOf "__init__" "NoRow.__init__" (aZ zk) (aV zk) (aw zk) .none Qd Qe Qg P' Kh Qh),Qa⟩)
  (x1fc:PySem.W.codeIn K Kh "NoRow.__init__"=true)
  (x1fk:PySem.W.keepIn K (.ref x1F)=true)
  (x1fn:PySem.W.isFn K (.ref x1F)=true)
  (x1k:PySem.W.keepIn K (.ref x1C)=true)
  (x1n:PySem.W.findIn K (.ref x1C) "name"=some none)
  {x2C x2N:Addr} {Y4 x2q:_} {Y5 Y6 Qi Y7 Qj Y8 Y9 Y' Za Zb Zc:_}
  (x2a:PySem.W.nsIn K mainGlobals "NoSaying"=some (some (.ref x2C)))
  (x2l:K.lookup x2C=some (PySem.excClassObj Y4 x2q x2C x2N Y5 (.ref xDC::fq) true Y6 Qi Y7 Qj Y8 Y9 Y' Za Zb Zc "ValueError.__new__"))
  (x2ga:PySem.W.findIn K (.ref x2C) "__getattribute__"=some (some (.builtin "BaseException.__getattribute__")))
  (x2gh:PySem.W.findIn K (.ref x2C) "__getattr__"=some none)
  (x2sa:PySem.W.findIn K (.ref x2C) "__setattr__"=some (some (.builtin "object.__setattr__")))
  (x2cl:PySem.W.findIn K (.ref x2C) "__class__"=some (some (.builtin "object.__class__")))
  {x2F:Addr} {Qk Ql:Option Addr} {Qm:Array (Option Value)} {Qn Qo Qp Qq Ki Qr:Value}
  (x2i:PySem.W.findIn K (.ref x2C) "__init__"=some (some (.ref x2F)))
  (x2fl:K.lookup x2F=some ⟨Qn,Qk,.func (PySem.W.fnOf "__init__" "NoSaying.__init__" (aZ zm) (aV zm) (aw zm) .none Qo Qp Qq Ql Ki Qr),Qm⟩)
  (x2fc:PySem.W.codeIn K Ki "NoSaying.__init__"=true)
  (x2fk:PySem.W.keepIn K (.ref x2F)=true)
  (x2fn:PySem.W.isFn K (.ref x2F)=true)
  (x2k:PySem.W.keepIn K (.ref x2C)=true)
  (x2n:PySem.W.findIn K (.ref x2C) "place"=some none)
  {x3C x3N:Addr} {Zd x3q:_} {Ze Zf Qs Zg Qt x3dd Zh Zi Zj Zk Zl:_}
  (x3a:PySem.W.nsIn K mainGlobals "TooMany"=some (some (.ref x3C)))
  (x3l:K.lookup x3C=some (PySem.excClassObj Zd x3q x3C x3N Ze (.ref xDC::fq) true Zf Qs Zg Qt x3dd Zh Zi Zj Zk Zl "ValueError.__new__"))
  (x3ga:PySem.W.findIn K (.ref x3C) "__getattribute__"=some (some (.builtin "BaseException.__getattribute__")))
  (x3gh:PySem.W.findIn K (.ref x3C) "__getattr__"=some none)
  (x3sa:PySem.W.findIn K (.ref x3C) "__setattr__"=some (some (.builtin "object.__setattr__")))
  (x3cl:PySem.W.findIn K (.ref x3C) "__class__"=some (some (.builtin "object.__class__")))
  {x3F:Addr} {Qu Qv:Option Addr} {Qw:Array (Option Value)} {Qy Qz QA QB Kj QC:Value}
  (x3i:PySem.W.findIn K (.ref x3C) "__init__"=some (some (.ref x3F)))
  (x3fl:K.lookup x3F=some ⟨Qy,Qu,.func (PySem.W.fnOf "__init__" "TooMany.__init__" (aZ zo) (aV zo) (aw zo) .none Qz QA QB Qv Kj QC),Qw⟩)
  (x3fc:PySem.W.codeIn K Kj "TooMany.__init__"=true)
  (x3fk:PySem.W.keepIn K (.ref x3F)=true)
  (x3fn:PySem.W.isFn K (.ref x3F)=true)
  (x3k:PySem.W.keepIn K (.ref x3C)=true)
  (x3n:PySem.W.findIn K (.ref x3C) "place"=some none)
  {x4C x4N:Addr} {Zm x4q:_} {Zn Zo QD Zp QE Zq Zr Zs Zt Zu Zv:_}
  (x4a:PySem.W.nsIn K mainGlobals "NoText"=some (some (.ref x4C)))
  (x4l:K.lookup x4C=some (PySem.excClassObj Zm x4q x4C x4N Zn (.ref xDC::fq) true Zo QD Zp QE Zq Zr Zs Zt Zu Zv "ValueError.__new__"))
  (x4ga:PySem.W.findIn K (.ref x4C) "__getattribute__"=some (some (.builtin "BaseException.__getattribute__")))
  (x4gh:PySem.W.findIn K (.ref x4C) "__getattr__"=some none)
  (x4sa:PySem.W.findIn K (.ref x4C) "__setattr__"=some (some (.builtin "object.__setattr__")))
  (x4cl:PySem.W.findIn K (.ref x4C) "__class__"=some (some (.builtin "object.__class__")))
  {x4F:Addr} {QF QG:Option Addr} {QH:Array (Option Value)} {QI QJ QK QL Kk QM:Value}
  (x4i:PySem.W.findIn K (.ref x4C) "__init__"=some (some (.ref x4F)))
  (x4fl:K.lookup x4F=some ⟨QI,QF,.func (PySem.W.fnOf "__init__" "NoText.__init__" (aZ vG) (aV vG) (aw vG) .none QJ QK QL QG Kk QM),QH⟩)
  (x4fc:PySem.W.codeIn K Kk "NoText.__init__"=true)
  (x4fk:PySem.W.keepIn K (.ref x4F)=true)
  (x4fn:PySem.W.isFn K (.ref x4F)=true)
  (x4k:PySem.W.keepIn K (.ref x4C)=true)
  (xne:[x1C,x2C,x3C,x4C,xDC].Nodup)
  {pd:Addr} {OX:Array DictEntry} {pn:Nat}
  {D6:Addr} {QN:Nat} {OY:_}
  {D7:Addr} {QO:Nat} {OZ:_} {O_:_}
  {D8:Addr} {QP:Nat} {O0:_} {O1:_}
  {D9:Addr} {QR:Nat} {O3:_}
  {D':Addr} {QS:Nat} {O4:_}
  (p_a:PySem.W.nsIn K mainGlobals "PART_SPOTS"=some (some (.ref pd))) (p_l:K.lookup pd=some ⟨.type "dict",none,.dict OX pn, #[]⟩) (p_k:PySem.W.KeysLit w.params OX.toList) (p_s:(pd == sysModules)=false)
  (pq_no:PySem.W.nsIn K pd "not"=some (some (.ref D6))) (pr_no:K.lookup D6=some ⟨.type "tuple",none,.seq #[.int 1 OY] QN, #[]⟩)
  (pq_an:PySem.W.nsIn K pd "and"=some (some (.ref D7))) (pr_an:K.lookup D7=some ⟨.type "tuple",none,.seq #[.int 1 OZ,.int 2 O_] QO, #[]⟩)
  (pq_or:PySem.W.nsIn K pd "or"=some (some (.ref D8))) (pr_or:K.lookup D8=some ⟨.type "tuple",none,.seq #[.int 1 O0,.int 2 O1] QP, #[]⟩)
  (pq_so:PySem.W.nsIn K pd "some"=some (some (.ref D9))) (pr_so:K.lookup D9=some ⟨.type "tuple",none,.seq #[.int 2 O3] QR, #[]⟩)
  (pq_ea:PySem.W.nsIn K pd "each"=some (some (.ref D'))) (pr_ea:K.lookup D'=some ⟨.type "tuple",none,.seq #[.int 2 O4] QS, #[]⟩)
  (pq_same:PySem.W.nsIn K pd "same"=some none)
  (pq_less:PySem.W.nsIn K pd "less"=some none)
  (pq_sign:PySem.W.nsIn K pd "sign"=some none)
  (pq_alike:PySem.W.nsIn K pd "alike"=some none)
  :∃fd:FuncData,(∀(s:Shared) (v:Value),BindsTo s fd ⟨[v],[]⟩ [("_law_script",v)])∧∀base:Heap,K.In base→base.Ns mainGlobals mg→a_ l.prog w K mg base dq 17 fa fd ["_law_script"] (yd K):=by
 have e:=hfa.symm.trans (PySem.W.mg_of X G a36)
 cases e
 have F0:=bA (st:=sP) l0 c0 k0
 have b0:=F0.binds (ps:=["text","at","piece"]) fun _ _ _ _ _ _ us hl=>xx us hl fun _ _ _=>rfl
 have F1:=bA (st:=iU) l1 c1 k1
 have b1:=F1.binds (ps:=["text","at","signs"]) fun _ _ _ _ _ _ us hl=>xx us hl fun _ _ _=>rfl
 have F2:=bA (st:=eZ) l2 c2 k2
 have b2:=F2.binds (ps:=["some","signs"]) fun _ _ _ _ _ _ us hl=>ln2 us hl fun _ _=>rfl
 have F3:=bA (st:=gE) l3 c3 k3
 have b3:=F3.binds (ps:=["some","signs"]) fun _ _ _ _ _ _ us hl=>ln2 us hl fun _ _=>rfl
 have F4:=bA (st:=fz) l4 c4 k4
 have b4:=F4.binds (ps:=["some"]) fun _ _ _ _ _ _ us hl=>kx us hl fun _=>rfl
 have F5:=bA (st:=gF) l5 c5 k5
 have b5:=F5.binds (ps:=["some"]) fun _ _ _ _ _ _ us hl=>kx us hl fun _=>rfl
 have F6:=bA (st:=gG) l6 c6 k6
 have b6:=F6.binds (ps:=["some"]) fun _ _ _ _ _ _ us hl=>kx us hl fun _=>rfl
 have F7:=bA (st:=eO) l7 c7 k7
 have b7:=F7.binds (ps:=["some"]) fun _ _ _ _ _ _ us hl=>kx us hl fun _=>rfl
 have F8:=bA (st:=iV) l8 c8 k8
 have b8:=F8.binds (ps:=["text","at"]) fun _ _ _ _ _ _ us hl=>ln2 us hl fun _ _=>rfl
 have F9:=bA (st:=jL) l9 c9 k9
 have b9:=F9.binds (ps:=["text","at"]) fun _ _ _ _ _ _ us hl=>ln2 us hl fun _ _=>rfl
 have F10:=bA (st:=ib) l10 c10 k10
 have b10:=F10.binds (ps:=["text","at"]) fun _ _ _ _ _ _ us hl=>ln2 us hl fun _ _=>rfl
 have F11:=bA (st:=ic) l11 c11 k11
 have b11:=F11.binds (ps:=["text","at"]) fun _ _ _ _ _ _ us hl=>ln2 us hl fun _ _=>rfl
 have F12:=bA (st:=iW) l12 c12 k12
 have b12:=F12.binds (ps:=["text","at"]) fun _ _ _ _ _ _ us hl=>ln2 us hl fun _ _=>rfl
 have F13:=bA (st:=fR) l13 c13 k13
 have b13:=F13.binds (ps:=["text","at"]) fun _ _ _ _ _ _ us hl=>ln2 us hl fun _ _=>rfl
 have F14:=bA (st:=jM) l14 c14 k14
 have b14:=F14.binds (ps:=["text","at","waiting"]) fun _ _ _ _ _ _ us hl=>xx us hl fun _ _ _=>rfl
 have F15:=bA (st:=jN) l15 c15 k15
 have b15:=F15.binds (ps:=["text","at","waiting","saying"]) fun _ _ _ _ _ _ us hl=>Sv us hl fun _ _ _ _=>rfl
 have F16:=bA (st:=fA) l16 c16 k16
 have b16:=F16.binds (ps:=["text"]) fun _ _ _ _ _ _ us hl=>kx us hl fun _=>rfl
 have F17:=bA (st:=eI) l17 c17 k17
 have b17:=F17.binds (ps:=["saying"]) fun _ _ _ _ _ _ us hl=>kx us hl fun _=>rfl
 have F18:=bA (st:=dN) l18 c18 k18
 have b18:=F18.binds (ps:=["saying"]) fun _ _ _ _ _ _ us hl=>kx us hl fun _=>rfl
 have F19:=bA (st:=du) l19 c19 k19
 have b19:=F19.binds (ps:=["told","place","saying"]) fun _ _ _ _ _ _ us hl=>xx us hl fun _ _ _=>rfl
 have F20:=bA (st:=gH) l20 c20 k20
 have b20:=F20.binds (ps:=["part"]) fun _ _ _ _ _ _ us hl=>kx us hl fun _=>rfl
 have F21:=bA (st:=fM) l21 c21 k21
 have b21:=F21.binds (ps:=["term"]) fun _ _ _ _ _ _ us hl=>kx us hl fun _=>rfl
 have F22:=bA (st:=iX) l22 c22 k22
 have b22:=F22.binds (ps:=["name","term"]) fun _ _ _ _ _ _ us hl=>ln2 us hl fun _ _=>rfl
 have F23:=bA (st:=gI) l23 c23 k23
 have b23:=F23.binds (ps:=["saying"]) fun _ _ _ _ _ _ us hl=>kx us hl fun _=>rfl
 have F24:=bA (st:=gJ) l24 c24 k24
 have b24:=F24.binds (ps:=["saying","inner"]) fun _ _ _ _ _ _ us hl=>ln2 us hl fun _ _=>rfl
 have F25:=bA (st:=fB) l25 c25 k25
 have b25:=F25.binds (ps:=["saying"]) fun _ _ _ _ _ _ us hl=>kx us hl fun _=>rfl
 have F26:=bA (st:=jO) l26 c26 k26
 have b26:=F26.binds (ps:=["_law_script","_law_many"]) fun _ _ _ _ _ _ us hl=>ln2 us hl fun _ _=>rfl
 have F27:=bA (st:=jP) l27 c27 k27
 have b27:=F27.binds (ps:=["_law_deck_here","_law_many"]) fun _ _ _ _ _ _ us hl=>ln2 us hl fun _ _=>rfl
 have F28:=bA (st:=fE) l28 c28 k28
 have b28:=F28.binds (ps:=["_law_deck_here","_law_many","_law_great"]) fun _ _ _ _ _ _ us hl=>xx us hl fun _ _ _=>rfl
 have F29:=bA (st:=jQ) l29 c29 k29
 have b29:=F29.binds (ps:=["_law_deck_here","_law_names_here"]) fun _ _ _ _ _ _ us hl=>ln2 us hl fun _ _=>rfl
 have F30:=bA (st:=iY) l30 c30 k30
 have b30:=F30.binds (ps:=["_law_deck_here","_law_names_here","_law_rows"]) fun _ _ _ _ _ _ us hl=>xx us hl fun _ _ _=>rfl
 have F31:=bA (st:=ie) l31 c31 k31
 have b31:=F31.binds (ps:=["_law_deck_here","_law_names_here","_law_rows","_law_box","_law_deep"]) fun _ _ _ _ _ _ us hl=>N0 us hl fun _ _ _ _ _=>rfl
 have F32:=bA (st:=jR) l32 c32 k32
 have b32:=F32.binds (ps:=["_law_n","_law_m","_law_a"]) fun _ _ _ _ _ _ us hl=>xx us hl fun _ _ _=>rfl
 have F33:=bA (st:=jS) l33 c33 k33
 have b33:=F33.binds (ps:=["_law_text"]) fun _ _ _ _ _ _ us hl=>kx us hl fun _=>rfl
 have F34:=bA (st:=jT) l34 c34 k34
 have b34:=F34.binds (ps:=["_law_cell"]) fun _ _ _ _ _ _ us hl=>kx us hl fun _=>rfl
 have F35:=bA (st:=ig) l35 c35 k35
 have b35:=F35.binds (ps:=["_law_deck_here","_law_text"]) fun _ _ _ _ _ _ us hl=>ln2 us hl fun _ _=>rfl
 have F36:=bA (st:=lQ) l36 c36 k36
 have T:Txt K mg ⟨f0,_,f1,_,f2,_,f3,_,f4,_,f5,_,f6,_,f7,_,f8,_,f9,_,Cr,_,f11,_,JS,_,JT,_,JU,_,JV,_,JW,_,JX,_,JY,_,JZ,_,J_,_,J0,_,J4,_,J5,_,J6,_,J7,_,J8,_,J9,_,J',_,Ka,_,Kb,_,Kc,_,f32,_,Kd,_,Ke,_,Kf,_,fa,_⟩:=⟨F0,PySem.W.mg_of X G a0,k0,b0,F1,PySem.W.mg_of X G a1,k1,b1,F2,PySem.W.mg_of X G a2,k2,b2,F3,PySem.W.mg_of X G a3,k3,b3,F4,PySem.W.mg_of X G a4,k4,b4,F5,PySem.W.mg_of X G a5,k5,b5,F6,PySem.W.mg_of X G a6,k6,b6,F7,PySem.W.mg_of X G a7,k7,b7,F8,PySem.W.mg_of X G a8,k8,b8,F9,PySem.W.mg_of X G a9,k9,b9,F10,PySem.W.mg_of X G a10,k10,b10,F11,PySem.W.mg_of X G a11,k11,b11,F12,PySem.W.mg_of X G a12,k12,b12,F13,PySem.W.mg_of X G a13,k13,b13,F14,PySem.W.mg_of X G a14,k14,b14,F15,PySem.W.mg_of X G a15,k15,b15,F16,PySem.W.mg_of X G a16,k16,b16,F17,PySem.W.mg_of X G a17,k17,b17,F18,PySem.W.mg_of X G a18,k18,b18,F19,PySem.W.mg_of X G a19,k19,b19,F20,PySem.W.mg_of X G a20,k20,b20,F21,PySem.W.mg_of X G a21,k21,b21,F22,PySem.W.mg_of X G a22,k22,b22,F23,PySem.W.mg_of X G a23,k23,b23,F24,PySem.W.mg_of X G a24,k24,b24,F25,PySem.W.mg_of X G a25,k25,b25,F26,PySem.W.mg_of X G a26,k26,b26,F27,PySem.W.mg_of X G a27,k27,b27,F28,PySem.W.mg_of X G a28,k28,b28,F29,PySem.W.mg_of X G a29,k29,b29,F30,PySem.W.mg_of X G a30,k30,b30,F31,PySem.W.mg_of X G a31,k31,b31,F32,PySem.W.mg_of X G a32,k32,b32,F33,PySem.W.mg_of X G a33,k33,b33,F34,PySem.W.mg_of X G a34,k34,b34,F35,PySem.W.mg_of X G a35,k35,b35,F36,PySem.W.mg_of X G a36,PySem.W.mg_none_of X G z0,PySem.W.mg_none_of X G z1,PySem.W.mg_none_of X G z2,PySem.W.mg_none_of X G z3,PySem.W.mg_none_of X G z4,PySem.W.mg_none_of X G z5,PySem.W.mg_none_of X G z6,PySem.W.mg_none_of X G z7,PySem.W.mg_none_of X G z8,PySem.W.mg_none_of X G z9,PySem.W.mg_none_of X G z10,PySem.W.mg_none_of X G z11,PySem.W.mg_none_of X G z12,PySem.W.mg_none_of X G z13,⟨_,PySem.W.mg_of X G gg0⟩,⟨_,PySem.W.mg_of X G gg1⟩,⟨_,PySem.W.mg_of X G gg2⟩,⟨_,PySem.W.mg_of X G gg3⟩,⟨_,PySem.W.mg_of X G gg4⟩⟩
 have xDX:XC K xDC fq:=⟨⟨_,_,_,_,_,_,_,_,_,_,_,_,_,_,xDl⟩,Jn,B1,xDga,xDgh,xDsa,xDcl,xgt,xtk⟩
 have Kl:PySem.W.tailIn K fq (.ref xDC::fq)=true:=Pu (N:=Kg) xDl rfl (KJ xDnl xDno) xDni
 have x1X:XC K x1C (.ref xDC::fq):=⟨⟨_,_,_,_,_,_,_,_,_,_,_,_,_,_,x1l⟩,Kl,sM,x1ga,x1gh,x1sa,x1cl,xgt,xtk⟩
 have x1FF:=bA (st:=zk) x1fl x1fc x1fk
 have x1B:=x1FF.binds (ps:=["self","name"]) fun _ _ _ _ _ _ us hl=>match us,hl with | [_,_],_=>rfl
 have x2X:XC K x2C (.ref xDC::fq):=⟨⟨_,_,_,_,_,_,_,_,_,_,_,_,_,_,x2l⟩,Kl,sM,x2ga,x2gh,x2sa,x2cl,xgt,xtk⟩
 have x2FF:=bA (st:=zm) x2fl x2fc x2fk
 have x2B:=x2FF.binds (ps:=["self","place"]) fun _ _ _ _ _ _ us hl=>match us,hl with | [_,_],_=>rfl
 have x3X:XC K x3C (.ref xDC::fq):=⟨⟨_,_,_,_,_,_,_,_,_,_,_,_,_,_,x3l⟩,Kl,sM,x3ga,x3gh,x3sa,x3cl,xgt,xtk⟩
 have x3FF:=bA (st:=zo) x3fl x3fc x3fk
 have x3B:=x3FF.binds (ps:=["self","place"]) fun _ _ _ _ _ _ us hl=>match us,hl with | [_,_],_=>rfl
 have x4X:XC K x4C (.ref xDC::fq):=⟨⟨_,_,_,_,_,_,_,_,_,_,_,_,_,_,x4l⟩,Kl,sM,x4ga,x4gh,x4sa,x4cl,xgt,xtk⟩
 have x4FF:=bA (st:=vG) x4fl x4fc x4fk
 have x4B:=x4FF.binds (ps:=["self"]) fun _ _ _ _ _ _ us hl=>match us,hl with | [_],_=>rfl
 have TE:TX K mg ⟨xDC,x1C,x2C,x3C,x4C,x1F,x2F,x3F,x4F,_,_,_,_⟩:=⟨xDX,⟨xDg,xDr,xDf⟩,PySem.W.mg_of X G xDa,PySem.W.mg_none_of X G xzV,x1X,x2X,x3X,x4X,⟨x1i,x1fn,x1k⟩,⟨x2i,x2fn,x2k⟩,⟨x3i,x3fn,x3k⟩,⟨x4i,x4fn,x4k⟩,PySem.W.mg_of X G x1a,PySem.W.mg_of X G x2a,PySem.W.mg_of X G x3a,PySem.W.mg_of X G x4a,x1FF,x2FF,x3FF,x4FF,x1B,x2B,x3B,x4B,x1n,x2n,x3n,xne,⟨h,X⟩⟩
 have Dp:vv K w.params pd (eS ⟨pd,D6,D7,D8,D9,D'⟩):=⟨⟨OX,pn,p_l,p_k,by
  intro x r hm
  simp only[eS,List.mem_cons,List.mem_nil_iff,or_false,Prod.mk.injEq] at hm
  rcases hm with⟨rfl,rfl⟩ | ⟨rfl,rfl⟩ | ⟨rfl,rfl⟩ | ⟨rfl,rfl⟩ | ⟨rfl,rfl⟩ | ⟨rfl,rfl⟩ | ⟨rfl,rfl⟩ | ⟨rfl,rfl⟩ | ⟨rfl,rfl⟩
  ·rw[PySem.W.find_K p_l pq_no];exact rfl
  ·rw[PySem.W.find_K p_l pq_an];exact rfl
  ·rw[PySem.W.find_K p_l pq_or];exact rfl
  ·rw[PySem.W.find_K p_l pq_so];exact rfl
  ·rw[PySem.W.find_K p_l pq_ea];exact rfl
  ·rw[PySem.W.find_K p_l pq_same];exact True.intro
  ·rw[PySem.W.find_K p_l pq_less];exact True.intro
  ·rw[PySem.W.find_K p_l pq_sign];exact True.intro
  ·rw[PySem.W.find_K p_l pq_alike];exact True.intro⟩,p_s⟩
 have U:oH K w.params mg ⟨pd,D6,D7,D8,D9,D'⟩:=⟨PySem.W.mg_of X G p_a,Dp,fun H=>pD (us:=[.int 1 _]) pr_no (.cons ⟨_,rfl⟩ (.nil)) (by decide),fun H=>pD (us:=[.int 1 _,.int 2 _]) pr_an (.cons ⟨_,rfl⟩ (.cons ⟨_,rfl⟩ (.nil))) (by decide),fun H=>pD (us:=[.int 1 _,.int 2 _]) pr_or (.cons ⟨_,rfl⟩ (.cons ⟨_,rfl⟩ (.nil))) (by decide),fun H=>pD (us:=[.int 2 _]) pr_so (.cons ⟨_,rfl⟩ (.nil)) (by decide),fun H=>pD (us:=[.int 2 _]) pr_ea (.cons ⟨_,rfl⟩ (.nil)) (by decide)⟩
 exact⟨PySem.W.fnOf "law" "law" (aZ lQ) (aV lQ) (aw lQ) .none OT OU OV OS IP OW,fun s v=>.of_eq rfl,fun base _ _=>NY T TE U⟩
theorem walk {l:PySem.W.OpenLaw} {q:Program} {loose:List Str} {XP:(Str→Option Value)→Heap→Prop} {YP:World→Heap→Prop} {d:DefRec} {K:Params→PySem.W.Frag} (hn:l.most=some 63) (hdf:d.params.defaults=[])
  (hY:∀(w:World) (h:Heap),YP w h→(K w.params).In h)
  (F:∀(w:World) (mg:Str→Option Value) (fa:Addr) (h:Heap),(K w.params).In h→h.Ns mainGlobals mg→mg d.name=some (.ref fa)→
   ∃fd:FuncData,(∀(s:Shared) (u:Value),BindsTo s fd ⟨[u],[]⟩ [("_law_script",u)])∧∀base:Heap,(K w.params).In base→base.Ns mainGlobals mg→a_ l.prog w (K w.params) mg base dq 17 fa fd ["_law_script"] (yd (K w.params))):
  PySem.W.WalkO q loose XP YP l.row.toRowW d [] (fun f vs=>PySem.call f vs):=
 L2.Kw (n:=63) (k:=17) (x:="_law_script") (CX:=fun _=>dq) (sp:=fun w=>yd (K w.params)) hn (by decide) hdf ⟨rfl,by decide,by decide,rfl⟩ hY F (fun _ _ a ns hl _ hS=>⟨a,ns,rfl,hS,hl,fun _=>rfl⟩) fun _ _ _ _ _ z=>z
end
end My
namespace PySem.W.Fast
theorem tw18223300966079497107 : True := trivial
theorem tw3626131909747262376 : True := trivial
theorem tw5445784272090380576 : True := trivial
theorem tw9902777786682944919 : True := trivial
theorem tw5465257784467833839 : True := trivial
theorem tw4710662013082367329 : True := trivial
theorem tw3989992016601263672 : True := trivial
theorem tw5444262180892985049 : True := trivial
theorem tw10023497733755902590 : True := trivial
theorem tw12237015725927578440 : True := trivial
theorem tw11712776480070843167 : True := trivial
theorem tw16487122267536913976 : True := trivial
theorem tw12149241002030687860 : True := trivial
theorem tw8301446990600134996 : True := trivial
theorem tw5174329720236280078 : True := trivial
theorem tw2711359636922056398 : True := trivial
theorem tw17820443170984975407 : True := trivial
theorem tw12460179389502043606 : True := trivial
theorem tw5353369019398492500 : True := trivial
theorem tw4711142402549234473 : True := trivial
theorem tw11243120363797831437 : True := trivial
theorem tw12275177464265532284 : True := trivial
theorem tw17217265356010712813 : True := trivial
theorem tw3888025471424702664 : True := trivial
theorem tw2432088213851782993 : True := trivial
theorem tw17010431928203703285 : True := trivial
theorem tw14879700659937160616 : True := trivial
theorem tw11076503179923929047 : True := trivial
theorem tw10986785345172098406 : True := trivial
theorem tw9999518326732294587 : True := trivial
theorem tw4772026883768837036 : True := trivial
theorem tw7856312320278134188 : True := trivial
theorem tw5345128503406611995 : True := trivial
theorem tw3499681342689222363 : True := trivial
theorem tw5641065458977660008 : True := trivial
theorem tw2300450088519162545 : True := trivial
theorem tw15282507564121118494 : True := trivial
theorem tw9679892304846483157 : True := trivial
theorem tw11289537999201635940 : True := trivial
theorem tw9312777544746807368 : True := trivial
theorem tw7273187388432882751 : True := trivial
theorem tw10803854815547747984 : True := trivial
theorem tw4188256079044236309 : True := trivial
theorem tw745717383798560993 : True := trivial
theorem tw15959772929818843148 : True := trivial
theorem tw1847943133044224558 : True := trivial
theorem tw12985044014953561332 : True := trivial
theorem tw15832778811983670414 : True := trivial
theorem tw15740322535867837369 : True := trivial
theorem tw11606636139025005994 : True := trivial
theorem tw9669410233780447055 : True := trivial
theorem tw6727665047046312822 : True := trivial
theorem tw629750488462838880 : True := trivial
theorem tw13251929273772623377 : True := trivial
theorem tw9219081650340624258 : True := trivial
theorem tw10456082033559995710 : True := trivial
theorem tw6229062284574475337 : True := trivial
theorem tw8091019503223619593 : True := trivial
theorem tw7950918195387155480 : True := trivial
theorem tw4327969102453917386 : True := trivial
theorem tw2943636316473621348 : True := trivial
theorem tw3873295602971682394 : True := trivial
theorem tw11453217421107799636 : True := trivial
theorem tw1671807701725061822 : True := trivial
theorem tw15729658654320118368 : True := trivial
theorem tw17266867444801429655 : True := trivial
theorem tw17744949068149679634 : True := trivial
theorem tw14632191820802980126 : True := trivial
theorem tw17831753692217780524 : True := trivial
theorem tw4582498949536618871 : True := trivial
theorem tw3993591908321590208 : True := trivial
theorem tw3195826572290545684 : True := trivial
theorem tw11504331176806508203 : True := trivial
theorem tw5732053598316399273 : True := trivial
theorem tw4509888897016522647 : True := trivial
theorem tw8230006904967611681 : True := trivial
theorem tw16340653465433382146 : True := trivial
theorem tw3329600823070015413 : True := trivial
theorem tw18393687305064297713 : True := trivial
theorem tw12769423263748767623 : True := trivial
theorem tw1302332997594055613 : True := trivial
theorem tw15499214412609312274 : True := trivial
theorem tw12561488244007202560 : True := trivial
theorem tw5020099071426492410 : True := trivial
theorem tw5396741201159175973 : True := trivial
theorem tw15700363149369102888 : True := trivial
theorem tw3098375145334401593 : True := trivial
theorem tw11054512055556493263 : True := trivial
theorem tw4354482829717601428 : True := trivial
theorem tw11879242344698966576 : True := trivial
theorem tw15888608213527356226 : True := trivial
theorem tw17606541204110322814 : True := trivial
theorem tw10962301476457815347 : True := trivial
theorem tw8820833655433121854 : True := trivial
theorem tw4008440529996329076 : True := trivial
theorem tw438851683522711734 : True := trivial
theorem tw4129672801427016221 : True := trivial
theorem tw1496927425031125003 : True := trivial
theorem tw3464211167404376464 : True := trivial
theorem tw6479227761074706448 : True := trivial
theorem tw2938888083316034868 : True := trivial
theorem tw12535525624245818638 : True := trivial
theorem tw445694159575757653 : True := trivial
theorem tw6129343693143962303 : True := trivial
theorem tw11980336888921234254 : True := trivial
theorem tw12155980046688198805 : True := trivial
theorem tw11375041065404894395 : True := trivial
theorem tw8757097461240704398 : True := trivial
theorem tw5004284670453015385 : True := trivial
theorem tw18355191822421970403 : True := trivial
theorem tw10385734653768228660 : True := trivial
theorem tw10743576010955028098 : True := trivial
theorem tw16254182550917014499 : True := trivial
theorem tw16349146573573589824 : True := trivial
theorem tw6716707588335913550 : True := trivial
theorem tw14644478392237436354 : True := trivial
theorem tw18099214639371207718 : True := trivial
theorem tw11404014334292102369 : True := trivial
theorem tw11214391124596635083 : True := trivial
theorem tw14034282909238920211 : True := trivial
theorem tw13585651176423771693 : True := trivial
theorem tw9273000606484587992 : True := trivial
theorem tw11228630109561590021 : True := trivial
theorem tw18249164331553789577 : True := trivial
theorem tw13845077869336871479 : True := trivial
theorem tw5820008640950715137 : True := trivial
theorem tw7404647406372005583 : True := trivial
theorem tw11118080936531595068 : True := trivial
theorem tw8707794501395709893 : True := trivial
theorem tw11628946826091416404 : True := trivial
theorem tw5176311755928510574 : True := trivial
theorem tw7120093978550092297 : True := trivial
theorem tw16582994696899328297 : True := trivial
theorem tw5734118124287979647 : True := trivial
theorem tw6291557128694318286 : True := trivial
theorem tw9202169700769462451 : True := trivial
theorem tw7526268824697326371 : True := trivial
theorem tw13326783280614148125 : True := trivial
theorem tw5706840223236125177 : True := trivial
theorem tw8198555227889554829 : True := trivial
theorem tw13671537703900850867 : True := trivial
theorem tw844627719270426755 : True := trivial
theorem tw16764515438579106864 : True := trivial
theorem tw6536730809222471147 : True := trivial
theorem tw12804724399011273420 : True := trivial
theorem tw2569598764071584267 : True := trivial
theorem tw4083787926105098334 : True := trivial
theorem tw7992371183966911884 : True := trivial
theorem tw10080607106578470725 : True := trivial
theorem tw2019342416538880325 : True := trivial
theorem tw16336137022595733777 : True := trivial
theorem tw17323261665877025747 : True := trivial
theorem tw17750552686031961922 : True := trivial
theorem tw16056892912893416022 : True := trivial
theorem tw10632734080611147881 : True := trivial
theorem tw9288120299947845585 : True := trivial
theorem tw5342937259065347849 : True := trivial
theorem tw16988938497736193926 : True := trivial
theorem tw8877219417397567217 : True := trivial
theorem tw17542784929684432459 : True := trivial
theorem tw12370804665650579109 : True := trivial
theorem tw7109826301309151461 : True := trivial
theorem tw13386310340947638646 : True := trivial
theorem tw1557315387808206529 : True := trivial
end PySem.W.Fast
open PySem PySem.W PyProof.Rows
set_option maxRecDepth 100000 in
set_option maxHeartbeats 0 in
theorem PySem.Challenge.cw_figurejudge_k84_texts_refused_holds : PySem.Challenge.rw_figurejudge_k84_texts_refused.Holds := by
 w_on;o_law;k_head;(case hw=>w_witness2)
 k_fill
 refine My.walk (l:=PySem.Challenge.rw_figurejudge_k84_texts_refused) rfl rfl (fun w h Y=>PySem.W.kIn_of Y) ?F
 case F=>
  intro w mg fa h KX G hmg
  refine' My.all_mk KX G hmg ?a0 ?l0 ?c0 ?k0 ?a1 ?l1 ?c1 ?k1 ?a2 ?l2 ?c2 ?k2 ?a3 ?l3 ?c3 ?k3 ?a4 ?l4 ?c4 ?k4 ?a5 ?l5 ?c5 ?k5 ?a6 ?l6 ?c6 ?k6 ?a7 ?l7 ?c7 ?k7 ?a8 ?l8 ?c8 ?k8 ?a9 ?l9 ?c9 ?k9 ?a10 ?l10 ?c10 ?k10 ?a11 ?l11 ?c11 ?k11 ?a12 ?l12 ?c12 ?k12 ?a13 ?l13 ?c13 ?k13 ?a14 ?l14 ?c14 ?k14 ?a15 ?l15 ?c15 ?k15 ?a16 ?l16 ?c16 ?k16 ?a17 ?l17 ?c17 ?k17 ?a18 ?l18 ?c18 ?k18 ?a19 ?l19 ?c19 ?k19 ?a20 ?l20 ?c20 ?k20 ?a21 ?l21 ?c21 ?k21 ?a22 ?l22 ?c22 ?k22 ?a23 ?l23 ?c23 ?k23 ?a24 ?l24 ?c24 ?k24 ?a25 ?l25 ?c25 ?k25 ?a26 ?l26 ?c26 ?k26 ?a27 ?l27 ?c27 ?k27 ?a28 ?l28 ?c28 ?k28 ?a29 ?l29 ?c29 ?k29 ?a30 ?l30 ?c30 ?k30 ?a31 ?l31 ?c31 ?k31 ?a32 ?l32 ?c32 ?k32 ?a33 ?l33 ?c33 ?k33 ?a34 ?l34 ?c34 ?k34 ?a35 ?l35 ?c35 ?k35 ?a36 ?l36 ?c36 ?k36 ?z0 ?z1 ?z2 ?z3 ?z4 ?z5 ?z6 ?z7 ?z8 ?z9 ?z10 ?z11 ?z12 ?z13 ?gg0 ?gg1 ?gg2 ?gg3 ?gg4 ?xDa ?xDl ?xDnl ?xDno ?xDni ?xDg ?xDr ?xDf ?xDga ?xDgh ?xDsa ?xDcl ?xgt ?xtk ?xzV ?x1a ?x1l ?x1ga ?x1gh ?x1sa ?x1cl ?x1i ?x1fl ?x1fc ?x1fk ?x1fn ?x1k ?x1n ?x2a ?x2l ?x2ga ?x2gh ?x2sa ?x2cl ?x2i ?x2fl ?x2fc ?x2fk ?x2fn ?x2k ?x2n ?x3a ?x3l ?x3ga ?x3gh ?x3sa ?x3cl ?x3i ?x3fl ?x3fc ?x3fk ?x3fn ?x3k ?x3n ?x4a ?x4l ?x4ga ?x4gh ?x4sa ?x4cl ?x4i ?x4fl ?x4fc ?x4fk ?x4fn ?x4k ?xne ?p_a ?p_l ?p_k ?p_s ?pq_no ?pr_no ?pq_an ?pr_an ?pq_or ?pr_or ?pq_so ?pr_so ?pq_ea ?pr_ea ?pq_same ?pq_less ?pq_sign ?pq_alike
  (case a0=>k_is)
  (case l0=>k_is)
  (case c0=>k_is)
  (case k0=>k_is)
  (case a1=>k_is)
  (case l1=>k_is)
  (case c1=>k_is)
  (case k1=>k_is)
  (case a2=>k_is)
  (case l2=>k_is)
  (case c2=>k_is)
  (case k2=>k_is)
  (case a3=>k_is)
  (case l3=>k_is)
  (case c3=>k_is)
  (case k3=>k_is)
  (case a4=>k_is)
  (case l4=>k_is)
  (case c4=>k_is)
  (case k4=>k_is)
  (case a5=>k_is)
  (case l5=>k_is)
  (case c5=>k_is)
  (case k5=>k_is)
  (case a6=>k_is)
  (case l6=>k_is)
  (case c6=>k_is)
  (case k6=>k_is)
  (case a7=>k_is)
  (case l7=>k_is)
  (case c7=>k_is)
  (case k7=>k_is)
  (case a8=>k_is)
  (case l8=>k_is)
  (case c8=>k_is)
  (case k8=>k_is)
  (case a9=>k_is)
  (case l9=>k_is)
  (case c9=>k_is)
  (case k9=>k_is)
  (case a10=>k_is)
  (case l10=>k_is)
  (case c10=>k_is)
  (case k10=>k_is)
  (case a11=>k_is)
  (case l11=>k_is)
  (case c11=>k_is)
  (case k11=>k_is)
  (case a12=>k_is)
  (case l12=>k_is)
  (case c12=>k_is)
  (case k12=>k_is)
  (case a13=>k_is)
  (case l13=>k_is)
  (case c13=>k_is)
  (case k13=>k_is)
  (case a14=>k_is)
  (case l14=>k_is)
  (case c14=>k_is)
  (case k14=>k_is)
  (case a15=>k_is)
  (case l15=>k_is)
  (case c15=>k_is)
  (case k15=>k_is)
  (case a16=>k_is)
  (case l16=>k_is)
  (case c16=>k_is)
  (case k16=>k_is)
  (case a17=>k_is)
  (case l17=>k_is)
  (case c17=>k_is)
  (case k17=>k_is)
  (case a18=>k_is)
  (case l18=>k_is)
  (case c18=>k_is)
  (case k18=>k_is)
  (case a19=>k_is)
  (case l19=>k_is)
  (case c19=>k_is)
  (case k19=>k_is)
  (case a20=>k_is)
  (case l20=>k_is)
  (case c20=>k_is)
  (case k20=>k_is)
  (case a21=>k_is)
  (case l21=>k_is)
  (case c21=>k_is)
  (case k21=>k_is)
  (case a22=>k_is)
  (case l22=>k_is)
  (case c22=>k_is)
  (case k22=>k_is)
  (case a23=>k_is)
  (case l23=>k_is)
  (case c23=>k_is)
  (case k23=>k_is)
  (case a24=>k_is)
  (case l24=>k_is)
  (case c24=>k_is)
  (case k24=>k_is)
  (case a25=>k_is)
  (case l25=>k_is)
  (case c25=>k_is)
  (case k25=>k_is)
  (case a26=>k_is)
  (case l26=>k_is)
  (case c26=>k_is)
  (case k26=>k_is)
  (case a27=>k_is)
  (case l27=>k_is)
  (case c27=>k_is)
  (case k27=>k_is)
  (case a28=>k_is)
  (case l28=>k_is)
  (case c28=>k_is)
  (case k28=>k_is)
  (case a29=>k_is)
  (case l29=>k_is)
  (case c29=>k_is)
  (case k29=>k_is)
  (case a30=>k_is)
  (case l30=>k_is)
  (case c30=>k_is)
  (case k30=>k_is)
  (case a31=>k_is)
  (case l31=>k_is)
  (case c31=>k_is)
  (case k31=>k_is)
  (case a32=>k_is)
  (case l32=>k_is)
  (case c32=>k_is)
  (case k32=>k_is)
  (case a33=>k_is)
  (case l33=>k_is)
  (case c33=>k_is)
  (case k33=>k_is)
  (case a34=>k_is)
  (case l34=>k_is)
  (case c34=>k_is)
  (case k34=>k_is)
  (case a35=>k_is)
  (case l35=>k_is)
  (case c35=>k_is)
  (case k35=>k_is)
  (case a36=>k_is)
  (case l36=>k_is)
  (case c36=>k_is)
  (case k36=>k_is)
  (case z0=>k_is)
  (case z1=>k_is)
  (case z2=>k_is)
  (case z3=>k_is)
  (case z4=>k_is)
  (case z5=>k_is)
  (case z6=>k_is)
  (case z7=>k_is)
  (case z8=>k_is)
  (case z9=>k_is)
  (case z10=>k_is)
  (case z11=>k_is)
  (case z12=>k_is)
  (case z13=>k_is)
  (case gg0=>k_is)
  (case gg1=>k_is)
  (case gg2=>k_is)
  (case gg3=>k_is)
  (case gg4=>k_is)
  (case xDa=>k_is)
  (case xDl=>k_is)
  (case xDnl=>k_is)
  (case xDno=>simp[L2.nsO])
  (case xDni=>k_is)
  (case xDg=>k_is)
  (case xDr=>k_is)
  (case xDf=>k_is)
  (case xDga=>k_is)
  (case xDgh=>k_is)
  (case xDsa=>k_is)
  (case xDcl=>k_is)
  (case xgt=>k_is)
  (case xtk=>k_is)
  (case xzV=>k_is)
  (case x1a=>k_is)
  (case x1l=>k_is)
  (case x1ga=>k_is)
  (case x1gh=>k_is)
  (case x1sa=>k_is)
  (case x1cl=>k_is)
  (case x1i=>k_is)
  (case x1fl=>k_is)
  (case x1fc=>k_is)
  (case x1fk=>k_is)
  (case x1fn=>k_is)
  (case x1k=>k_is)
  (case x1n=>k_is)
  (case x2a=>k_is)
  (case x2l=>k_is)
  (case x2ga=>k_is)
  (case x2gh=>k_is)
  (case x2sa=>k_is)
  (case x2cl=>k_is)
  (case x2i=>k_is)
  (case x2fl=>k_is)
  (case x2fc=>k_is)
  (case x2fk=>k_is)
  (case x2fn=>k_is)
  (case x2k=>k_is)
  (case x2n=>k_is)
  (case x3a=>k_is)
  (case x3l=>k_is)
  (case x3ga=>k_is)
  (case x3gh=>k_is)
  (case x3sa=>k_is)
  (case x3cl=>k_is)
  (case x3i=>k_is)
  (case x3fl=>k_is)
  (case x3fc=>k_is)
  (case x3fk=>k_is)
  (case x3fn=>k_is)
  (case x3k=>k_is)
  (case x3n=>k_is)
  (case x4a=>k_is)
  (case x4l=>k_is)
  (case x4ga=>k_is)
  (case x4gh=>k_is)
  (case x4sa=>k_is)
  (case x4cl=>k_is)
  (case x4i=>k_is)
  (case x4fl=>k_is)
  (case x4fc=>k_is)
  (case x4fk=>k_is)
  (case x4fn=>k_is)
  (case x4k=>k_is)
  (case xne=>decide)
  (case p_a=>k_is)
  (case p_l=>k_is)
  (case p_k=>repeat (first | exact⟨⟩ | refine⟨⟨_,_,rfl,rfl⟩,?_⟩))
  (case p_s=>rfl)
  (case pq_no=>k_is)
  (case pr_no=>k_is)
  (case pq_an=>k_is)
  (case pr_an=>k_is)
  (case pq_or=>k_is)
  (case pr_or=>k_is)
  (case pq_so=>k_is)
  (case pr_so=>k_is)
  (case pq_ea=>k_is)
  (case pr_ea=>k_is)
  (case pq_same=>k_is)
  (case pq_less=>k_is)
  (case pq_sign=>k_is)
  (case pq_alike=>k_is)
#print axioms PySem.Challenge.cw_figurejudge_k84_texts_refused_holds
