import PyProof.Rows.All
import Wide.All
import OpenK.AllK
import Wide.FinOn
import Lean
import PyProof.EqAt
import PyProof.EqKinds
import PyProof.TupleCall
import PyProof.NeKinds
import PyProof.ListRange
import PyProof.Draws
import PyProof.Rows.SortStr
import KE.KDictSum
import KE.KEqDict
import KE.KDictOf
import KE.KRevSl
import PyProof.StrWalks
import PyProof.StrBlock2
import PyProof.SetKind
import PyProof.SetRoads
import PyProof.Rows.SetFrom
import PyProof.ReprRoads
import PyProof.ReprLen
import PyProof.NsDelKeeps
import PyProof.ListMulRoad
import PyProof.FactsAll.tuple_2
import KE.KLam
import KE.KNestM
import PyProof.AttrMissHeap
import PyProof.Rows.SortShell
import PySem.Challenge.RW_figurejudge_k33_same_and_less_by_sums
set_option Elab.async false
set_option linter.all false
set_option maxRecDepth 100000
set_option maxHeartbeats 4000000
namespace L2
open PySem PySem.Spec PyProof.Rows
abbrev Key:=Sum Int Str
def lP:Key→Value→Bool
 | .inl k,v=>Value.isInt k v
 | .inr x,v=>Value.isStrOf x v
def Qh (w:World):Key→Int
 | .inl k=>hashInt k
 | .inr x=>hashStr w x
theorem ck:∀{k:Key} {v:Value},lP k v=true→(∃i t,k=Sum.inl i∧v=Value.int i t)∨(∃x t,k=Sum.inr x∧v=Value.str x t)
 | .inl i,v,h=>by
  obtain⟨t,e⟩:=Value.isInt_shape (k:=i) (v:=v) h
  exact .inl ⟨i,t,rfl,e⟩
 | .inr x,v,h=>by
  obtain⟨t,e⟩:=Value.isStrOf_shape (x:=x) (v:=v) h
  exact .inr ⟨x,t,rfl,e⟩
theorem Bc (i:Int) (t:Tok):lP (.inl i) (.int i t)=true:=by simp[lP,Value.isInt]
theorem Be (x:Str) (t:Tok):lP (.inr x) (.str x t)=true:=by simp[lP,Value.isStrOf]
theorem Iz (a b:Int):decide ((Sum.inl a:Key)=Sum.inl b)=(a == b):=by
 by_cases e:a=b
 ·subst e;simp
 ·have h:¬(Sum.inl a:Key)=Sum.inl b:=fun q=>e (Sum.inl.inj q)
  rw[decide_eq_false h]
  exact(beq_eq_false_iff_ne.mpr e).symm
theorem IA (a b:Str):decide ((Sum.inr a:Key)=Sum.inr b)=decide (a=b):=by
 by_cases e:a=b
 ·subst e;simp
 ·have h:¬(Sum.inr a:Key)=Sum.inr b:=fun q=>e (Sum.inr.inj q)
  rw[decide_eq_false h,decide_eq_false e]
theorem IB (a:Int) (b:Str):decide ((Sum.inl a:Key)=Sum.inr b)=false:=decide_eq_false (fun q=>nomatch q)
theorem IC (a:Str) (b:Int):decide ((Sum.inr a:Key)=Sum.inl b)=false:=decide_eq_false (fun q=>nomatch q)
def aV (prog:Program) (w:World):PySem.KeyKind prog w Key where
 is:=lP
 hash:=Qh w
 inj:=fun v a b ha hb=>by
  rcases ck ha with⟨i,t,rfl,rfl⟩ | ⟨x,t,rfl,rfl⟩
  ·rcases ck hb with⟨j,u,rfl,e⟩ | ⟨y,u,rfl,e⟩
   ·injection e with e1 _;rw[e1]
   ·exact nomatch e
  ·rcases ck hb with⟨j,u,rfl,e⟩ | ⟨y,u,rfl,e⟩
   ·exact nomatch e
   ·injection e with e1 _;rw[e1]
 byValue:=fun k v h=>by
  rcases ck h with⟨i,t,rfl,rfl⟩ | ⟨x,t,rfl,rfl⟩<;>rfl
 pyHash:=fun hv h=>by
  rcases ck hv with⟨i,t,rfl,rfl⟩ | ⟨x,t,rfl,rfl⟩
  ·exact wpAny_pyHash_int h
  ·exact wpAny_pyHash_str h
 eqBool:=fun hu hv h=>by
  rcases ck hu with⟨i,t,rfl,rfl⟩ | ⟨x,t,rfl,rfl⟩
  ·rcases ck hv with⟨j,u,rfl,rfl⟩ | ⟨y,u,rfl,rfl⟩
   ·rw[Iz] at h;exact wpAny_eqBool_int h
   ·rw[IB] at h;exact SeqAt.EqAt.int_str i t y u _ _ _ _ h
  ·rcases ck hv with⟨j,u,rfl,rfl⟩ | ⟨y,u,rfl,rfl⟩
   ·rw[IC] at h;exact SeqAt.EqAt.str_int x t j u _ _ _ _ h
   ·rw[IA] at h;exact wpAny_eqBool_str h
 «strs» :=fun k x t v h=>by
  rcases ck h with⟨i,u,rfl,e⟩ | ⟨y,u,rfl,e⟩
  ·exact nomatch e
  ·injection e with e1 _
   subst e1
   cases v<;>rfl
theorem yv (prog:Program) (w:World) (i:Int) (t:Tok):(aV prog w).is (.inl i) (.int i t)=true:=Bc i t
theorem yw (prog:Program) (w:World) (x:Str) (t:Tok):(aV prog w).is (.inr x) (.str x t)=true:=Be x t
inductive V where
 | non | bl (b:Bool) | int (i:Int) | str (x:Str) | jC (b:Array UInt8) | flt (b:UInt64) | ref (a:Addr) | ty (n:String)
 deriving DecidableEq
def RelV:V→Value→Prop
 | .non,u=>u=Value.none
 | .bl b,u=>u=Value.bool b
 | .int i,u=>∃t,u=Value.int i t
 | .str x,u=>∃t,u=Value.str x t
 | .jC b,u=>∃t,u=Value.bytes b t
 | .flt b,u=>∃t,u=Value.float b t
 | .ref a,u=>u=Value.ref a
 | .ty n,u=>u=Value.type n
abbrev Vals:List V→List Value→Prop:=Paired RelV
theorem Vals.length {xs:List V} {us:List Value} (r:Vals xs us):xs.length=us.length:=Paired.length r
theorem Vals.get:∀{xs:List V} {us:List Value} {i:Nat} {x:V},Vals xs us→xs[i]? =some x→∃u,us[i]? =some u∧RelV x u
 | _,_,_,_,.nil,e=>by simp at e
 | _,_,0,_,.cons r _,e=>by simp at e;subst e;exact⟨_,rfl,r⟩
 | _,_,i+1,x,.cons _ t,e=>by
  obtain⟨u,h1,h2⟩:=Vals.get (i:=i) (x:=x) t (by simpa using e)
  exact⟨u,by simpa using h1,h2⟩
theorem Vals.append:∀{xs ys:List V} {us ws:List Value},Vals xs us→Vals ys ws→Vals (xs++ys) (us++ws)
 | _,_,_,_,.nil,s=>s
 | _,_,_,_,.cons r t,s=>.cons r (Vals.append t s)
theorem Vals.take:∀{xs:List V} {us:List Value} (n:Nat),Vals xs us→Vals (xs.take n) (us.take n)
 | _,_,0,_=>.nil
 | _,_,_+1,.nil=>.nil
 | _,_,n+1,.cons r t=>.cons r (Vals.take n t)
theorem Vals.drop:∀{xs:List V} {us:List Value} (n:Nat),Vals xs us→Vals (xs.drop n) (us.drop n)
 | _,_,0,r=>r
 | _,_,_+1,.nil=>.nil
 | _,_,n+1,.cons _ t=>Vals.drop n t
def fm:Option V→Option Value→Prop
 | some v,some u=>RelV v u
 | none,none=>True
 | _,_=>False
def KV {κ:Type}:List (κ×V)→List (κ×Value)→Prop:=Paired fun(p:κ×V) (q:κ×Value)=>p.1=q.1∧RelV p.2 q.2
def kV:Key→V
 | .inl i=>.int i
 | .inr x=>.str x
inductive HO where
 | lst (xs:List V)
 | tup (xs:List V)
 | dK (kvs:List (Key×V)) | dT (kvs:List (List Key×V))
 | set (S:Int→Bool) (n:Nat)
 | ins (C dx:Addr) (fs:List (Str×V))
 | own (x:Addr)
 | xd (fs:List (Str×V))
 | met (f x:Addr)
 | rng (lo hi:Int)
 | c_ (o:Obj) (u:HO)
 | h9 (ps:Array Value)
 | ext (φ:Heap→Prop)
abbrev Hp:=Addr→Option HO
def upd (H:Hp) (a:Addr) (o:HO):Hp:=fun b=>if b=a then some o else H b
theorem af {H:Hp} {a:Addr} {o:HO}:upd H a o a=some o:=by unfold upd;rw[if_pos rfl]
theorem au {H:Hp} {a b:Addr} {o:HO} (h:b≠a):upd H a o b=H b:=by unfold upd;rw[if_neg h]
theorem dR {H:Hp} {a b:Addr} {o u:HO} (h:H a=some o) (h':H b=some u) (d:o≠u):a≠b:=by
 intro e;subst e;rw[h] at h';exact d (Option.some.inj h')
theorem av {H:Hp} {a b:Addr} {o:HO} (h:H a=some o) (h':H b=none):a≠b:=by
 intro e;subst e;rw[h] at h';cases h'
section
variable (P:Program) (w:World)
def bb (H:Hp) (h:Heap) (a:Addr):HO→Prop
 | .lst xs=>xs.length≤sizeLine∧∃(its:List Value) (n:Nat),Vals xs its∧h.get? a=some {cls:=.type "list",data:=.seq its.toArray n}
 | .tup xs=>(xs.length≤sizeLine∧∃o,h.get? a=some o∧o.dict=none)∧∃its:List Value,Vals xs its∧IsTup h a its.toArray
 | .dK kvs=>kvs.length≤sizeLine∧(a == sysModules)=false∧∃vs,KV kvs vs∧h.DictOf (aV P w) a vs
 | .dT kvs=>kvs.length≤sizeLine∧(a == sysModules)=false∧∃xs:List (List Key×Addr×Value),
   Paired (fun(p:List Key×V) (q:List Key×Addr×Value)=>p.1=q.1∧H q.2.1=some (.tup (p.1.map kV))∧RelV p.2 q.2.2) kvs xs∧
   ∃o es ep,h.get? a=some o∧o.ExactDict∧o.data=.dict es ep∧es.toList=xs.map (entryOfKey (tupleKind (aV P w)))∧(xs.map (·.1)).Nodup
 | .set S n=>h.SetOf (intKind P w) a S n
 | .ins C dx fs=>H dx=some (.own a)∧fs.length≤1000∧dx≠a∧h.get? a=some (PySem.W.instObj C dx)∧
   ∃mA,h.Ns1 dx mA∧(∀f,fm (fs.lookup f) (mA f))∧PySem.Within mA (fs.map (·.1))
 | .own _=>∃o,h.get? a=some o
 | .xd fs=>∃mA,h.Ns1 a mA∧∀f,fm (fs.lookup f) (mA f)
 | .rng lo hi=>∃t u v,h.get? a=some {cls:=.type "range",data:=.fields #[.int lo t,.int hi u,.int 1 v]}
 | .c_ o u=>h.get? a=some o∧bb H h a u
 | .h9 ps=>h.get? a=some {cls:=.none,data:=.fields ps}
 | .met f x=>h.get? a=some (PySem.W.methodObj (.ref f) (.ref x))
 | .ext φ=>φ h∧(∃o,h.get? a=some o)∧∀h1 h2:Heap,φ h1→(∀o,h1.get? a=some o→h2.get? a=some o)→φ h2
def cG (H:Hp) (h:Heap):Prop:=∀a o,H a=some o→bb P w H h a o
end
section
variable {P:Program} {w:World} {H H':Hp} {h h':Heap} {a:Addr} {o:HO}
theorem bb.lt (x:bb P w H h a o):a<h.objs.size:=by
 cases o with
 | lst xs=>obtain⟨_,_,_,_,e⟩:=x;exact Heap.lt_size e
 | tup xs=>obtain⟨_,_,_,p⟩:=x;exact p.lt
 | dK kvs=>obtain⟨_,_,_,_,o,_,_,e,_⟩:=x;exact Heap.lt_size e
 | dT kvs=>obtain⟨_,_,_,_,o,_,_,e,_⟩:=x;exact Heap.lt_size e
 | set S n=>obtain⟨o,_,_,_,e,_⟩:=x;exact Heap.lt_size e
 | ins C dx fs=>obtain⟨_,_,_,e,_⟩:=x;exact Heap.lt_size e
 | own y=>obtain⟨_,e⟩:=x;exact Heap.lt_size e
 | xd fs=>obtain⟨_,⟨_,_,_,e,_⟩,_⟩:=x;exact Heap.lt_size e
 | rng lo hi=>obtain⟨_,_,_,e⟩:=x;exact Heap.lt_size e
 | c_ ob u=>obtain⟨e,_⟩:=x;exact Heap.lt_size e
 | h9 ps=>exact Heap.lt_size (show h.get? a=some _ from x)
 | met f y=>exact Heap.lt_size (show h.get? a=some _ from x)
 | ext φ=>obtain⟨_,⟨_,e⟩,_⟩:=x;exact Heap.lt_size e
theorem Paired.nr {α β:Type} {F G:α→β→Prop}:∀{l₁:List α} {l₂:List β},Paired F l₁ l₂→(∀a b,F a b→G a b)→Paired G l₁ l₂
 | _,_,.nil,_=>.nil
 | _,_,.cons r t,f=>.cons (f _ _ r) (Paired.nr t f)
theorem bb.stay (x:bb P w H h a o) (k:∀b u,(b=a∨H b=some (.own a))→h.get? b=some u→h'.get? b=some u)
  (ho:∀b,H b=some (.own a)→H' b=some (.own a)) (ht:∀b xs,H b=some (.tup xs)→H' b=some (.tup xs)):bb P w H' h' a o:=by
 induction o with
 | lst xs=>obtain⟨z,its,n,r,e⟩:=x;exact⟨z,its,n,r,k _ _ (.inl rfl) e⟩
 | tup xs=>obtain⟨⟨z,o2,e2,d2⟩,its,r,ob,e,c⟩:=x;exact⟨⟨z,o2,k _ _ (.inl rfl) e2,d2⟩,its,r,ob,k _ _ (.inl rfl) e,c⟩
 | dK kvs=>obtain⟨z,y,vs,r,ob,es,ep,e,c⟩:=x;exact⟨z,y,vs,r,ob,es,ep,k _ _ (.inl rfl) e,c⟩
 | dT kvs=>
  obtain⟨z,y,xs,r,ob,es,ep,e,c⟩:=x
  exact⟨z,y,xs,Paired.nr r fun p q z=>⟨z.1,ht _ _ z.2.1,z.2.2⟩,ob,es,ep,k _ _ (.inl rfl) e,c⟩
 | set S n=>obtain⟨ob,es,ep,t,e,c⟩:=x;exact⟨ob,es,ep,t,k _ _ (.inl rfl) e,c⟩
 | ins C dx fs=>
  obtain⟨d,z,ne,e,mA,⟨od,es,ep,e2,c⟩,r⟩:=x
  exact⟨ho _ d,z,ne,k _ _ (.inl rfl) e,mA,⟨od,es,ep,k _ _ (.inr d) e2,c⟩,r⟩
 | own y=>obtain⟨ob,e⟩:=x;exact⟨ob,k _ _ (.inl rfl) e⟩
 | xd fs=>obtain⟨mA,⟨od,es,ep,e,c⟩,r⟩:=x;exact⟨mA,⟨od,es,ep,k _ _ (.inl rfl) e,c⟩,r⟩
 | rng lo hi=>obtain⟨t,u,v,e⟩:=x;exact⟨t,u,v,k _ _ (.inl rfl) e⟩
 | c_ ob u ih=>obtain⟨e,q⟩:=x;exact⟨k _ _ (.inl rfl) e,ih q⟩
 | h9 ps=>
  have e:h.get? a=some {cls:=.none,data:=.fields ps}:=x
  show h'.get? a=some {cls:=.none,data:=.fields ps}
  exact k a _ (.inl rfl) e
 | met f y=>
  have e:h.get? a=some (PySem.W.methodObj (.ref f) (.ref y)):=x
  show h'.get? a=some (PySem.W.methodObj (.ref f) (.ref y))
  exact k a _ (.inl rfl) e
 | ext φ=>obtain⟨p,⟨o,e⟩,st⟩:=x;exact⟨st _ _ p fun o q=>k _ _ (.inl rfl) q,⟨o,k _ _ (.inl rfl) e⟩,st⟩
theorem cG.lt (x:cG P w H h) (e:H a=some o):a<h.objs.size:=(x a o e).lt
theorem cG.fresh (x:cG P w H h) (e:h.objs.size≤a):H a=none:=by
 cases q:H a with
 | none=>rfl
 | some u=>exact absurd (Nat.lt_of_lt_of_le (x.lt q) e) (Nat.lt_irrefl _)
theorem cG.kept (x:cG P w H h) (k:∀b u,h.get? b=some u→h'.get? b=some u):cG P w H h':=fun a o e=>
 (x a o e).stay (fun b u _ q=>k b u q) (fun _ q=>q) fun _ _ q=>q
theorem cG.laid (x:cG P w H h) (k:∀b u,h.get? b=some u→h'.get? b=some u) (hp:h.objs.size≤a) (new:bb P w (upd H a o) h' a o):cG P w (upd H a o) h':=fun b u e=>by
 have hn:=x.fresh hp
 by_cases hb:b=a
 ·subst hb;rw[af] at e;cases e;exact new
 ·rw[au hb] at e
  exact(x b u e).stay (fun c v _ q=>k c v q) (fun c q=>by rw[au (av q hn)];exact q) fun c xs q=>by rw[au (av q hn)];exact q
end
def Rd (H:Hp) (a:Addr) (u:HO):Prop:=H a=some u∨∃o,H a=some (.c_ o u)
theorem Rd.ok {P:Program} {w:World} {H:Hp} {h:Heap} {a:Addr} {u:HO} (r:Rd H a u) (x:cG P w H h):bb P w H h a u:=by
 rcases r with r | ⟨o,r⟩
 ·exact x a u r
 ·obtain⟨_,q⟩:=x a _ r
  exact q
def Bf:Option HO→Prop
 | some (.lst _)=>True
 | some (.dK _)=>True
 | some (.dT _)=>True
 | some (.set _ _)=>True
 | some (.ins _ _ _)=>True
 | some (.ext _)=>True
 | _=>False
section
variable {P:Program} {w:World} {H:Hp} {h h':Heap} {x e:Addr} {o':HO}
theorem cG.write (ok:cG P w H h) (mu:Bf (H x)) (he:e=x∨H e=some (.own x)) (k:∀b u,b≠e→h.get? b=some u→h'.get? b=some u) (heo:∃u,h'.get? e=some u)
  (new:bb P w (upd H x o') h' x o'):cG P w (upd H x o') h':=fun b u q=>by
 have IE:∀c y,H c=some (.own y)→c≠x:=fun c y r z=>by subst z;rw[r] at mu;exact mu
 have Qi:∀c xs,H c=some (.tup xs)→c≠x:=fun c xs r z=>by subst z;rw[r] at mu;exact mu
 by_cases hb:b=x
 ·subst hb;rw[af] at q;cases q;exact new
 ·rw[au hb] at q
  by_cases hbe:b=e
  ·have q':H b=some (.own x):=by
    rcases he with z | z
    ·exact absurd (hbe.trans z) hb
    ·rw[hbe];exact z
   rw[q] at q';cases q'
   obtain⟨v,hv⟩:=heo
   exact⟨v,by rw[hbe];exact hv⟩
  ·refine(ok b u q).stay (fun c v hc r=>k c v ?_ r) (fun c r=>by rw[au (IE c b r)];exact r) fun c xs r=>by rw[au (Qi c xs r)];exact r
   rcases hc with rfl | hc
   ·exact hbe
   ·rintro rfl
    rcases he with z | z
    ·exact IE c b hc z
    ·rw[hc] at z;cases z;exact hb rfl
end
structure Un (fs ex:List Addr) (H H':Hp) (h h':Heap):Prop where
 keep:∀b o,h.get? b=some o→H b=none→b ∉ fs→b ∉ ex→h'.get? b=some o
 slot:∀b o,h.get? b=some o→H b=none→b∈fs→b ∉ ex→∃sl,h'.get? b=some {o with slots:=sl}
 free:∀b o,h.get? b=some o→H b=none→b ∉ ex→H' b=none
 there:∀b o,h.get? b=some o→b ∉ ex→∃o',h'.get? b=some o'
 tups:∀b xs,H b=some (.tup xs)→H' b=some (.tup xs)
 jD:∀b o u,H b=some (.c_ o u)→H' b=some (.c_ o u)
 jE:∀b ps,H b=some (.h9 ps)→∃more,H' b=some (.h9 (ps++more))
section
variable {fs fs' ex ex':List Addr} {H H1 H2:Hp} {h h1 h2 h':Heap} {a x e:Addr} {o:HO}
theorem Un.any (u:Un fs ex H H1 h h1) {b:Addr} {ob:Obj} (q:h.get? b=some ob) (n:H b=none) (hx:b ∉ ex):∃sl,h1.get? b=some {ob with slots:=sl}:=by
 by_cases hb:b∈fs
 ·exact u.slot b ob q n hb hx
 ·exact⟨ob.slots,u.keep b ob q n hb hx⟩
theorem Un.kept (k:∀b u,h.get? b=some u→h'.get? b=some u):Un fs ex H H h h':=
 ⟨fun b ob q _ _ _=>k b ob q,fun b ob q _ _ _=>⟨ob.slots,k b ob q⟩,fun _ _ _ n _=>n,fun b ob q _=>⟨ob,k b ob q⟩,fun _ _ q=>q,fun _ _ _ q=>q,fun _ ps q=>⟨#[],by rw[q];simp⟩⟩
theorem Un.refl:Un fs ex H H h h:=Un.kept fun _ _ q=>q
theorem Un.laid (k:∀b u,h.get? b=some u→h'.get? b=some u) (hp:h.objs.size≤a) (hn:H a=none):Un fs ex H (upd H a o) h h' where
 keep:=fun b u q _ _ _=>k b u q
 slot:=fun b u q _ _ _=>⟨u.slots,k b u q⟩
 free:=fun b u q n _=>by rw[au (Nat.ne_of_lt (Nat.lt_of_lt_of_le (Heap.lt_size q) hp))];exact n
 there:=fun b u q _=>⟨u,k b u q⟩
 tups:=fun b xs q=>by rw[au (av q hn)];exact q
 jD:=fun b u xs q=>by rw[au (av q hn)];exact q
 jE:=fun b ps q=>⟨#[],by rw[au (av q hn),q];simp⟩
theorem Un.write (mu:Bf (H x)) (he:e=x∨H e=some (.own x)) (k:∀b u,b≠e→h.get? b=some u→h'.get? b=some u) (heo:∃u,h'.get? e=some u):Un fs ex H (upd H x o) h h':=by
 have hx:∀b,H b=none→b≠x:=fun b n z=>by subst z;rw[n] at mu;exact mu
 have hb:∀b,H b=none→b≠e:=fun b n z=>by
  subst z
  rcases he with r | r
  ·exact hx b n r
  ·rw[n] at r;cases r
 have hm:∀b u,H b=some u→¬Bf (some u)→b≠x:=fun b u q nm z=>by subst z;rw[q] at mu;exact nm mu
 refine⟨fun b u q n _ _=>k b u (hb b n) q,fun b u q n _ _=>⟨u.slots,k b u (hb b n) q⟩,fun b u q n _=>by rw[au (hx b n)];exact n,fun b u q _=>?_,
  fun b xs q=>by rw[au (hm b _ q fun z=>z)];exact q,fun b u xs q=>by rw[au (hm b _ q fun z=>z)];exact q,fun b ps q=>⟨#[],by rw[au (hm b _ q fun z=>z),q];simp⟩⟩
 by_cases hbe:b=e
 ·subst hbe;exact heo
 ·exact⟨u,k b u hbe q⟩
end
def FL (h:Heap) (H:Hp):List Addr:=(List.range h.objs.size).filter fun a=>(H a).isSome
def jF (h:Heap) (H:Hp):Heap:=PySem.W.hideAll h (FL h H)
theorem tF (h:Heap) (H:Hp):(jF h H).objs.size=h.objs.size:=PySem.W.hideAll_size _ _
theorem vN {h:Heap} {H:Hp} {b:Addr} {o:Obj} (e:h.get? b=some o) (n:H b=none):(jF h H).get? b=some o:=
 PySem.W.hideAll_get _ e fun hm=>by
  have q:(H b).isSome=true:=(List.mem_filter.mp hm).2
  rw[n] at q;simp at q
theorem yJ {h:Heap} {H:Hp} {b:Addr} {o:Obj} (e:(jF h H).get? b=some o):h.get? b=some o∧H b=none:=by
 have e':h.get? b=some o:=PySem.W.of_hideAll (FL h H) e
 refine⟨e',?_⟩
 cases q:H b with
 | none=>rfl
 | some x=>
  have hm:b∈FL h H:=List.mem_filter.mpr ⟨List.mem_range.mpr (Heap.lt_size e'),by simp[q]⟩
  have z:(jF h H).get? b=none:=PySem.W.hideAll_none (FL h H) hm
  rw[z] at e;cases e
structure Mod (K:PySem.W.Frag) (mg:Str→Option Value) (base:Heap):Prop where
 oP:K.In base
 glob:base.Ns mainGlobals mg
 blt:∃mb,base.Ns builtinsNs mb∧∀x:Str,x≠"__name__"→mb x=bootBuiltins x
 nolimit:base.NoLimit
structure Cx where
 prog:Program
 w:World
 K:PySem.W.Frag
 mg:Str→Option Value
 base:Heap
 A:Around
 N:List Str
 s₀:Shared
 H₀:Hp
 env:Env
 outer:List Env
 stack:List Env
 ex:List Addr
 fn:Str→Bool
 calm:Bool
 pn:List (Addr×Obj)
 xe:Value→Shared→Prop
def frs (l:List Env):List Addr:=l.filterMap (·.frame)
abbrev Cx.fs (X:Cx):List Addr:=frs X.outer
def yK (sc:Scope) (x:Str):Prop:=sc.names.lookup x=some .local∨sc.names.lookup x=some .cell∨sc.names.lookup x=some .free
def Loc (sc:Scope) (x:Str):Prop:=sc.names.lookup x=some .local∨sc.names.lookup x=some .cell
def Look (env:Env) (h:Heap) (m:Str→Option Value) (x:Str) (u:Value):Prop:=
 (env.kindOf x=some .local∧m x=some u)∨((env.kindOf x=some .cell∨env.kindOf x=some .free)∧∃c,env.cells.lookup x=some c∧h.IsCell c (some u))
structure Cx.Ok (X:Cx):Prop where
 mod:Mod X.K X.mg X.base
 kind:X.env.scope.kind=.function
 glob:X.env.globals=mainGlobals
 blt:X.env.builtins=builtinsNs
 above:X.s₀.heap.objs.size≤X.env.locals
 inj:∀x y c,X.env.cells.lookup x=some c→X.env.cells.lookup y=some c→x=y
 has:∀x,(X.env.kindOf x=some .cell∨X.env.kindOf x=some .free)→∃c,X.env.cells.lookup x=some c
 cab:∀x c,X.fn x=true→X.env.cells.lookup x=some c→X.s₀.heap.objs.size≤c
 hd:X.calm=true→X.A.handled=none
 frames:X.A.frames=some X.stack
 stk:X.stack=X.outer∨(X.stack=X.env::X.outer∧X.env.frame=some X.env.locals)
 IG:∀b∈X.ex,b≠X.env.locals∧∀x c,X.env.cells.lookup x=some c→c≠b
 bs:∀b o,X.base.get? b=some o→X.s₀.heap.get? b=some o∧X.H₀ b=none
 oQ:X.base.objs.size≤X.s₀.heap.objs.size
 vO:∀b o,X.base.get? b=some o→b ∉ X.ex
 vP:∀b∈X.ex,b ∉ X.fs
 ic:X.s₀.heap.FunFrames X.base X.outer
 vQ:∀b∈X.fs,X.H₀ b=none
structure Inv (X:Cx) (pins:List (Addr×Obj)) (σ:List (Option V)) (H:Hp) (s:Shared):Prop where
 ok:X.Ok
 os:s.os=X.s₀.os
 bare:AllBare s.gens
 base:Un X.fs X.ex X.H₀ H X.s₀.heap s.heap
 loc:∃m,s.heap.Ns X.env.locals m∧∀(i:Nat) (x:Str) (v:V),X.N[i]? =some x→σ[i]? =some (some v)→yK X.env.scope x→∃u,RelV v u∧Look X.env s.heap m x u
 cell:∀x c,X.env.cells.lookup x=some c→∃v,s.heap.IsCell c v
 free:H X.env.locals=none
 fN:∀x c,X.env.cells.lookup x=some c→H c=none
 pin:∀p∈X.pn++pins,s.heap.get? p.1=some p.2∧H p.1=none∧p.1≠X.env.locals∧p.1 ∉ X.fs∧∀v,p.2.data≠.cell v
 hok:cG X.prog X.w H s.heap
 len:σ.length=X.N.length
section
variable {X:Cx} {pins:List (Addr×Obj)} {σ:List (Option V)} {H H':Hp} {s:Shared} {h':Heap}
theorem Cx.Ok.IH (ok:X.Ok) {b:Addr} {o:Obj} (e:X.base.get? b=some o):b ∉ X.fs:=fun hb=>by
 have:=(ok.ic.mem hb).1
 rw[e] at this;cases this
theorem Inv.bs (I:Inv X pins σ H s):∀b o,X.base.get? b=some o→s.heap.get? b=some o∧H b=none:=fun b o e=>
 ⟨I.base.keep b o (I.ok.bs b o e).1 (I.ok.bs b o e).2 (I.ok.IH e) (I.ok.vO b o e),I.base.free b o (I.ok.bs b o e).1 (I.ok.bs b o e).2 (I.ok.vO b o e)⟩
theorem Inv.bk (I:Inv X pins σ H s):∀b o,X.base.get? b=some o→s.heap.get? b=some o:=fun b o e=>(I.bs b o e).1
theorem Inv.mod (I:Inv X pins σ H s):Mod X.K X.mg X.base:=I.ok.mod
theorem Inv.gg (I:Inv X pins σ H s):X.K.In s.heap:=I.ok.mod.oP.keeps I.bk
theorem Inv.lt (I:Inv X pins σ H s):X.env.locals<s.heap.objs.size:=let ⟨_,hn,_⟩:=I.loc;hn.lt
theorem Inv.sz (I:Inv X pins σ H s):X.s₀.heap.objs.size≤s.heap.objs.size:=Nat.le_trans I.ok.above (Nat.le_of_lt I.lt)
theorem Inv.Qj (I:Inv X pins σ H s) {a:Addr} (h:s.heap.objs.size≤a):a ∉ X.fs:=fun hb=>by
 obtain⟨_,o,ho,_⟩:=I.ok.ic.mem hb
 exact absurd (Nat.lt_of_lt_of_le (Heap.lt_size ho) (Nat.le_trans I.sz h)) (Nat.lt_irrefl _)
theorem Inv.tG (I:Inv X pins σ H s):∀x c,X.env.cells.lookup x=some c→c≠X.env.locals:=fun x c e z=>by
 obtain⟨v,o,ho,hd⟩:=I.cell x c e
 obtain⟨m,⟨o',es,ep,ho',hd',_⟩,_⟩:=I.loc
 rw[z,ho'] at ho;cases ho;rw[hd'] at hd;cases hd
theorem Inv.ic (I:Inv X pins σ H s):s.heap.FunFrames X.base X.outer:=by
 have all:∀(l:List Env),(∀b∈frs l,b∈X.fs)→X.s₀.heap.FunFrames X.base l→s.heap.FunFrames X.base l:=by
  intro l
  induction l with
  | nil=>intro _ _;trivial
  | cons env r ih=>
   intro hs hl
   obtain⟨hk,⟨L,o,hf,hn,ho,hd⟩,hr⟩:=hl
   have hL:L∈X.fs:=hs L (by unfold frs;rw[List.filterMap_cons,hf];exact List.mem_cons_self)
   obtain⟨sl,e⟩:=I.base.slot L o ho (I.ok.vQ L hL) hL fun z=>I.ok.vP L z hL
   exact⟨hk,⟨L,_,hf,hn,e,hd⟩,ih (fun b hb=>hs b (by unfold frs;rw[List.filterMap_cons,hf];exact List.mem_cons_of_mem _ hb)) hr⟩
 exact all X.outer (fun _ hb=>hb) I.ok.ic
theorem Inv.stack (I:Inv X pins σ H s):s.heap.FunFrames X.base X.stack:=by
 rcases I.ok.stk with e | ⟨e,hf⟩
 ·rw[e];exact I.ic
 ·rw[e]
  obtain⟨m,hn,_⟩:=I.loc
  refine .cons (by rw[I.ok.kind];decide) hf hn ?_ I.ic
  exact Heap.get?_none_of_le (Nat.le_trans I.ok.oQ I.ok.above)
theorem Inv.ny (I:Inv X pins σ H s):∀b∈frs X.stack,b∈X.env.locals::X.fs:=fun b hb=>by
 rcases I.ok.stk with e | ⟨e,hf⟩
 ·rw[e] at hb;exact List.mem_cons_of_mem _ hb
 ·rw[e] at hb
  unfold frs at hb
  rw[List.filterMap_cons,hf] at hb
  exact hb
theorem Inv.kO (I:Inv X pins σ H s):∀b∈frs X.stack,H b=none:=fun b hb=>by
 rcases List.mem_cons.mp (I.ny b hb) with e | hb
 ·rw[e];exact I.free
 ·obtain⟨_,o,ho,_⟩:=I.ok.ic.mem hb
  exact I.base.free b o ho (I.ok.vQ b hb) fun z=>I.ok.vP b z hb
theorem Inv.step {g':Array GenState} {t':Nat} {d':Drawn} {ch:List Addr} (I:Inv X pins σ H s)
  (hch:∀b∈ch,(b∈X.ex∨X.s₀.heap.objs.size≤b)∧b≠X.env.locals∧(∀x c,X.env.cells.lookup x=some c→c≠b)∧∀p∈X.pn++pins,p.1≠b)
  (keep:∀b o,b≠X.env.locals→b ∉ X.fs→b ∉ ch→s.heap.get? b=some o→H b=none→h'.get? b=some o)
  (slot:∀b o,b≠X.env.locals→b∈X.fs→b ∉ ch→s.heap.get? b=some o→H b=none→∃sl,h'.get? b=some {o with slots:=sl}) (free:∀b o,b ∉ ch→s.heap.get? b=some o→H b=none→H' b=none)
  (there:∀b o,b ∉ ch→s.heap.get? b=some o→∃o',h'.get? b=some o')
  (tups:∀b xs,H b=some (.tup xs)→H' b=some (.tup xs)) (jD:∀b o u,H b=some (.c_ o u)→H' b=some (.c_ o u)) (jE:∀b ps,H b=some (.h9 ps)→∃more,H' b=some (.h9 (ps++more)))
  (ns:∀m,s.heap.Ns X.env.locals m→h'.Ns X.env.locals m) (hok:cG X.prog X.w H' h') (hg:AllBare g'):
  Inv X pins σ H' {s with heap:=h',gens:=g',drawn:=d',toks:=t'}:=by
 have N3:∀b o,X.s₀.heap.get? b=some o→b≠X.env.locals:=fun b o e=>Nat.ne_of_lt (Nat.lt_of_lt_of_le (Heap.lt_size e) I.ok.above)
 have FN:∀b o,X.s₀.heap.get? b=some o→b ∉ X.ex→b ∉ ch:=fun b o e hx hb=>by
  rcases(hch b hb).1 with z | z
  ·exact hx z
  ·exact absurd (Nat.lt_of_lt_of_le (Heap.lt_size e) z) (Nat.lt_irrefl _)
 have cellK:∀x c,X.env.cells.lookup x=some c→∀v,s.heap.IsCell c v→h'.IsCell c v:=fun x c e v ⟨o,ho,hd⟩=>by
  have nz:c ∉ ch:=fun z=>(hch c z).2.2.1 x c e rfl
  by_cases hc:c∈X.fs
  ·obtain⟨sl,q⟩:=slot c o (I.tG x c e) hc nz ho (I.fN x c e)
   exact⟨_,q,hd⟩
  ·exact⟨o,keep c o (I.tG x c e) hc nz ho (I.fN x c e),hd⟩
 refine⟨I.ok,I.os,hg,⟨fun b o e n hb hx=>?_,fun b o e n hb hx=>?_,fun b o e n hx=>?_,fun b o e hx=>?_,fun b xs e=>tups b xs (I.base.tups b xs e),fun b o xs e=>jD b o xs (I.base.jD b o xs e),fun b ps e=>?_⟩,?_,fun x c e=>?_,?_,fun x c e=>?_,fun p hp=>?_,hok,I.len⟩
 ·exact keep b o (N3 b o e) hb (FN b o e hx) (I.base.keep b o e n hb hx) (I.base.free b o e n hx)
 ·obtain⟨sl,e1⟩:=I.base.slot b o e n hb hx
  obtain⟨sl',e2⟩:=slot b _ (N3 b o e) hb (FN b o e hx) e1 (I.base.free b o e n hx)
  exact⟨sl',e2⟩
 ·obtain⟨o',e1⟩:=I.base.there b o e hx
  exact free b o' (FN b o e hx) e1 (I.base.free b o e n hx)
 ·obtain⟨o',e1⟩:=I.base.there b o e hx
  exact there b o' (FN b o e hx) e1
 ·obtain⟨m1,e1⟩:=I.base.jE b ps e
  obtain⟨m2,e2⟩:=jE b _ e1
  exact⟨m1++m2,by rw[e2,Array.append_assoc]⟩
 ·obtain⟨m,hn,hl⟩:=I.loc
  refine⟨m,ns m hn,fun i x v e1 e2 e3=>?_⟩
  obtain⟨u,r,l⟩:=hl i x v e1 e2 e3
  refine⟨u,r,?_⟩
  rcases l with l | ⟨k,c,e,z⟩
  ·exact .inl l
  ·exact .inr ⟨k,c,e,cellK x c e _ z⟩
 ·obtain⟨v,z⟩:=I.cell x c e
  exact⟨v,cellK x c e v z⟩
 ·obtain⟨m,⟨o,_,_,ho,_⟩,_⟩:=I.loc
  exact free _ o (fun z=>(hch _ z).2.1 rfl) ho I.free
 ·obtain⟨v,o,ho,hd⟩:=I.cell x c e
  exact free c o (fun z=>(hch c z).2.2.1 x c e rfl) ho (I.fN x c e)
 ·obtain⟨e,n,ne,nf,d⟩:=I.pin p hp
  have nz:p.1 ∉ ch:=fun z=>(hch p.1 z).2.2.2 p hp rfl
  exact⟨keep p.1 p.2 ne nf nz e n,free p.1 p.2 nz e n,ne,nf,d⟩
theorem Inv.un {t':Nat} (I:Inv X pins σ H s) (u:Un X.fs [] H H' s.heap h') (hok:cG X.prog X.w H' h'):Inv X pins σ H' {s with heap:=h',toks:=t'}:=by
 obtain⟨m,⟨o,es,ep,ho,r⟩,_⟩:=id I.loc
 obtain⟨sl,hL⟩:=u.any ho I.free (by simp)
 exact I.step (g':=s.gens) (d':=s.drawn) (ch:=[]) (fun _ z=>nomatch z) (fun b o _ hb _ e n=>u.keep b o e n hb (by simp)) (fun b o _ hb _ e n=>u.slot b o e n hb (by simp)) (fun b o _ e n=>u.free b o e n (by simp)) (fun b o _ e=>u.there b o e (by simp)) u.tups u.jD u.jE (fun m' hm=>by
  obtain⟨o',es',ep',ho',r'⟩:=hm
  rw[ho] at ho';cases ho'
  exact⟨_,es',ep',hL,r'⟩) hok I.bare
theorem Inv.call {g':Array GenState} {t':Nat} {d':Drawn} {ch:List Addr} (I:Inv X pins σ H s) (u:Un (frs X.stack) ch H H' s.heap h') (hok:cG X.prog X.w H' h') (hg:AllBare g')
  (hch:∀b∈ch,(b∈X.ex∨X.s₀.heap.objs.size≤b)∧b≠X.env.locals∧(∀x c,X.env.cells.lookup x=some c→c≠b)∧∀p∈X.pn++pins,p.1≠b):
  Inv X pins σ H' {s with heap:=h',gens:=g',drawn:=d',toks:=t'}:=by
 obtain⟨m,⟨o,es,ep,ho,r⟩,_⟩:=id I.loc
 obtain⟨sl,hL⟩:=u.any ho I.free fun z=>(hch _ z).2.1 rfl
 exact I.step (ch:=ch) hch (fun b o hL hb hc e n=>u.keep b o e n (fun z=>(List.mem_cons.mp (I.ny b z)).elim hL hb) hc) (fun b o _ _ hc e n=>u.any e n hc) (fun b o hc e n=>u.free b o e n hc) (fun b o hc e=>u.there b o e hc) u.tups u.jD u.jE (fun m' hm=>by
  obtain⟨o',es',ep',ho',r'⟩:=hm
  rw[ho] at ho';cases ho'
  exact⟨_,es',ep',hL,r'⟩) hok hg
theorem Inv.turned {t':Nat} {it:Addr} (I:Inv X pins σ H s) (k:∀b o,b≠it→s.heap.get? b=some o→h'.get? b=some o) (hn:H it=none) (hL:it≠X.env.locals)
  (h1:it∈X.ex∨X.s₀.heap.objs.size≤it) (h2:∀x c,X.env.cells.lookup x=some c→c≠it) (h3:∀p∈X.pn++pins,p.1≠it):Inv X pins σ H {s with heap:=h',toks:=t'}:=by
 have N4:∀b u,H b=some u→b≠it:=fun b u e z=>by rw[z,hn] at e;cases e
 refine I.step (g':=s.gens) (d':=s.drawn) (ch:=[it]) (fun b hb=>?_) (fun b o _ _ hc e _=>k b o (fun z=>hc (by simp[z])) e) (fun b o _ _ hc e _=>⟨o.slots,k b o (fun z=>hc (by simp[z])) e⟩) (fun _ _ _ _ n=>n)
  (fun b o hc e=>⟨o,k b o (fun z=>hc (by simp[z])) e⟩) (fun _ _ e=>e) (fun _ _ _ e=>e) (fun b ps e=>⟨#[],by rw[e];simp⟩) (fun m hm=>?_) (fun b u e=>?_) I.bare
 ·have e:b=it:=by simpa using hb
  subst e
  exact⟨h1,hL,h2,h3⟩
 ·obtain⟨o,es,ep,ho,r⟩:=hm
  exact⟨o,es,ep,k _ o (Ne.symm hL) ho,r⟩
 ·refine(I.hok b u e).stay (fun c v hc q=>k c v ?_ q) (fun _ q=>q) fun _ _ q=>q
  rcases hc with z | z
  ·rw[z];exact N4 b u e
  ·exact N4 c _ z
theorem Inv.tok (I:Inv X pins σ H s) (t:Nat):Inv X pins σ H {s with toks:=t}:=I.un (h':=s.heap) (t':=t) Un.refl I.hok
theorem Inv.kept {t':Nat} (I:Inv X pins σ H s) (k:∀b u,s.heap.get? b=some u→h'.get? b=some u):Inv X pins σ H {s with heap:=h',toks:=t'}:=I.un (Un.kept k) (I.hok.kept k)
theorem Inv.laid {a:Addr} {o:HO} {t':Nat} (I:Inv X pins σ H s) (k:∀b u,s.heap.get? b=some u→h'.get? b=some u) (hp:s.heap.objs.size≤a) (new:bb X.prog X.w (upd H a o) h' a o):
  Inv X pins σ (upd H a o) {s with heap:=h',toks:=t'}:=I.un (Un.laid k hp (I.hok.fresh hp)) (I.hok.laid k hp new)
theorem Inv.write {x e:Addr} {o:HO} {t':Nat} (I:Inv X pins σ H s) (mu:Bf (H x)) (he:e=x∨H e=some (.own x)) (k:∀b u,b≠e→s.heap.get? b=some u→h'.get? b=some u) (heo:∃u,h'.get? e=some u)
  (new:bb X.prog X.w (upd H x o) h' x o):Inv X pins σ (upd H x o) {s with heap:=h',toks:=t'}:=I.un (Un.write mu he k heo) (I.hok.write mu he k heo new)
theorem Inv.yL {FO:List (Addr×Obj)} (I:Inv X pins σ H s) (h:∀p∈FO,s.heap.get? p.1=some p.2∧H p.1=none∧p.1≠X.env.locals∧p.1 ∉ X.fs∧∀v,p.2.data≠.cell v):Inv X FO σ H s:=
 ⟨I.ok,I.os,I.bare,I.base,I.loc,I.cell,I.free,I.fN,fun p hp=>(List.mem_append.mp hp).elim (fun z=>I.pin p (List.mem_append_left _ z)) (h p),I.hok,I.len⟩
theorem vR {N:List Str} (hN:N.Nodup) {i j:Nat} {x:Str} (a:N[i]? =some x) (b:N[j]? =some x):i=j:=by
 obtain⟨h1,e1⟩:=List.getElem?_eq_some_iff.mp a
 obtain⟨h2,e2⟩:=List.getElem?_eq_some_iff.mp b
 exact(List.getElem_inj hN).mp (e1.trans e2.symm)
theorem tH {M:Model} {A:Around} {E:Value→Shared→Prop} {i:Nat} {x:Str} {v:V} {u:Value} {Q:Unit→Shared→Prop} (I:Inv X pins σ H s) (hN:X.N.Nodup) (hi:X.N[i]? =some x) (hx:Loc X.env.scope x) (r:RelV v u)
  (h:∀s',Inv X pins (σ.set i (some v)) H s'→(∃a,Heap.SameBut a s.heap s'.heap∧(a=X.env.locals∨X.env.cells.lookup x=some a))→Q () s') (hf:X.fn x=true∨X.env.scope.names.lookup x=some .local:=by first | exact .inl rfl | exact .inr rfl | assumption):wpAny M A (storeName X.env x u) Q E s:=by
 obtain⟨m,hn,hl⟩:=id I.loc
 have hcls:(X.env.scope.kind == .class||(X.env.scope.kind == .module&&X.env.locals != X.env.globals))=false:=by rw[I.ok.kind];rfl
 have N5:i<σ.length:=by rw[I.len];exact(List.getElem?_eq_some_iff.mp hi).1
 have tG:=I.tG
 have tracked:∀{a:Addr} {h':Heap},(∃o,s.heap.get? a=some o∧H a=none)→Heap.SameBut a s.heap h'→cG X.prog X.w H h':=fun {a h'} ha hs b ob e=>by
  obtain⟨_,_,hfree⟩:=ha
  refine(I.hok b ob e).stay (fun c w' hc q=>(hs.2 c ?_).trans q) (fun _ q=>q) fun _ _ q=>q
  rintro rfl
  rcases hc with rfl | hc
  ·rw[hfree] at e;cases e
  ·rw[hfree] at hc;cases hc
 rcases hx with hk | hk
 ·refine wpAny_storeName_local hk hn (fun h' hn' hs=>?_) hcls
  obtain⟨oL,_,_,hoL,_⟩:=id hn
  refine h _ ⟨I.ok,I.os,I.bare,⟨fun b o e n hb hx=>?_,fun b o e n hb hx=>?_,I.base.free,fun b o e hx=>?_,I.base.tups,I.base.jD,I.base.jE⟩,⟨_,hn',fun j y v' e1 e2 e3=>?_⟩,fun y c e=>?_,I.free,I.fN,fun p hp=>?_,tracked ⟨oL,hoL,I.free⟩ hs,by simpa using I.len⟩ ⟨_,hs,.inl rfl⟩
  ·exact(hs.2 b (Nat.ne_of_lt (Nat.lt_of_lt_of_le (Heap.lt_size e) I.ok.above))).trans (I.base.keep b o e n hb hx)
  ·obtain⟨sl,e1⟩:=I.base.slot b o e n hb hx
   exact⟨sl,(hs.2 b (Nat.ne_of_lt (Nat.lt_of_lt_of_le (Heap.lt_size e) I.ok.above))).trans e1⟩
  ·obtain⟨o',e1⟩:=I.base.there b o e hx
   exact⟨o',(hs.2 b (Nat.ne_of_lt (Nat.lt_of_lt_of_le (Heap.lt_size e) I.ok.above))).trans e1⟩
  ·by_cases hj:j=i
   ·subst hj
    rw[hi] at e1;cases e1
    rw[List.getElem?_set_self N5] at e2
    cases e2
    exact⟨u,r,.inl ⟨hk,by simp⟩⟩
   ·rw[List.getElem?_set_ne (Ne.symm hj)] at e2
    obtain⟨u',r',q⟩:=hl j y v' e1 e2 e3
    refine⟨u',r',?_⟩
    rcases q with⟨k,e⟩ | ⟨k,c,e,z⟩
    ·refine .inl ⟨k,?_⟩
     have:y≠x:=fun e=>hj (vR hN e1 (e▸hi))
     simp[this,e]
    ·exact .inr ⟨k,c,e,z.sameBut hs (tG y c e)⟩
  ·obtain⟨w',z⟩:=I.cell y c e
   exact⟨w',z.sameBut hs (tG y c e)⟩
  ·obtain⟨e,n,ne,nf,d⟩:=I.pin p hp
   exact⟨(hs.2 p.1 ne).trans e,n,ne,nf,d⟩
 ·have hfn:X.fn x=true:=by
   rcases hf with z | z
   ·exact z
   ·rw[z] at hk;cases hk
  obtain⟨c,hc⟩:=I.ok.has x (.inl hk)
  obtain⟨w',z⟩:=I.cell x c hc
  refine wpAny_storeName_cell I.ok.kind hk hc z (fun h' hc' hs=>?_)
  obtain⟨oc,hoc,Qk⟩:=id z
  refine h {s with heap:=h'} ⟨I.ok,I.os,I.bare,⟨fun b o e n hb hx=>?_,fun b o e n hb hx=>?_,I.base.free,fun b o e hx=>?_,I.base.tups,I.base.jD,I.base.jE⟩,⟨m,hn.sameBut hs (Ne.symm (tG x c hc)),fun j y v' e1 e2 e3=>?_⟩,fun y c' e=>?_,I.free,I.fN,fun p hp=>?_,tracked ⟨oc,hoc,I.fN x c hc⟩ hs,by simpa using I.len⟩ ⟨c,hs,.inr hc⟩
  ·exact(hs.2 b (Nat.ne_of_lt (Nat.lt_of_lt_of_le (Heap.lt_size e) (I.ok.cab x c hfn hc)))).trans (I.base.keep b o e n hb hx)
  ·obtain⟨sl,e1⟩:=I.base.slot b o e n hb hx
   exact⟨sl,(hs.2 b (Nat.ne_of_lt (Nat.lt_of_lt_of_le (Heap.lt_size e) (I.ok.cab x c hfn hc)))).trans e1⟩
  ·obtain⟨o',e1⟩:=I.base.there b o e hx
   exact⟨o',(hs.2 b (Nat.ne_of_lt (Nat.lt_of_lt_of_le (Heap.lt_size e) (I.ok.cab x c hfn hc)))).trans e1⟩
  ·by_cases hj:j=i
   ·subst hj
    rw[hi] at e1;cases e1
    rw[List.getElem?_set_self N5] at e2
    cases e2
    exact⟨u,r,.inr ⟨.inl hk,c,hc,hc'⟩⟩
   ·rw[List.getElem?_set_ne (Ne.symm hj)] at e2
    obtain⟨u',r',q⟩:=hl j y v' e1 e2 e3
    refine⟨u',r',?_⟩
    rcases q with q | ⟨k,c',e,z'⟩
    ·exact .inl q
    ·refine .inr ⟨k,c',e,z'.sameBut hs ?_⟩
     rintro rfl
     exact hj (vR hN e1 (I.ok.inj _ _ _ e hc▸hi))
  ·by_cases hcc:c'=c
   ·subst hcc;exact⟨_,hc'⟩
   ·obtain⟨w2,z2⟩:=I.cell y c' e
    exact⟨w2,z2.sameBut hs hcc⟩
  ·obtain⟨e,n,ne,nf,d⟩:=I.pin p hp
   refine⟨(hs.2 p.1 ?_).trans e,n,ne,nf,d⟩
   intro q
   rw[q,hoc] at e
   have q':oc=p.2:=Option.some.inj e
   exact d w' (by rw[←q'];exact Qk)
theorem vS {M:Model} {A:Around} {E:Value→Shared→Prop} {i:Nat} {x:Str} {v:V} {u:Value} {Q:Unit→Shared→Prop} (I:Inv X pins σ H s) (hN:X.N.Nodup) (hi:X.N[i]? =some x) (hx:Loc X.env.scope x) (r:RelV v u)
  (h:∀s',Inv X pins (σ.set i (some v)) H s'→Q () s') (hf:X.fn x=true∨X.env.scope.names.lookup x=some .local:=by first | exact .inl rfl | exact .inr rfl | assumption):wpAny M A (storeName X.env x u) Q E s:=
 tH I hN hi hx r (fun s' I' _=>h s' I') hf
theorem Inv.call' {s':Shared} {ch:List Addr} (I:Inv X pins σ H s) (ho:s'.os=s.os) (u:Un (frs X.stack) ch H H' s.heap s'.heap) (hok:cG X.prog X.w H' s'.heap) (hg:AllBare s'.gens)
  (hch:∀b∈ch,(b∈X.ex∨X.s₀.heap.objs.size≤b)∧b≠X.env.locals∧(∀x c,X.env.cells.lookup x=some c→c≠b)∧∀p∈X.pn++pins,p.1≠b):Inv X pins σ H' s':=by
 obtain⟨h',g',d',t',o'⟩:=s'
 have e:o'=s.os:=ho
 subst e
 exact I.call (g':=g') (t':=t') (d':=d') u hok hg hch
end
abbrev XK:=Value→Option Addr→Hp→Prop
abbrev St:=List (Option V)
abbrev VK:=V→Hp→Prop
abbrev TE:=St→Hp→VK→Prop
abbrev TT:=St→Hp→(Bool→Hp→Prop)→Prop
abbrev TA:=St→Hp→(List V→Hp→Prop)→Prop
structure Ends where
 nx:St→Hp→Prop
 rt:VK
 bk:St→Hp→Prop:=fun _ _=>False
 ct:St→Hp→Prop:=fun _ _=>False
abbrev TS:=Ends→St→Hp→Prop
def EP (X:Cx) (pins:List (Addr×Obj)) (σ:St) (Q:VK) (u:Value) (s':Shared):Prop:=∃v H',Inv X pins σ H' s'∧RelV v u∧Q v H'
def TP (X:Cx) (pins:List (Addr×Obj)) (σ:St) (Q:Bool→Hp→Prop) (b:Bool) (s':Shared):Prop:=∃H',Inv X pins σ H' s'∧Q b H'
def AP (X:Cx) (pins:List (Addr×Obj)) (σ:St) (Q:List V→Hp→Prop) (us:List Value) (s':Shared):Prop:=∃vs H',Inv X pins σ H' s'∧Vals vs us∧Q vs H'
def SP (X:Cx) (pins:List (Addr×Obj)) (D:Ends) (f:Flow) (s':Shared):Prop:=
 match f with
 | .next=>∃σ' H',Inv X pins σ' H' s'∧D.nx σ' H'
 | .brk=>∃σ' H',Inv X pins σ' H' s'∧D.bk σ' H'
 | .cont=>∃σ' H',Inv X pins σ' H' s'∧D.ct σ' H'
 | .ret u=>∃v σ' H',Inv X pins σ' H' s'∧RelV v u∧D.rt v H'
def PE (X:Cx) (e:Expr) (t:TE):Prop:=
 ∀(pins:List (Addr×Obj)) (s:Shared) (σ:St) (H:Hp) (Q:VK),Inv X pins σ H s→t σ H Q→wpAny (model X.prog X.w) X.A (eval e X.env) (EP X pins σ Q) X.xe s
def PT (X:Cx) (e:Expr) (t:TT):Prop:=
 ∀(pins:List (Addr×Obj)) (s:Shared) (σ:St) (H:Hp) (Q:Bool→Hp→Prop),Inv X pins σ H s→t σ H Q→wpAny (model X.prog X.w) X.A (isTrue e X.env (eval e X.env)) (TP X pins σ Q) X.xe s
def PW (X:Cx) (e:Expr) (t:TT):Prop:=
 ∀(whole:Sem Value) (pins:List (Addr×Obj)) (s:Shared) (σ:St) (H:Hp) (Q:Bool→Hp→Prop),Inv X pins σ H s→t σ H Q→wpAny (model X.prog X.w) X.A (isTrue e X.env whole) (TP X pins σ Q) X.xe s
theorem PW.pt {X:Cx} {e:Expr} {t:TT} (h:PW X e t):PT X e t:=h _
def PA (X:Cx) (es:List Expr) (t:TA):Prop:=
 ∀(pos:Pos) (pins:List (Addr×Obj)) (s:Shared) (σ:St) (H:Hp) (Q:List V→Hp→Prop),Inv X pins σ H s→t σ H Q→wpAny (model X.prog X.w) X.A (spliced (backTo pos (starEach es X.env))) (AP X pins σ Q) X.xe s
def PS (X:Cx) (st:Stmt) (t:TS):Prop:=
 ∀(pins:List (Addr×Obj)) (s:Shared) (σ:St) (H:Hp) (D:Ends),Inv X pins σ H s→t D σ H→wpAny (model X.prog X.w) X.A (exec st X.env) (SP X pins D) X.xe s
def j1 (X:Cx) (st:List Stmt) (t:TS):Prop:=
 ∀(pins:List (Addr×Obj)) (s:Shared) (σ:St) (H:Hp) (D:Ends),Inv X pins σ H s→t D σ H→wpAny (model X.prog X.w) X.A (execs st X.env) (SP X pins D) X.xe s
theorem aE {α:Type} {t:Sem α} {Q Q':α→Shared→Prop} {M:Model} {A:Around} {E:Value→Shared→Prop} {s:Shared} (h:wpAny M A t Q E s) (hQ:∀a s,Q a s→Q' a s):wpAny M A t Q' E s:=wpAny_mono h hQ fun _ _ x=>x
section
variable {X:Cx}
def Eb (i:Nat):TE:=fun σ H Q=>∃v,σ[i]? =some (some v)∧Q v H
def tC (v:V):TE:=fun _ H Q=>Q v H
theorem II {i:Nat} {x:Str} {pos:Pos} (hN:X.N[i]? =some x) (hv:yK X.env.scope x) (hd:(x == ("__debug__":Str))=false:=by decide) (hcd:(x == ("__classdict__":Str))=false:=by decide):PE X (.Name x pos) (Eb i):=by
 intro pins s σ H Q I h
 obtain⟨v,e,h⟩:=h
 obtain⟨m,hn,hl⟩:=I.loc
 obtain⟨u,r,l⟩:=hl i x v hN e hv
 have fin:EP X pins σ Q u s:=⟨v,H,I,r,h⟩
 rcases l with⟨hk,hm⟩ | ⟨hk,c,hc,hcell⟩
 ·exact wpAny_Name (wpAny_loadName_local I.ok.kind hk hn hm fin) hd
 ·rcases hk with hk | hk
  ·exact wpAny_Name (wpAny_loadName_cell I.ok.kind hk hc hcell fin) hd
  ·exact wpAny_Name (wpAny_loadName_free I.ok.kind hk hc hcell fin hcd) hd
theorem aj {i j pos}:PE X (.Constant (.int i) j pos) (tC (.int i)):=fun _ _ _ H _ I h=>wpAny_Constant_int ⟨.int i,H,I.tok _,⟨_,rfl⟩,h⟩
theorem j3 {b j pos}:PE X (.Constant (.bool b) j pos) (tC (.bl b)):=fun _ _ _ H _ I h=>Constant_bool ⟨.bl b,H,I,rfl,h⟩
theorem nA {j pos}:PE X (.Constant .none j pos) (tC .non):=fun _ _ _ H _ I h=>Constant_none ⟨.non,H,I,rfl,h⟩
theorem bo {x j pos}:PE X (.Constant (.str x) j pos) (tC (.str x)):=fun _ _ _ H _ I h=>Calls.Constant_str ⟨.str x,H,I.tok _,⟨_,rfl⟩,h⟩
def Gl (X:Cx) (x:Str):Prop:=X.env.kindOf x=some .globalImplicit
theorem rA {E:Value→Shared→Prop} {pins:List (Addr×Obj)} {s:Shared} {σ:St} {H:Hp} {x:Str} {u:Value} {pos:Pos} {Q:Value→Shared→Prop} (I:Inv X pins σ H s) (hg:Gl X x) (hm:X.mg x=some u) (h:Q u s)
  (hd:(x == ("__debug__":Str))=false:=by decide):wpAny (model X.prog X.w) X.A (eval (.Name x pos) X.env) Q E s:=
 Calls.Name_function_global I.ok.kind hg (Calls.loadGlobal_global (by rw[I.ok.glob];exact I.mod.glob.keeps I.bk) hm h) hd
theorem gi {E:Value→Shared→Prop} {pins:List (Addr×Obj)} {s:Shared} {σ:St} {H:Hp} {x:Str} {u:Value} {pos:Pos} {Q:Value→Shared→Prop} (I:Inv X pins σ H s) (hg:Gl X x) (hm:X.mg x=none) (hv:bootBuiltins x=some u) (h:Q u s)
  (hn:x≠"__name__":=by decide) (hd:(x == ("__debug__":Str))=false:=by decide):wpAny (model X.prog X.w) X.A (eval (.Name x pos) X.env) Q E s:=by
 obtain⟨mb,h1,h2⟩:=I.mod.blt
 exact Calls.Name_function_global I.ok.kind hg (Calls.loadGlobal_builtin (by rw[I.ok.glob];exact I.mod.glob.keeps I.bk) hm (by rw[I.ok.blt];exact h1.keeps I.bk) ((h2 x hn).trans hv) h) hd
theorem kP {x:Str} {v:V} {u:Value} {pos:Pos} (hg:Gl X x) (hm:X.mg x=none) (hv:bootBuiltins x=some u) (r:RelV v u) (hn:x≠"__name__":=by decide) (hd:(x == ("__debug__":Str))=false:=by decide):PE X (.Name x pos) (tC v):=
 fun _ _ _ H _ I h=>gi I hg hm hv ⟨v,H,I,r,h⟩ hn hd
variable {a b:Expr} {ta tb:TE} {pos:Pos}
def PC (X:Cx) (op:CmpOp) (a b:Expr) (t:TE):Prop:=
 ∀(pins:List (Addr×Obj)) (s:Shared) (σ:St) (H:Hp) (Q:VK),Inv X pins σ H s→t σ H Q→
  wpAny (model X.prog X.w) X.A (eval a X.env) (fun v s₁=>wpAny (model X.prog X.w) X.A (eval b X.env) (fun u s₂=>wpAny (model X.prog X.w) X.A (compareOp op v u) (EP X pins σ Q) X.xe s₂) X.xe s₁) X.xe s
def tB (t:TE):TT:=fun σ H Q=>t σ H fun x H1=>∃c,x=.bl c∧Q c H1
theorem Bg {op:CmpOp} {t:TE} (h:PC X op a b t) (h1:behindInMarks op b=false:=by first | exact Ql _ (by decide) (by decide) | rfl):PT X (.Compare a [op] [b] pos) (tB t):=by
 intro pins s σ H Q I hw
 refine wpAny_isTrue_Compare1 (aE (h pins s σ H _ I hw) fun v s1 h1=>aE h1 fun u s2 h2=>aE h2 fun c s3 ⟨x,H1,I1,r1,q1⟩=>?_) h1
 obtain⟨d,rfl,q⟩:=q1
 cases r1
 exact wpAny_truthy_bool ⟨H1,I1,q⟩
variable {tA FP:TT} {rest:List Expr}
def Qm (t u:TT):TT:=fun σ H Q=>t σ H fun c H1=>if c=true then u σ H1 Q else Q false H1
def UN (t u:TT):TT:=fun σ H Q=>t σ H fun c H1=>if c=true then Q true H1 else u σ H1 Q
def Qn (t:TT):TT:=fun σ H Q=>t σ H fun c H1=>Q (!c) H1
theorem Ho (ha:PT X a tA):PW X (.BoolOp .And [a] pos) tA:=by
 intro wh pins s σ H Q I h
 refine isTrue_and (aE (ha pins s σ H Q I h) fun c s1 e=>?_)
 cases c with
 | true=>exact isTrue_and_nil e
 | false=>exact e
theorem iS (ha:PT X a tA):PW X (.BoolOp .Or [a] pos) tA:=by
 intro wh pins s σ H Q I h
 refine isTrue_or (aE (ha pins s σ H Q I h) fun c s1 e=>?_)
 cases c with
 | false=>exact isTrue_or_nil e
 | true=>exact e
theorem IJ (ha:PT X a tA) (hb:PW X (.BoolOp .And (b::rest) pos) FP):PW X (.BoolOp .And (a::b::rest) pos) (Qm tA FP):=by
 intro wh pins s σ H Q I h
 refine isTrue_and (aE (ha pins s σ H _ I h) fun c s1 ⟨H1,I1,q1⟩=>?_)
 cases c with
 | true=>exact hb wh pins s1 σ H1 Q I1 q1
 | false=>exact⟨H1,I1,q1⟩
theorem g6 (ha:PT X a tA) (hb:PW X (.BoolOp .Or (b::rest) pos) FP):PW X (.BoolOp .Or (a::b::rest) pos) (UN tA FP):=by
 intro wh pins s σ H Q I h
 refine isTrue_or (aE (ha pins s σ H _ I h) fun c s1 ⟨H1,I1,q1⟩=>?_)
 cases c with
 | true=>exact⟨H1,I1,q1⟩
 | false=>exact hb wh pins s1 σ H1 Q I1 q1
theorem iT (ha:PT X a tA):PT X (.UnaryOp .Not a pos) (Qn tA):=by
 intro pins s σ H Q I h
 exact isTrue_not (ha pins s σ H (fun c H1=>Q (!c) H1) I h)
end
def a_ (K:PySem.W.Frag) (H:Hp) (a:Addr) (xs:List V):Prop:=
 Rd H a (.lst xs)∨
  ∃(o:Obj) (its:Array Value) (n:Nat),K.lookup a=some o∧o.cls=.type "list"∧o.dict=none∧o.data=.seq its n∧its.size≤sizeLine∧Vals xs its.toList
def aW (K:PySem.W.Frag) (H:Hp) (a:Addr) (xs:List V):Prop:=
 Rd H a (.tup xs)∨
  ∃(o:Obj) (its:Array Value) (n:Nat),K.lookup a=some o∧o.cls=.type "tuple"∧o.data=.seq its n∧its.size≤sizeLine∧Vals xs its.toList
def Qo:Value→Option V
 | .none=>some .non
 | .bool b=>some (.bl b)
 | .int i _=>some (.int i)
 | .str x _=>some (.str x)
 | .bytes b _=>some (.jC b)
 | .float b _=>some (.flt b)
 | .ref a=>some (.ref a)
 | .type n=>some (.ty n)
 | _=>none
theorem RelV.abs {x:V} {u:Value} (r:RelV x u):Qo u=some x:=by
 cases x with
 | non=>cases r;rfl
 | bl _=>cases r;rfl
 | int _=>obtain⟨t,rfl⟩:=r;rfl
 | str _=>obtain⟨t,rfl⟩:=r;rfl
 | jC _=>obtain⟨t,rfl⟩:=r;rfl
 | flt _=>obtain⟨t,rfl⟩:=r;rfl
 | ref _=>cases r;rfl
 | ty _=>cases r;rfl
theorem RelV.inj {x y:V} {u:Value} (r:RelV x u) (q:RelV y u):x=y:=Option.some.inj (r.abs.symm.trans q.abs)
theorem Vals.inj:∀{xs ys:List V} {us:List Value},Vals xs us→Vals ys us→xs=ys
 | _,_,_,.nil,.nil=>rfl
 | _,_,_,.cons r t,.cons r' t'=>by rw[r.inj r',Vals.inj t t']
section
variable {X:Cx} {pins:List (Addr×Obj)} {σ:St} {H:Hp} {s:Shared} {a:Addr} {xs ys:List V}
theorem a_.of {K:PySem.W.Frag} (h:H a=some (.lst xs)):a_ K H a xs:=.inl (.inl h)
theorem aW.of {K:PySem.W.Frag} (h:H a=some (.tup xs)):aW K H a xs:=.inl (.inl h)
theorem Inv.list (I:Inv X pins σ H s) (h:a_ X.K H a xs):∃its:List Value,Vals xs its∧PlainL s.heap a its.toArray∧xs.length≤sizeLine:=by
 rcases h with h | ⟨o,its,n,hk,hc,hd,hs,hz,r⟩
 ·obtain⟨z,its,n,r,e⟩:=h.ok I.hok
  exact⟨its,r,⟨_,n,e,rfl,rfl,rfl⟩,z⟩
 ·refine⟨its.toList,r,⟨o,n,I.gg a o hk,hc,hd,by simpa using hs⟩,?_⟩
  have e:=r.length
  simp only[Array.length_toList] at e
  omega
theorem Inv.tuple (I:Inv X pins σ H s) (h:aW X.K H a xs):∃its:List Value,Vals xs its∧IsTup s.heap a its.toArray∧xs.length≤sizeLine:=by
 rcases h with h | ⟨o,its,n,hk,hc,hs,hz,r⟩
 ·obtain⟨z,its,r,p⟩:=h.ok I.hok
  exact⟨its,r,p,z.1⟩
 ·refine⟨its.toList,r,⟨o,I.gg a o hk,hc,n,by simpa using hs⟩,?_⟩
  have e:=r.length
  simp only[Array.length_toList] at e
  omega
theorem Inv.ie (I:Inv X pins σ H s) (h:a_ X.K H a xs) (h':a_ X.K H a ys):xs=ys:=by
 obtain⟨its,r,⟨o,n,e,_,_,d⟩,_⟩:=I.list h
 obtain⟨its',r',⟨o',n',e',_,_,d'⟩,_⟩:=I.list h'
 rw[e] at e';cases e'
 rw[d] at d'
 injection d' with d1 _
 have:its=its':=by simpa using congrArg Array.toList d1
 subst this
 exact r.inj r'
theorem Inv.iU (I:Inv X pins σ H s) (h:aW X.K H a xs) (h':aW X.K H a ys):xs=ys:=by
 obtain⟨its,r,⟨o,e,_,n,d⟩,_⟩:=I.tuple h
 obtain⟨its',r',⟨o',e',_,n',d'⟩,_⟩:=I.tuple h'
 rw[e] at e';cases e'
 rw[d] at d'
 injection d' with d1 _
 have:its=its':=by simpa using congrArg Array.toList d1
 subst this
 exact r.inj r'
end
abbrev Cx.wish (X:Cx) (E:Value→Shared→Prop):Cx:={X with xe:=E}
abbrev Cx.oR (X:Cx):Cx:=X.wish fun _ _=>False
theorem Cx.Ok.wish {X:Cx} (ok:X.Ok) (E:Value→Shared→Prop):(X.wish E).Ok:=
 ⟨ok.mod,ok.kind,ok.glob,ok.blt,ok.above,ok.inj,ok.has,ok.cab,ok.hd,ok.frames,ok.stk,ok.IG,ok.bs,ok.oQ,ok.vO,ok.vP,ok.ic,ok.vQ⟩
theorem Cx.Ok.g7 {X:Cx} {E:Value→Shared→Prop} (ok:(X.wish E).Ok):X.Ok:=
 ⟨ok.mod,ok.kind,ok.glob,ok.blt,ok.above,ok.inj,ok.has,ok.cab,ok.hd,ok.frames,ok.stk,ok.IG,ok.bs,ok.oQ,ok.vO,ok.vP,ok.ic,ok.vQ⟩
section
variable {X:Cx} {pins:List (Addr×Obj)} {σ:St} {H:Hp} {s:Shared} {E:Value→Shared→Prop}
theorem Inv.wish (I:Inv X pins σ H s) (E:Value→Shared→Prop):Inv (X.wish E) pins σ H s:=⟨I.ok.wish E,I.os,I.bare,I.base,I.loc,I.cell,I.free,I.fN,I.pin,I.hok,I.len⟩
theorem Inv.g7 (I:Inv (X.wish E) pins σ H s):Inv X pins σ H s:=⟨I.ok.g7,I.os,I.bare,I.base,I.loc,I.cell,I.free,I.fN,I.pin,I.hok,I.len⟩
theorem SP.g7 {D:Ends} {f:Flow} {s':Shared} (h:SP (X.wish E) pins D f s'):SP X pins D f s':=by
 cases f with
 | next=>obtain⟨σ',H',I,q⟩:=h;exact⟨σ',H',I.g7,q⟩
 | brk=>obtain⟨σ',H',I,q⟩:=h;exact⟨σ',H',I.g7,q⟩
 | cont=>obtain⟨σ',H',I,q⟩:=h;exact⟨σ',H',I.g7,q⟩
 | ret u=>obtain⟨v,σ',H',I,r,q⟩:=h;exact⟨v,σ',H',I.g7,r,q⟩
theorem j1.oR {st:List Stmt} {t:TS} (h:j1 X.oR st t):j1 X st t:=fun pins s σ H D I hw=>
 wpAny_mono (h pins s σ H D (I.wish _) hw) (fun _ _ q=>q.g7) fun _ _ z=>False.elim z
end
section
variable {X:Cx} {st:Stmt} {rest:List Stmt} {t u:TS} {e:Expr} {te:TE} {pos:Pos}
def ow:TS:=fun D σ H=>D.nx σ H
def nB (t u:TS):TS:=fun D σ H=>t {D with nx:=u D} σ H
theorem b_:j1 X [] ow:=fun _ _ σ H _ I h=>wpAny_execs_nil ⟨σ,H,I,h⟩
theorem ai (h1:PS X st t) (h2:j1 X rest u):j1 X (st::rest) (nB t u):=by
 intro pins s σ H D I h
 refine wpAny_execs_cons (aE (h1 pins s σ H {D with nx:=u D} I h) fun f s1 q=>?_)
 cases f with
 | next=>
  obtain⟨σ',H',I',q⟩:=q
  exact h2 pins s1 σ' H' D I' q
 | ret v=>exact q
 | brk=>exact q
 | cont=>exact q
theorem aq (h1:PS X st t):j1 X [st] t:=by
 intro pins s σ H D I h
 refine wpAny_execs_cons (aE (h1 pins s σ H D I h) fun f s1 q=>?_)
 cases f with
 | next=>exact wpAny_execs_nil q
 | ret v=>exact q
 | brk=>exact q
 | cont=>exact q
theorem Inv.quiet {pins:List (Addr×Obj)} {σ:St} {H:Hp} {s:Shared} (I:Inv X pins σ H s):interactive X.env=false:=by simp[interactive,I.ok.kind]
def FQ (te:TE):TS:=fun D σ H=>te σ H fun _ H1=>D.nx σ H1
theorem fb (he:PE X e te) (hs:swapsWith e none pos.line X.env=pure false:=by rfl):PS X (.Expr e pos) (FQ te):=by
 intro pins s σ H D I h
 exact wpAny_Expr_any (aE (he pins s σ H _ I h) fun v s1 ⟨x,H1,I1,r1,q1⟩=>⟨σ,H1,I1,q1⟩) I.quiet hs
def IK (te:TE):TS:=fun D σ H=>te σ H D.rt
theorem aQ (he:PE X e te):PS X (.Return (some e) pos) (IK te):=by
 intro pins s σ H D I h
 exact wpAny_Return_some (aE (he pins s σ H _ I h) fun v s1 ⟨x,H1,I1,r1,q1⟩=>⟨x,σ,H1,I1,r1,q1⟩)
def Ec (c:TT) (t u:TS):TS:=fun D σ H=>c σ H fun b H1=>if b=true then t D σ H1 else u D σ H1
theorem dB {c:Expr} {a b:List Stmt} {tc:TT} (hc:PT X c tc) (ha:j1 X a t) (hb:j1 X b u):PS X (.If c a b pos) (Ec tc t u):=by
 intro pins s σ H D I h
 refine wpAny_If (aE (hc pins s σ H _ I h) fun d s1 ⟨H1,I1,q1⟩=>?_)
 cases d with
 | true=>exact ha pins s1 σ H1 D I1 q1
 | false=>exact hb pins s1 σ H1 D I1 q1
end
abbrev TG:=V→St→Hp→(St→Hp→Prop)→Prop
abbrev tI:=List V→St→Hp→(St→Hp→Prop)→Prop
def PG (X:Cx) (target:Expr) (t:TG):Prop:=
 ∀(pins:List (Addr×Obj)) (s:Shared) (σ:St) (H:Hp) (v:V) (u:Value) (Q:St→Hp→Prop),Inv X pins σ H s→RelV v u→t v σ H Q→
  wpAny (model X.prog X.w) X.A (assign target X.env u) (fun _ s'=>∃σ' H',Inv X pins σ' H' s'∧Q σ' H') X.xe s
def Bh (X:Cx) (ts:List Expr) (t:tI):Prop:=
 ∀(pins:List (Addr×Obj)) (s:Shared) (σ:St) (H:Hp) (vs:List V) (us:List Value) (Q:St→Hp→Prop),Inv X pins σ H s→Vals vs us→t vs σ H Q→
  wpAny (model X.prog X.w) X.A (assignInOrder ((assignEach ts X.env).map (·.2)) us) (fun _ s'=>∃σ' H',Inv X pins σ' H' s'∧Q σ' H') X.xe s
section
variable {X:Cx} {pos:Pos}
def aL (i:Nat):TG:=fun v σ H Q=>Q (σ.set i (some v)) H
theorem aF {i:Nat} {x:Str} (hN:X.N.Nodup) (hi:X.N[i]? =some x) (hx:Loc X.env.scope x) (hf:X.fn x=true∨X.env.scope.names.lookup x=some .local:=by first | exact .inl rfl | exact .inr rfl | assumption):PG X (.Name x pos) (aL i):=by
 intro pins s σ H v u Q I r h
 exact wpAny_assign_Name (vS I hN hi hx r (fun s' I'=>⟨_,H,I',h⟩) hf)
def Qp:tI:=fun vs σ H Q=>vs=[]∧Q σ H
def M6 (t:TG) (u:tI):tI:=fun vs σ H Q=>∃v r,vs=v::r∧t v σ H fun σ' H'=>u r σ' H' Q
theorem jz:Bh X [] Qp:=by
 intro pins s σ H vs us Q I r h
 obtain⟨e,h⟩:=h
 subst e
 cases r
 exact assignInOrder_nil ⟨σ,H,I,h⟩
theorem cK {e:Expr} {es:List Expr} {t:TG} {u:tI} (h1:PG X e t) (h2:Bh X es u)
  (hs:(assignEach (e::es) X.env).map (·.2)=assign e X.env::(assignEach es X.env).map (·.2):=by rfl):Bh X (e::es) (M6 t u):=by
 intro pins s σ H vs us Q I r h
 obtain⟨v,vr,e1,h⟩:=h
 subst e1
 cases r with
 | cons r rr=>
  rw[hs]
  refine assignInOrder_cons (aE (h1 pins s σ H _ _ _ I r h) fun _ s1 ⟨σ1,H1,I1,q1⟩=>?_)
  exact h2 pins s1 σ1 H1 _ _ Q I1 rr q1
def IL (K:PySem.W.Frag) (n:Nat) (t:tI):TG:=fun v σ H Q=>∃a xs,v=.ref a∧aW K H a xs∧xs.length=n∧t xs σ H Q
theorem p8 {es:List Expr} {k:Nat} {t:tI} {n:Nat} (hc:X.calm=true) (h:Bh X es t)
  (hn:(assignEach es X.env).length=n:=by rfl) (hst:(assignEach es X.env).findIdx? (·.1)=none:=by rfl):PG X (.Tuple es k pos) (IL X.K n t):=by
 intro pins s σ H v u Q I r hw
 obtain⟨a,xs,e1,hq,hl,hw⟩:=hw
 subst e1
 cases r
 obtain⟨its,rv,ht,hz⟩:=I.tuple hq
 refine assign_Tuple_tuple (I.ok.hd hc) ht (by simp[hn,←hl,rv.length]) hst fun h' hx=>?_
 have I1:Inv X pins σ H {s with heap:=h'}:=I.kept (t':=s.toks) fun b o e=>hx b o (Nat.ne_of_lt (Heap.lt_size e)) e
 exact h pins _ σ H xs _ Q I1 (by simpa using rv) hw
def rB (te:TE) (g:TG):TS:=fun D σ H=>te σ H fun x H1=>g x σ H1 D.nx
theorem ay {i:Nat} {x:Str} {e:Expr} {te:TE} {pos':Pos} (hN:X.N.Nodup) (hi:X.N[i]? =some x) (hx:Loc X.env.scope x) (he:PE X e te) (hs:swapsWith e (some (.Name x pos')) pos.line X.env=pure false:=by rfl) (hf:X.fn x=true∨X.env.scope.names.lookup x=some .local:=by first | exact .inl rfl | exact .inr rfl | assumption):
  PS X (.Assign [.Name x pos'] e pos) (rB te (aL i)):=by
 intro pins s σ H D I h
 refine wpAny_Assign_Name (aE (he pins s σ H _ I h) fun v s1 ⟨y,H1,I1,r1,q1⟩=>?_) hs
 exact vS I1 hN hi hx r1 (fun s2 I2=>⟨_,H1,I2,q1⟩) hf
def nE (c:TT) (tb:TS):TS:=fun D σ H=>∃W:Nat→St→Hp→Prop,(∃m,W m σ H)∧∀m σ H,W m σ H→
 c σ H fun b H1=>if b=true then ∃N:St→Hp→Prop,(∀σ' H',N σ' H'→∃m',m'<m∧W m' σ' H')∧tb {D with nx:=N,ct:=N,bk:=D.nx} σ H1 else D.nx σ H1
theorem jG {c:Expr} {body:List Stmt} {tc:TT} {tb:TS} (hp:PassesOwn (model X.prog X.w) X.A X.env X.xe) (hc:PT X c tc) (hb:j1 X body tb):PS X (.While c body [] pos) (nE tc tb):=by
 intro pins s σ H D I h
 obtain⟨W,⟨m0,w0⟩,turn⟩:=h
 refine wpAny_While (codeAny_whileLoop (fun n s'=>∃σ' H',Inv X pins σ' H' s'∧W n σ' H') ?_ m0 ⟨σ,H,I,w0⟩)
 rintro n s1 ⟨σ1,H1,I1,w1⟩
 refine wpAny_passesOwn hp (aE (hc pins s1 σ1 H1 _ I1 (turn n σ1 H1 w1)) fun b s2 ⟨H2,I2,q2⟩=>?_)
 cases b with
 | true=>
  obtain⟨N,hN,q2⟩:=q2
  rw[if_pos rfl]
  refine wpAny_passesOwn hp (aE (hb pins s2 σ1 H2 _ I2 q2) fun f s3 q3=>?_)
  cases f with
  | next=>
   obtain⟨σ3,H3,I3,n3⟩:=q3
   obtain⟨m',hm,w3⟩:=hN σ3 H3 n3
   exact⟨m',hm,σ3,H3,I3,w3⟩
  | cont=>
   obtain⟨σ3,H3,I3,n3⟩:=q3
   obtain⟨m',hm,w3⟩:=hN σ3 H3 n3
   exact⟨m',hm,σ3,H3,I3,w3⟩
  | brk=>exact q3
  | ret v=>exact q3
 | false=>
  rw[if_neg Bool.false_ne_true]
  exact wpAny_execs_nil ⟨σ1,H2,I2,q2⟩
end
structure It where
 go:Nat→Hp→Prop
 nF:Nat→Hp→V→Hp→Prop
 stop:Nat→Hp→Prop
def fi (X:Cx) (pins:List (Addr×Obj)) (H:Hp) (b:Addr):Prop:=
 H b=none∧b≠X.env.locals∧b ∉ X.fs∧(b∈X.ex∨X.s₀.heap.objs.size≤b)∧(∀x c,X.env.cells.lookup x=some c→c≠b)∧∀p∈X.pn++pins,p.1≠b
theorem Inv.jc {X:Cx} {pins:List (Addr×Obj)} {σ:St} {H H':Hp} {s:Shared} {b:Addr} (I:Inv X pins σ H s) (hb:s.heap.objs.size≤b) (hn:H' b=none):fi X pins H' b:=by
 refine⟨hn,Nat.ne_of_gt (Nat.lt_of_lt_of_le I.lt hb),I.Qj hb,.inr (Nat.le_trans I.sz hb),fun x c e z=>?_,fun p hp z=>?_⟩
 ·obtain⟨v,q⟩:=I.cell x c e
  exact absurd (Nat.lt_of_lt_of_le q.lt (by rw[z];exact hb)) (Nat.lt_irrefl _)
 ·exact absurd (Nat.lt_of_lt_of_le (Heap.lt_size (I.pin p hp).1) (by rw[z];exact hb)) (Nat.lt_irrefl _)
structure Turn (P:Program) (w:World) (K:PySem.W.Frag) (tg:Expr) (J:It) (fp:List Addr) (it:Addr) (tn:Nat→Heap→Prop):Prop where
 mem:it∈fp
 obj:∀i h,tn i h→∀b∈fp,∃o,h.get? b=some o∧∀v,o.data≠.cell v
 keep:∀i h h',tn i h→(∀b∈fp,∀o,h.get? b=some o→h'.get? b=some o)→tn i h'
 item:∀(X:Cx),X.prog=P→X.w=w→X.K=K→X.calm=true→∀(i:Nat) (pins:List (Addr×Obj)) (s:Shared) (σ:St) (H:Hp) (E:Value→Shared→Prop),Inv X pins σ H s→(∀b∈fp,fi X pins H b)→tn i s.heap→J.go i H→
  wpAny (model P w) X.A (pyNext (.ref it)) (fun r s1=>∃u,r=some u∧
   wpAny (model P w) X.A (letOwnedTupleGo tg (.ref it) u) (fun _ s2=>∃x H',Inv X pins σ H' s2∧RelV x u∧J.nF i H x H'∧tn (i+1) s2.heap∧∀b∈fp,H' b=none) E s1) E s
 done:∀(X:Cx),X.prog=P→X.w=w→X.K=K→X.calm=true→∀(i:Nat) (pins:List (Addr×Obj)) (s:Shared) (σ:St) (H:Hp) (E:Value→Shared→Prop),Inv X pins σ H s→(∀b∈fp,fi X pins H b)→tn i s.heap→J.stop i H→
  wpAny (model P w) X.A (pyNext (.ref it)) (fun r s1=>r=none∧Inv X pins σ H s1) E s
 self:∀(A:Around) (i:Nat) (s:Shared) (Q:Value→Shared→Prop) (E:Value→Shared→Prop),tn i s.heap→Q (.ref it) s→wpAny (model P w) A (pyIter (.ref it)) Q E s
abbrev TI:=St→Hp→(It→Hp→Prop)→Prop
def PIE (X:Cx) (pins:List (Addr×Obj)) (σ:St) (tg:Expr) (R:It→Hp→Prop) (itv:Value) (s2:Shared):Prop:=
 ∃(it:Addr) (fp:List Addr) (tn:Nat→Heap→Prop) (J:It) (H':Hp),itv=.ref it∧Inv X pins σ H' s2∧Turn X.prog X.w X.K tg J fp it tn∧tn 0 s2.heap∧(∀b∈fp,fi X pins H' b)∧R J H'
def PI (X:Cx) (tg iter:Expr) (wi:TI):Prop:=
 ∀(pins:List (Addr×Obj)) (s:Shared) (σ:St) (H:Hp) (R:It→Hp→Prop),Inv X pins σ H s→wi σ H R→
  wpAny (model X.prog X.w) X.A (eval iter X.env) (fun v s1=>wpAny (model X.prog X.w) X.A (pyIter v) (PIE X pins σ tg R) X.xe s1) X.xe s
theorem p9 {M:Model} {A:Around} {E:Value→Shared→Prop} {s:Shared} {tg:Expr} {it:Addr} {u:Value} {o:Obj} {n:String} {vs:Array Value} {Q:Unit→Shared→Prop} (ho:s.heap.get? it=some o) (hc:o.cls=.type n) (hd:o.data=.fields vs)
  (hn:["enumerate","zip","dict_itemiterator","dict_reverseitemiterator","odict_iterator","itertools.zip_longest","itertools.pairwise"].contains n=false) (hQ:Q () s):wpAny M A (letOwnedTupleGo tg (.ref it) u) Q E s:=by
 unfold letOwnedTupleGo
 cases tg<;>first
  | exact wpAny_pure hQ
  | (cases u<;>first
    | exact wpAny_pure hQ
    | (refine wpAny_bind (wpAny_load ho ?_)
       rw[hc,hd]
       show wpAny M A (if(["enumerate","zip","dict_itemiterator","dict_reverseitemiterator","odict_iterator","itertools.zip_longest","itertools.pairwise"].contains n&&vs[0]? == some (rawInt _))=true then _ else _) Q E s
       rw[if_neg (by intro h;rw[hn,Bool.false_and] at h;cases h)]
       exact wpAny_pure hQ))
def vT (K:PySem.W.Frag) (a:Addr):It:=
 ⟨fun i H=>∃xs x,a_ K H a xs∧xs[i]? =some x,fun i H x H'=>H'=H∧∀xs,a_ K H a xs→xs[i]? =some x,fun i H=>∃xs,a_ K H a xs∧xs.length≤i⟩
def vU (K:PySem.W.Frag) (a:Addr):It:=
 ⟨fun i H=>∃xs x,aW K H a xs∧xs[i]? =some x,fun i H x H'=>H'=H∧∀xs,aW K H a xs→xs[i]? =some x,fun i H=>∃xs,aW K H a xs∧xs.length≤i⟩
def tJ (lo:Int) (n:Nat):It:=⟨fun i _=>i<n,fun i H x H'=>H'=H∧x=.int (lo+i),fun i _=>n≤i⟩
theorem Bi {P:Program} {w:World} {K:PySem.W.Frag} {tg:Expr} (a it:Addr):Turn P w K tg (vT K a) [it] it (fun i h=>h.IsListIter it a i) where
 mem:=by simp
 obj:=fun i h st b hb=>by
  have e:b=it:=by simpa using hb
  subst e
  obtain⟨o,e,c,d⟩:=st
  exact⟨o,e,fun v z=>by rw[d] at z;cases z⟩
 keep:=fun i h h' st k=>st.at fun o e=>k it (by simp) o e
 item:=by
  intro X hP hw hK hc i pins s σ H E I hf st hg
  subst hP hw hK
  obtain⟨xs,x,hq,hx⟩:=hg
  obtain⟨its,rv,p,hz⟩:=I.list hq
  obtain⟨u,hu,ru⟩:=rv.get hx
  obtain⟨f0,f1,f2,f3,f4,f5⟩:=hf it (by simp)
  refine wpAny_pyNext_list_item st p.isList (x:=u) (by simpa using hu) fun h' st' sb=>?_
  have I1:Inv X pins σ H {s with heap:=h'}:=I.turned (t':=s.toks) (fun b o hb e=>(sb.2 b hb).trans e) f0 f1 f3 f4 f5
  obtain⟨o,e,c,d⟩:=id st'
  exact⟨u,rfl,p9 (s:={s with heap:=h'}) e c d (by decide) ⟨x,H,I1,ru,⟨rfl,fun ys hy=>by rw[I.ie hy hq];exact hx⟩,st',fun b hb=>(hf b hb).1⟩⟩
 done:=by
  intro X hP hw hK hc i pins s σ H E I hf st hg
  subst hP hw hK
  obtain⟨xs,hq,hx⟩:=hg
  obtain⟨its,rv,p,hz⟩:=I.list hq
  obtain⟨f0,f1,f2,f3,f4,f5⟩:=hf it (by simp)
  have hl:=rv.length
  exact wpAny_pyNext_list_end (I.ok.hd hc) st p.isList (by simp;omega) fun h' eb=>⟨rfl,I.turned (t':=s.toks) (fun b o hb e=>eb b o hb e) f0 f1 f3 f4 f5⟩
 self:=fun _ _ _ _ _ st h=>wpAny_pyIter_listiter st h
theorem zN {P:Program} {w:World} {K:PySem.W.Frag} {tg:Expr} (a it:Addr):Turn P w K tg (vU K a) [it] it (fun i h=>h.IsTupleIter it a i) where
 mem:=by simp
 obj:=fun i h st b hb=>by
  have e:b=it:=by simpa using hb
  subst e
  obtain⟨o,e,c,d⟩:=st
  exact⟨o,e,fun v z=>by rw[d] at z;cases z⟩
 keep:=fun i h h' st k=>st.at fun o e=>k it (by simp) o e
 item:=by
  intro X hP hw hK hc i pins s σ H E I hf st hg
  subst hP hw hK
  obtain⟨xs,x,hq,hx⟩:=hg
  obtain⟨its,rv,p,hz⟩:=I.tuple hq
  obtain⟨u,hu,ru⟩:=rv.get hx
  obtain⟨f0,f1,f2,f3,f4,f5⟩:=hf it (by simp)
  refine wpAny_pyNext_tuple_item st (show s.heap.IsTuple a its.toArray from p) (x:=u) (by simpa using hu) fun h' st' sb=>?_
  have I1:Inv X pins σ H {s with heap:=h'}:=I.turned (t':=s.toks) (fun b o hb e=>(sb.2 b hb).trans e) f0 f1 f3 f4 f5
  obtain⟨o,e,c,d⟩:=id st'
  exact⟨u,rfl,p9 (s:={s with heap:=h'}) e c d (by decide) ⟨x,H,I1,ru,⟨rfl,fun ys hy=>by rw[I.iU hy hq];exact hx⟩,st',fun b hb=>(hf b hb).1⟩⟩
 done:=by
  intro X hP hw hK hc i pins s σ H E I hf st hg
  subst hP hw hK
  obtain⟨xs,hq,hx⟩:=hg
  obtain⟨its,rv,p,hz⟩:=I.tuple hq
  obtain⟨f0,f1,f2,f3,f4,f5⟩:=hf it (by simp)
  have hl:=rv.length
  exact wpAny_pyNext_tuple_end (I.ok.hd hc) st (show s.heap.IsTuple a its.toArray from p) (by simp;omega) fun h' eb=>⟨rfl,I.turned (t':=s.toks) (fun b o hb e=>eb b o hb e) f0 f1 f3 f4 f5⟩
 self:=fun _ _ _ _ _ st h=>wpAny_pyIter_tupleiter st h
theorem zO {P:Program} {w:World} {K:PySem.W.Frag} {tg:Expr} (it:Addr) (lo:Int) (n:Nat):Turn P w K tg (tJ lo n) [it] it (fun i h=>IsRangeIter h it (lo+(i:Nat)*1) ((n:Int)-(i:Nat)) 1) where
 mem:=by simp
 obj:=fun i h st b hb=>by
  have e:b=it:=by simpa using hb
  subst e
  exact⟨_,st,fun v z=>by
   have z':Data.fields _=Data.cell v:=z
   cases z'⟩
 keep:=fun i h h' st k=>k it (by simp) _ st
 item:=by
  intro X hP hw hK hc i pins s σ H E I hf st hg
  subst hP hw hK
  obtain⟨f0,f1,f2,f3,f4,f5⟩:=hf it (by simp)
  have W:=Walks.range (prog:=X.prog) (w:=X.w) (I.ok.hd hc) it lo 1 n
  refine W.item i s _ _ hg st fun v h' tk hv st' kk=>?_
  obtain⟨t,rfl⟩:=hv
  have I1:Inv X pins σ H {s with heap:=h',toks:=tk}:=I.turned (fun b o hb e=>kk b o (by simpa using hb) e) f0 f1 f3 f4 f5
  refine⟨_,rfl,p9 (s:={s with heap:=h',toks:=tk}) (n:="range_iterator") st' rfl rfl (by decide) ⟨.int (lo+i),H,I1,⟨t,?_⟩,⟨rfl,rfl⟩,st',fun b hb=>(hf b hb).1⟩⟩
  rw[Int.mul_one]
 done:=by
  intro X hP hw hK hc i pins s σ H E I hf st hg
  subst hP hw hK
  obtain⟨f0,f1,f2,f3,f4,f5⟩:=hf it (by simp)
  exact wpAny_pyNext_range_end (I.ok.hd hc) st (by have:n≤i:=hg;omega) fun h' eb=>⟨rfl,I.turned (t':=s.toks) (fun b o hb e=>eb b o hb e) f0 f1 f3 f4 f5⟩
 self:=fun _ _ _ _ _ st h=>wpAny_pyIter_rangeiter st h
section
variable {X:Cx} {tg:Expr}
def M7 (K:PySem.W.Frag) (tl:TE):TI:=fun σ H R=>tl σ H fun x H1=>∃a,x=.ref a∧(∃xs,a_ K H1 a xs)∧R (vT K a) H1
def Qq (K:PySem.W.Frag) (tl:TE):TI:=fun σ H R=>tl σ H fun x H1=>∃a,x=.ref a∧(∃xs,aW K H1 a xs)∧R (vU K a) H1
theorem du {l:Expr} {tl:TE} (hl:PE X l tl):PI X tg l (M7 X.K tl):=by
 intro pins s σ H R I h
 refine aE (hl pins s σ H _ I h) fun v s1 ⟨x,H1,I1,r1,q1⟩=>?_
 obtain⟨a,e,⟨xs,hq⟩,q⟩:=q1
 subst e
 cases r1
 obtain⟨its,rv,p,hz⟩:=I1.list hq
 refine wpAny_pyIter_list p.isList ?_
 refine⟨s1.heap.objs.size,[s1.heap.objs.size],_,_,H1,rfl,I1.kept (t':=s1.toks) fun b o e=>Heap.get?_push_of_some _ e,Bi a _,⟨_,Heap.get?_push_size _ rfl,rfl,rfl⟩,fun b hb=>?_,q⟩
 have e:b=s1.heap.objs.size:=by simpa using hb
 subst e
 exact I1.jc (Nat.le_refl _) (I1.hok.fresh (Nat.le_refl _))
theorem eS {l:Expr} {tl:TE} (hl:PE X l tl):PI X tg l (Qq X.K tl):=by
 intro pins s σ H R I h
 refine aE (hl pins s σ H _ I h) fun v s1 ⟨x,H1,I1,r1,q1⟩=>?_
 obtain⟨a,e,⟨xs,hq⟩,q⟩:=q1
 subst e
 cases r1
 obtain⟨its,rv,p,hz⟩:=I1.tuple hq
 refine wpAny_pyIter_tuple (show s1.heap.IsTuple a its.toArray from p) ?_
 refine⟨s1.heap.objs.size,[s1.heap.objs.size],_,_,H1,rfl,I1.kept (t':=s1.toks) fun b o e=>Heap.get?_push_of_some _ e,zN a _,⟨_,Heap.get?_push_size _ rfl,rfl,rfl⟩,fun b hb=>?_,q⟩
 have e:b=s1.heap.objs.size:=by simpa using hb
 subst e
 exact I1.jc (Nat.le_refl _) (I1.hok.fresh (Nat.le_refl _))
theorem Ed {pins:List (Addr×Obj)} {σ:St} {H:Hp} {s:Shared} {R:It→Hp→Prop} {E:Value→Shared→Prop} {lo hi:Int} {t u v:Tok} {tk:Nat} (I:Inv X pins σ H s) (h1: -(2 ^ 62)≤lo) (h2:lo<2 ^ 62) (h3: -(2 ^ 62)≤hi) (h4:hi<2 ^ 62)
  (q:R (tJ lo (hi-lo).toNat) H):wpAny (model X.prog X.w) X.A (pyIter (.ref s.heap.objs.size)) (PIE X pins σ tg R) E {s with heap:=s.heap.push {cls:=.type "range",data:=.fields #[.int lo t,.int hi u,.int 1 v]},toks:=tk}:=by
 refine wpAny_pyIter_range (IsRange.new ..) (small_one h1 h2 h3 h4) ?_
 have I1:Inv X pins σ H {s with heap:=s.heap.push {cls:=.type "range",data:=.fields #[.int lo t,.int hi u,.int 1 v]},toks:=tk}:=I.kept fun b o e=>Heap.get?_push_of_some _ e
 refine⟨(s.heap.push {cls:=.type "range",data:=.fields #[.int lo t,.int hi u,.int 1 v]}).objs.size,[(s.heap.push {cls:=.type "range",data:=.fields #[.int lo t,.int hi u,.int 1 v]}).objs.size],_,_,H,rfl,
  I1.kept (t':=tk) fun b o e=>Heap.get?_push_of_some _ e,zO _ lo (hi-lo).toNat,?_,fun b hb=>?_,q⟩
 ·have e1:lo+((0:Nat):Int)*1=lo:=by simp
  have e2:(((hi-lo).toNat:Nat):Int)-((0:Nat):Int)=Builtin.Range.rangeSize lo hi 1:=by rw[rangeSize_one];split<;>omega
  show IsRangeIter _ _ (lo+((0:Nat):Int)*1) ((((hi-lo).toNat:Nat):Int)-((0:Nat):Int)) 1
  rw[e1,e2]
  exact Heap.get?_push_size _ rfl
 ·have e:b=(s.heap.push {cls:=.type "range",data:=.fields #[.int lo t,.int hi u,.int 1 v]}).objs.size:=by simpa using hb
  subst e
  exact I1.jc (Nat.le_refl _) (I1.hok.fresh (Nat.le_refl _))
def M8 (ta:TA):TI:=fun σ H R=>ta σ H fun vs H1=>∃j:Int,vs=[.int j]∧ -(2 ^ 62)≤j∧j<2 ^ 62∧R (tJ 0 j.toNat) H1
theorem dD {a:Expr} {ta:TA} {p pos:Pos} (hg:Gl X "range") (hm:X.mg "range"=none) (ha:PA X [a] ta) (hs:starEach [a] X.env=[(false,eval a X.env)]:=by rfl):PI X tg (.Call (.Name "range" p) [a] [] pos) (M8 ta):=by
 intro pins s σ H R I h
 refine Call_ (gi I hg hm boot_range (PyProof.Rows.callWith_type1 (aE (ha pos pins s σ H _ I h) fun us s1 ⟨vs,H1,I1,r1,q1⟩=>?_) hs rfl))
 obtain⟨j,e,q1,q2,q⟩:=q1
 subst e
 cases r1 with
 | cons r rr=>
  cases rr
  obtain⟨t,rfl⟩:=r
  exact call_range_1 (Ed I1 (by omega) (by omega) q1 q2 (by simpa using q))
def Qr (wi:TI) (g:TG) (tb:TS):TS:=fun D σ H=>wi σ H fun J H1=>∃W:Nat→Nat→St→Hp→Prop,(∃m,W 0 m σ H1)∧∀i m σ H,W i m σ H→
 (J.stop i H∧D.nx σ H)∨(J.go i H∧∃N:St→Hp→Prop,(∀σ' H',N σ' H'→∃m',m'<m∧W (i+1) m' σ' H')∧∀x H',J.nF i H x H'→g x σ H' fun σ2 H2=>tb {D with nx:=N,ct:=N,bk:=D.nx} σ2 H2)
def nG (fp:List Addr) (h:Heap):List (Addr×Obj):=fp.filterMap fun b=>(h.get? b).map fun o=>(b,o)
theorem js {fp:List Addr} {h:Heap} {b:Addr} {o:Obj} (hb:b∈fp) (e:h.get? b=some o):(b,o)∈nG fp h:=List.mem_filterMap.mpr ⟨b,hb,by rw[e];rfl⟩
theorem Bj {fp:List Addr} {h:Heap} {p:Addr×Obj} (hp:p∈nG fp h):p.1∈fp∧h.get? p.1=some p.2:=by
 obtain⟨b,hb,e⟩:=List.mem_filterMap.mp hp
 cases q:h.get? b with
 | none=>rw[q] at e;cases e
 | some o=>
  rw[q] at e
  have e':(b,o)=p:=Option.some.inj e
  subst e'
  exact⟨hb,q⟩
theorem Inv.pinned {pins:List (Addr×Obj)} {σ:St} {H:Hp} {s:Shared} {fp:List Addr} (I:Inv X pins σ H s) (hf:∀b∈fp,fi X pins H b) (ho:∀b∈fp,∃o,s.heap.get? b=some o∧∀v,o.data≠.cell v):Inv X (pins++nG fp s.heap) σ H s:=
 I.yL fun p hp=>(List.mem_append.mp hp).elim (fun z=>I.pin p (List.mem_append_right _ z)) fun z=>by
  obtain⟨hb,e⟩:=Bj z
  obtain⟨f0,f1,f2,_⟩:=hf p.1 hb
  obtain⟨o,e',d⟩:=ho p.1 hb
  rw[e] at e';cases e'
  exact⟨e,f0,f1,f2,d⟩
theorem Inv.lQ {pins pl:List (Addr×Obj)} {σ:St} {H:Hp} {s:Shared} (I:Inv X (pins++pl) σ H s):Inv X pins σ H s:=I.yL fun p hp=>I.pin p (List.mem_append_right _ (List.mem_append_left _ hp))
theorem cx {iter:Expr} {body:List Stmt} {wi:TI} {g:TG} {tb:TS} {pos:Pos} (hp:PassesOwn (model X.prog X.w) X.A X.env X.xe) (hc:X.calm=true) (hi:PI X tg iter wi) (hg:PG X tg g) (hb:j1 X body tb)
  (hs:∀x,foldedSetIterable iter X.env x=pure x:=by intro _;rfl):PS X (.For tg iter body [] pos) (Qr wi g tb):=by
 intro pins s σ H D I h
 refine wpAny_For (aE (hi pins s σ H _ I h) fun v s1 h1=>aE h1 fun itv s2 h2=>?_) hs
 obtain⟨it,fp,tn,J,H2,e,I2,T,st2,f2,W,⟨m0,w0⟩,turn⟩:=h2
 subst e
 have stat:∀{H':Hp},(∀b∈fp,H' b=none)→∀b∈fp,fi X pins H' b:=fun hn b hb=>⟨hn b hb,(f2 b hb).2⟩
 refine codeAny_forLoop_any (fun n s'=>∃i σ' H',Inv X pins σ' H' s'∧tn i s'.heap∧(∀b∈fp,H' b=none)∧W i n σ' H') ?_ m0 ⟨0,σ,H2,I2,st2,fun b hb=>(f2 b hb).1,w0⟩
 rintro n s3 ⟨i,σ3,H3,I3,st3,N6,w3⟩
 rcases turn i n σ3 H3 w3 with⟨stop,qn⟩ | ⟨go,N,hN,step⟩
 ·refine wpAny_passesOwn hp (aE (T.done X rfl rfl rfl hc i pins s3 σ3 H3 X.xe I3 (stat N6) st3 stop) fun r s4 ⟨hr,I4⟩=>?_)
  subst hr
  exact wpAny_execs_nil ⟨σ3,H3,I4,qn⟩
 ·refine wpAny_passesOwn hp (aE (T.item X rfl rfl rfl hc i pins s3 σ3 H3 X.xe I3 (stat N6) st3 go) fun r s4 ⟨u,hr,h4⟩=>?_)
  subst hr
  refine wpAny_passesOwn hp (aE h4 fun _ s5 ⟨x,H5,I5,r5,y5,yM,FR⟩=>?_)
  have UO:=I5.pinned (stat FR) (T.obj _ _ yM)
  refine wpAny_passesOwn hp (aE (hg _ s5 σ3 H5 x u _ UO r5 (step x H5 y5)) fun _ s6 ⟨σ6,H6,I6,q6⟩=>?_)
  refine wpAny_passesOwn hp (aE (hb _ s6 σ6 H6 _ I6 q6) fun f s7 q7=>?_)
  have again:∀{σ7:St} {H7:Hp},Inv X (pins++nG fp s5.heap) σ7 H7 s7→N σ7 H7→∃m,m<n∧∃i σ' H',Inv X pins σ' H' s7∧tn i s7.heap∧(∀b∈fp,H' b=none)∧W i m σ' H':=fun {σ7 H7} I7 n7=>by
   obtain⟨m',hm,w7⟩:=hN σ7 H7 n7
   refine⟨m',hm,i+1,σ7,H7,I7.lQ,T.keep _ _ _ yM fun b hb o e=>(I7.pin (b,o) (List.mem_append_right _ (List.mem_append_right _ (js hb e)))).1,fun b hb=>?_,w7⟩
   obtain⟨o,e,d⟩:=T.obj _ _ yM b hb
   exact(I7.pin (b,o) (List.mem_append_right _ (List.mem_append_right _ (js hb e)))).2.1
  cases f with
  | next=>obtain⟨σ7,H7,I7,n7⟩:=q7;exact again I7 n7
  | cont=>obtain⟨σ7,H7,I7,n7⟩:=q7;exact again I7 n7
  | brk=>obtain⟨σ7,H7,I7,q7⟩:=q7;exact⟨σ7,H7,I7.lQ,q7⟩
  | ret v=>obtain⟨x7,σ7,H7,I7,r7,q7⟩:=q7;exact⟨x7,σ7,H7,I7.lQ,r7,q7⟩
end
theorem ig {K:PySem.W.Frag} {a:Addr} {xs:List V} {g:TG} {tb:TS} {D:Ends} {σ:St} {H:Hp} (Pv:Nat→St→Hp→Prop) (h0:Pv 0 σ H) (hl:∀i σ H,i≤xs.length→Pv i σ H→a_ K H a xs)
  (hs:∀i x σ H,xs[i]? =some x→Pv i σ H→g x σ H fun σ2 H2=>tb {D with nx:=Pv (i+1),ct:=Pv (i+1),bk:=D.nx} σ2 H2) (hd:∀σ H,Pv xs.length σ H→D.nx σ H):
  ∃W:Nat→Nat→St→Hp→Prop,(∃m,W 0 m σ H)∧∀i m σ H,W i m σ H→
   ((vT K a).stop i H∧D.nx σ H)∨((vT K a).go i H∧∃N:St→Hp→Prop,(∀σ' H',N σ' H'→∃m',m'<m∧W (i+1) m' σ' H')∧∀x H',(vT K a).nF i H x H'→g x σ H' fun σ2 H2=>tb {D with nx:=N,ct:=N,bk:=D.nx} σ2 H2):=by
 refine⟨fun i m σ H=>m=xs.length-i∧i≤xs.length∧Pv i σ H,⟨xs.length,by simp,Nat.zero_le _,h0⟩,?_⟩
 rintro i m σ H ⟨rfl,hi,p⟩
 have q:=hl i σ H hi p
 by_cases hlt:i<xs.length
 ·refine .inr ⟨⟨xs,xs[i],q,by simp[hlt]⟩,Pv (i+1),fun σ' H' p'=>⟨xs.length-(i+1),by omega,rfl,hlt,p'⟩,fun x H' y=>?_⟩
  obtain⟨e,y⟩:=y
  subst e
  exact hs i x σ _ (y xs q) p
 ·have e:i=xs.length:=by omega
  subst e
  exact .inl ⟨⟨xs,q,Nat.le_refl _⟩,hd σ H p⟩
theorem yN {K:PySem.W.Frag} {a:Addr} {xs:List V} {g:TG} {tb:TS} {D:Ends} {σ:St} {H:Hp} (Pv:Nat→St→Hp→Prop) (h0:Pv 0 σ H) (hl:∀i σ H,i≤xs.length→Pv i σ H→aW K H a xs)
  (hs:∀i x σ H,xs[i]? =some x→Pv i σ H→g x σ H fun σ2 H2=>tb {D with nx:=Pv (i+1),ct:=Pv (i+1),bk:=D.nx} σ2 H2) (hd:∀σ H,Pv xs.length σ H→D.nx σ H):
  ∃W:Nat→Nat→St→Hp→Prop,(∃m,W 0 m σ H)∧∀i m σ H,W i m σ H→
   ((vU K a).stop i H∧D.nx σ H)∨((vU K a).go i H∧∃N:St→Hp→Prop,(∀σ' H',N σ' H'→∃m',m'<m∧W (i+1) m' σ' H')∧∀x H',(vU K a).nF i H x H'→g x σ H' fun σ2 H2=>tb {D with nx:=N,ct:=N,bk:=D.nx} σ2 H2):=by
 refine⟨fun i m σ H=>m=xs.length-i∧i≤xs.length∧Pv i σ H,⟨xs.length,by simp,Nat.zero_le _,h0⟩,?_⟩
 rintro i m σ H ⟨rfl,hi,p⟩
 have q:=hl i σ H hi p
 by_cases hlt:i<xs.length
 ·refine .inr ⟨⟨xs,xs[i],q,by simp[hlt]⟩,Pv (i+1),fun σ' H' p'=>⟨xs.length-(i+1),by omega,rfl,hlt,p'⟩,fun x H' y=>?_⟩
  obtain⟨e,y⟩:=y
  subst e
  exact hs i x σ _ (y xs q) p
 ·have e:i=xs.length:=by omega
  subst e
  exact .inl ⟨⟨xs,q,Nat.le_refl _⟩,hd σ H p⟩
theorem iV {lo:Int} {n:Nat} {g:TG} {tb:TS} {D:Ends} {σ:St} {H:Hp} (Pv:Nat→St→Hp→Prop) (h0:Pv 0 σ H)
  (hs:∀i σ H,i<n→Pv i σ H→g (.int (lo+i)) σ H fun σ2 H2=>tb {D with nx:=Pv (i+1),ct:=Pv (i+1),bk:=D.nx} σ2 H2) (hd:∀σ H,Pv n σ H→D.nx σ H):
  ∃W:Nat→Nat→St→Hp→Prop,(∃m,W 0 m σ H)∧∀i m σ H,W i m σ H→
   ((tJ lo n).stop i H∧D.nx σ H)∨((tJ lo n).go i H∧∃N:St→Hp→Prop,(∀σ' H',N σ' H'→∃m',m'<m∧W (i+1) m' σ' H')∧∀x H',(tJ lo n).nF i H x H'→g x σ H' fun σ2 H2=>tb {D with nx:=N,ct:=N,bk:=D.nx} σ2 H2):=by
 refine⟨fun i m σ H=>m=n-i∧i≤n∧Pv i σ H,⟨n,by simp,Nat.zero_le _,h0⟩,?_⟩
 rintro i m σ H ⟨rfl,hi,p⟩
 by_cases hlt:i<n
 ·refine .inr ⟨hlt,Pv (i+1),fun σ' H' p'=>⟨n-(i+1),by omega,rfl,hlt,p'⟩,fun x H' y=>?_⟩
  obtain⟨e,y⟩:=y
  subst e y
  exact hs i σ _ hlt p
 ·have e:i=n:=by omega
  subst e
  exact .inl ⟨Nat.le_refl _,hd σ H p⟩
abbrev R2:=V→V→Hp→VK→Prop
def cC (X:Cx) (f:Value→Value→Sem Value) (r:R2):Prop:=
 ∀(pins:List (Addr×Obj)) (s:Shared) (σ:St) (H:Hp) (x y:V) (v u:Value) (Q:VK),Inv X pins σ H s→RelV x v→RelV y u→r x y H Q→
  wpAny (model X.prog X.w) X.A (f v u) (EP X pins σ Q) X.xe s
def IM (X:Cx) (f:Value→Sem Value) (r:V→Hp→VK→Prop):Prop:=
 ∀(pins:List (Addr×Obj)) (s:Shared) (σ:St) (H:Hp) (x:V) (v:Value) (Q:VK),Inv X pins σ H s→RelV x v→r x H Q→
  wpAny (model X.prog X.w) X.A (f v) (EP X pins σ Q) X.xe s
def cv (X:Cx) (f:Value) (r:List V→Hp→VK→Prop):Prop:=
 ∀(pins:List (Addr×Obj)) (s:Shared) (σ:St) (H:Hp) (xs:List V) (us:List Value) (Q:VK),Inv X pins σ H s→Vals xs us→r xs H Q→
  wpAny (model X.prog X.w) X.A (call f us) (EP X pins σ Q) X.xe s
def Qs (X:Cx) (r:V→Hp→(Bool→Hp→Prop)→Prop):Prop:=
 ∀(pins:List (Addr×Obj)) (s:Shared) (σ:St) (H:Hp) (x:V) (v:Value) (Q:Bool→Hp→Prop),Inv X pins σ H s→RelV x v→r x H Q→
  wpAny (model X.prog X.w) X.A (truthy v) (TP X pins σ Q) X.xe s
def FT (r:R2) (ta tb:TE):TE:=fun σ H Q=>ta σ H fun x H1=>tb σ H1 fun y H2=>r x y H2 Q
def UP (r:V→Hp→VK→Prop) (ta:TE):TE:=fun σ H Q=>ta σ H fun x H1=>r x H1 Q
def rI (C:Int→Int→Prop) (g:Int→Int→V):R2:=fun x y H Q=>∃i j,x=.int i∧y=.int j∧C i j∧Q (g i j) H
def tK (g:Int→Int→V):R2:=fun x y H Q=>∃i j,x=.int i∧y=.int j∧Q (g i j) H
def rU (g:Int→V):V→Hp→VK→Prop:=fun x H Q=>∃i,x=.int i∧Q (g i) H
section
variable {X:Cx} {a b c:Expr} {ta tb tc:TE} {pos:Pos}
theorem Ee (ha:PE X a ta) (hb:PE X b tb) {pins:List (Addr×Obj)} {s:Shared} {σ:St} {H:Hp} {R:V→V→Hp→Prop} (I:Inv X pins σ H s)
  (h:ta σ H fun x H1=>tb σ H1 fun y H2=>R x y H2) {Q:Value→Shared→Prop} {f:Value→Value→Sem Value}
  (hf:∀v u s2 x y H2,Inv X pins σ H2 s2→RelV x v→RelV y u→R x y H2→wpAny (model X.prog X.w) X.A (f v u) Q X.xe s2):
  wpAny (model X.prog X.w) X.A (eval a X.env) (fun v s₁=>wpAny (model X.prog X.w) X.A (eval b X.env) (fun u s₂=>wpAny (model X.prog X.w) X.A (f v u) Q X.xe s₂) X.xe s₁) X.xe s:=by
 refine aE (ha pins s σ H _ I h) fun v s1 ⟨x,H1,I1,r1,q1⟩=>?_
 refine aE (hb pins s1 σ H1 _ I1 q1) fun u s2 ⟨y,H2,I2,r2,q2⟩=>?_
 exact hf v u s2 x y H2 I2 r1 r2 q2
theorem aG {op:Operator} {r:R2} (ho:cC X (binaryOp op) r) (ha:PE X a ta) (hb:PE X b tb):PE X (.BinOp a op b pos) (FT r ta tb):=by
 intro pins s σ H Q I h
 exact wpAny_BinOp (Ee ha hb I h fun v u s2 x y H2 I2 rx ry q=>ho pins s2 σ H2 x y v u Q I2 rx ry q)
theorem FU {op:UnaryOp} {r:V→Hp→VK→Prop} (ho:IM X (unaryOp op) r) (ha:PE X a ta):PE X (.UnaryOp op a pos) (UP r ta):=by
 intro pins s σ H Q I h
 exact UnaryOp_ (aE (ha pins s σ H _ I h) fun v s1 ⟨x,H1,I1,r1,q1⟩=>ho pins s1 σ H1 x v Q I1 r1 q1)
theorem Bk {f:Value→Value→Sem Value} {C:Int→Int→Prop} {g:Int→Int→Int}
  (rule:∀(i j:Int) (t u:Tok) (s:Shared) (Q:Value→Shared→Prop) (E:Value→Shared→Prop),C i j→Q (.int (g i j) s.toks) {s with toks:=s.toks+1}→wpAny (model X.prog X.w) X.A (f (.int i t) (.int j u)) Q E s):
  cC X f (rI C fun i j=>.int (g i j)):=by
 intro pins s σ H x y v u Q I rx ry h
 obtain⟨i,j,rfl,rfl,hc,q⟩:=h
 obtain⟨t,rfl⟩:=rx
 obtain⟨t',rfl⟩:=ry
 exact rule i j t t' s _ _ hc ⟨.int (g i j),H,I.tok _,⟨_,rfl⟩,q⟩
theorem IP {f:Value→Value→Sem Value} {g:Int→Int→Int}
  (rule:∀(i j:Int) (t u:Tok) (s:Shared) (Q:Value→Shared→Prop) (E:Value→Shared→Prop),Q (.int (g i j) s.toks) {s with toks:=s.toks+1}→wpAny (model X.prog X.w) X.A (f (.int i t) (.int j u)) Q E s):
  cC X f (tK fun i j=>.int (g i j)):=by
 intro pins s σ H x y v u Q I rx ry h
 obtain⟨i,j,rfl,rfl,q⟩:=h
 obtain⟨t,rfl⟩:=rx
 obtain⟨t',rfl⟩:=ry
 exact rule i j t t' s _ _ ⟨.int (g i j),H,I.tok _,⟨_,rfl⟩,q⟩
theorem zP {f:Value→Value→Sem Value} {g:Int→Int→Bool}
  (rule:∀(i j:Int) (t u:Tok) (s:Shared) (Q:Value→Shared→Prop) (E:Value→Shared→Prop),Q (.bool (g i j)) s→wpAny (model X.prog X.w) X.A (f (.int i t) (.int j u)) Q E s):
  cC X f (tK fun i j=>.bl (g i j)):=by
 intro pins s σ H x y v u Q I rx ry h
 obtain⟨i,j,rfl,rfl,q⟩:=h
 obtain⟨t,rfl⟩:=rx
 obtain⟨t',rfl⟩:=ry
 exact rule i j t t' s _ _ ⟨.bl (g i j),H,I,rfl,q⟩
def Qt (i j:Int):Prop:=0≤j∧j≤1000000∧i.natAbs<2 ^ 64
def Ef (i j:Int):Prop:=(-(2 ^ 64)<i∧i<2 ^ 64)∨(-(2 ^ 64)<j∧j<2 ^ 64)
theorem Ef.ok {i j:Int} (h:Ef i j):IntMulOk i j:=by
 rcases h with⟨h1,h2⟩ | ⟨h1,h2⟩
 ·exact .of_left (intBits_le_64 h1 h2)
 ·exact .of_right (intBits_le_64 h1 h2)
theorem dY:cC X (binaryOp .Add) (tK fun i j=>.int (i+j)):=IP fun _ _ _ _ _ _ _ q=>add_int q
theorem fq:cC X (binaryOp .Sub) (tK fun i j=>.int (i-j)):=IP fun _ _ _ _ _ _ _ q=>sub_int q
theorem ft:cC X (binaryOp .Mult) (rI Ef fun i j=>.int (i*j)):=Bk fun _ _ _ _ _ _ _ hc q=>mul_int q hc.ok
theorem IQ:cC X (binaryOp .Mod) (rI (fun _ j=>0<j) fun i j=>.int (i % j)):=Bk fun i j _ _ _ _ _ hc q=>by
 have h1:(0:Int)<j:=hc
 exact mod_int' (by omega) (by rw[Int.fmod_eq_emod_of_nonneg i (by omega)];exact q)
theorem vV:cC X (binaryOp .Pow) (rI Qt fun i j=>.int (i ^ j.toNat)):=Bk fun _ _ _ _ _ _ _ hc q=>pow_int_small hc.1 hc.2.1 hc.2.2 q
theorem UQ {f:Value→Sem Value} {g:Int→Int}
  (rule:∀(i:Int) (t:Tok) (s:Shared) (Q:Value→Shared→Prop) (E:Value→Shared→Prop),Q (.int (g i) s.toks) {s with toks:=s.toks+1}→wpAny (model X.prog X.w) X.A (f (.int i t)) Q E s):
  IM X f (rU fun i=>.int (g i)):=by
 intro pins s σ H x v Q I rx h
 obtain⟨i,rfl,q⟩:=h
 obtain⟨t,rfl⟩:=rx
 exact rule i t s _ _ ⟨.int (g i),H,I.tok _,⟨_,rfl⟩,q⟩
theorem Bl:IM X (unaryOp .USub) (rU fun i=>.int (-i)):=UQ fun _ _ _ _ _ q=>neg_int q
end
def IT:V→V→Bool
 | .non,.non=>true | .non,.int _=>true | .int _,.non=>true | .non,.bl _=>true | .bl _,.non=>true | .non,.str _=>true | .str _,.non=>true
 | .int _,.int _=>true | .bl _,.bl _=>true | .str _,.str _=>true | .jC _,.jC _=>true
 | .int _,.str _=>true | .str _,.int _=>true | .bl _,.str _=>true | .str _,.bl _=>true
 | _,_=>false
def UR:R2:=fun x y H Q=>IT x y=true∧Q (.bl (decide (x=y))) H
def US:R2:=fun x y H Q=>IT x y=true∧Q (.bl (!decide (x=y))) H
theorem yO {i j:Int}:decide (V.int i=V.int j)=(i == j):=by
 rw[Bool.eq_iff_iff]
 simp
theorem Bm {i j:Bool}:decide (V.bl i=V.bl j)=(i == j):=by
 rw[Bool.eq_iff_iff]
 simp
theorem yP {i j:Str}:decide (V.str i=V.str j)=(i == j):=by
 rw[Bool.eq_iff_iff]
 simp
theorem yQ {i j:Array UInt8}:decide (V.jC i=V.jC j)=(i.toList == j.toList):=by
 rw[Bool.eq_iff_iff]
 cases i
 cases j
 simp
section
variable {X:Cx} {a b c:Expr} {ta tb tc:TE} {pos:Pos}
theorem bf {pins:List (Addr×Obj)} {σ:St} {H:Hp} {s:Shared} {Q:VK} {k k':Bool} (I:Inv X pins σ H s) (q:Q (.bl k) H) (e:k=k'):EP X pins σ Q (.bool k') s:=by
 subst e
 exact⟨.bl k,H,I,rfl,q⟩
theorem lR:cC X (compareOp .Eq) UR:=by
 intro pins s σ H x y v u Q I rx ry h
 obtain⟨hs,q⟩:=h
 cases x with
 | non=>
  cases rx
  cases y with
  | non=>cases ry;exact PySem.EqNone.eq_none_none (bf I q (by simp))
  | bl j=>cases ry;exact PySem.EqNone.eq_none_bool (bf I q (by simp))
  | int j=>obtain⟨t',rfl⟩:=ry;exact PySem.EqNone.eq_none_int (bf I q (by simp))
  | str j=>obtain⟨t',rfl⟩:=ry;exact PySem.EqNone.eq_none_str (bf I q (by simp))
  | _=>exact absurd (show false=true from hs) Bool.false_ne_true
 | bl i=>
  cases rx
  cases y with
  | non=>cases ry;exact PySem.EqNone.eq_bool_none (bf I q (by simp))
  | bl j=>cases ry;exact eq_bool (bf I q Bm)
  | str j=>obtain⟨t',rfl⟩:=ry;exact PySem.EqMixed.eq_bool_str (bf I q (by simp))
  | _=>exact absurd (show false=true from hs) Bool.false_ne_true
 | int i=>
  obtain⟨t,rfl⟩:=rx
  cases y with
  | non=>cases ry;exact PySem.EqNone.eq_int_none (bf I q (by simp))
  | int j=>obtain⟨t',rfl⟩:=ry;exact eq_int (bf I q yO)
  | str j=>obtain⟨t',rfl⟩:=ry;exact PySem.EqMixed.eq_int_str (bf I q (by simp))
  | _=>exact absurd (show false=true from hs) Bool.false_ne_true
 | str i=>
  obtain⟨t,rfl⟩:=rx
  cases y with
  | non=>cases ry;exact PySem.EqNone.eq_str_none (bf I q (by simp))
  | bl j=>cases ry;exact PySem.EqMixed.eq_str_bool (bf I q (by simp))
  | int j=>obtain⟨t',rfl⟩:=ry;exact PySem.EqMixed.eq_str_int (bf I q (by simp))
  | str j=>obtain⟨t',rfl⟩:=ry;exact eq_str (bf I q yP)
  | _=>exact absurd (show false=true from hs) Bool.false_ne_true
 | jC i=>
  obtain⟨t,rfl⟩:=rx
  cases y with
  | jC j=>obtain⟨t',rfl⟩:=ry;exact PySem.W.eq_bytes (bf I q yQ)
  | _=>exact absurd (show false=true from hs) Bool.false_ne_true
 | _=>cases y<;>exact absurd (show false=true from hs) Bool.false_ne_true
theorem jt:cC X (compareOp .NotEq) US:=by
 intro pins s σ H x y v u Q I rx ry h
 obtain⟨hs,q⟩:=h
 cases x with
 | non=>
  cases rx
  cases y with
  | non=>cases ry;exact PySem.EqNone.ne_none_none (bf I q (by simp))
  | bl j=>cases ry;exact PySem.EqNone.ne_none_bool (bf I q (by simp))
  | int j=>obtain⟨t',rfl⟩:=ry;exact PySem.EqNone.ne_none_int (bf I q (by simp))
  | str j=>obtain⟨t',rfl⟩:=ry;exact PySem.EqNone.ne_none_str (bf I q (by simp))
  | _=>exact absurd (show false=true from hs) Bool.false_ne_true
 | bl i=>
  cases rx
  cases y with
  | non=>cases ry;exact PySem.EqNone.ne_bool_none (bf I q (by simp))
  | bl j=>cases ry;exact ne_bool (bf I q (congrArg not Bm))
  | str j=>obtain⟨t',rfl⟩:=ry;exact PySem.EqMixed.ne_bool_str (bf I q (by simp))
  | _=>exact absurd (show false=true from hs) Bool.false_ne_true
 | int i=>
  obtain⟨t,rfl⟩:=rx
  cases y with
  | non=>cases ry;exact PySem.EqNone.ne_int_none (bf I q (by simp))
  | int j=>obtain⟨t',rfl⟩:=ry;exact ne_int (bf I q (congrArg not yO))
  | str j=>obtain⟨t',rfl⟩:=ry;exact PySem.EqMixed.ne_int_str (bf I q (by simp))
  | _=>exact absurd (show false=true from hs) Bool.false_ne_true
 | str i=>
  obtain⟨t,rfl⟩:=rx
  cases y with
  | non=>cases ry;exact PySem.EqNone.ne_str_none (bf I q (by simp))
  | bl j=>cases ry;exact PySem.EqMixed.ne_str_bool (bf I q (by simp))
  | int j=>obtain⟨t',rfl⟩:=ry;exact PySem.EqMixed.ne_str_int (bf I q (by simp))
  | str j=>obtain⟨t',rfl⟩:=ry;exact ne_str (bf I q (congrArg not yP))
  | _=>exact absurd (show false=true from hs) Bool.false_ne_true
 | jC i=>
  obtain⟨t,rfl⟩:=rx
  cases y with
  | jC j=>obtain⟨t',rfl⟩:=ry;exact PySem.W.ne_bytes (bf I q (congrArg not yQ))
  | _=>exact absurd (show false=true from hs) Bool.false_ne_true
 | _=>cases y<;>exact absurd (show false=true from hs) Bool.false_ne_true
theorem zQ:cC X (compareOp .Lt) (tK fun i j=>.bl (decide (i<j))):=zP fun _ _ _ _ _ _ _ q=>lt_int q
theorem FV:cC X (compareOp .LtE) (tK fun i j=>.bl (decide (i≤j))):=zP fun _ _ _ _ _ _ _ q=>le_int q
theorem vH:cC X (compareOp .Gt) (tK fun i j=>.bl (decide (j<i))):=zP fun _ _ _ _ _ _ _ q=>gt_int q
theorem FW:cC X (compareOp .GtE) (tK fun i j=>.bl (decide (j≤i))):=zP fun _ _ _ _ _ _ _ q=>ge_int q
theorem Bn:cC X (compareOp .Is) (fun x y H Q=>y=.non∧Q (.bl (decide (x=.non))) H):=by
 intro pins s σ H x y v u Q I rx ry h
 obtain⟨rfl,q⟩:=h
 cases ry
 refine is_none_gen (bf I q ?_)
 cases x<;>first
  | (cases rx;rfl)
  | (obtain⟨t,rfl⟩:=rx;rfl)
theorem bB (b:Expr) {op:CmpOp} (h:op≠.In:=by decide) (h2:op≠.NotIn:=by decide):behindInMarks op b=false:=by
 have e1:(op == CmpOp.In)=false:=by cases op<;>first | rfl | exact absurd rfl h
 have e2:(op == CmpOp.NotIn)=false:=by cases op<;>first | rfl | exact absurd rfl h2
 cases b<;>simp[behindInMarks,e1,e2]
theorem ox {op:CmpOp} {r:R2} (ho:cC X (compareOp op) r) (ha:PE X a ta) (hb:PE X b tb) (hm:behindInMarks op b=false):PE X (.Compare a [op] [b] pos) (FT r ta tb):=by
 intro pins s σ H Q I h
 exact wpAny_Compare1 (Ee ha hb I h fun v u s2 x y H2 I2 rx ry q=>ho pins s2 σ H2 x y v u Q I2 rx ry q) hm
def FX (t:TE):TT:=fun σ H Q=>t σ H fun x H'=>∃k,x=.bl k∧Q k H'
theorem bh {op:CmpOp} {r:R2} (ho:cC X (compareOp op) r) (ha:PE X a ta) (hb:PE X b tb) (hm:behindInMarks op b=false):PT X (.Compare a [op] [b] pos) (FX (FT r ta tb)):=by
 intro pins s σ H Q I h
 refine wpAny_isTrue_Compare1 (aE (ha pins s σ H _ I h) fun v s1 ⟨x,H1,I1,r1,q1⟩=>aE (hb pins s1 σ H1 _ I1 q1) fun u s2 ⟨y,H2,I2,r2,q2⟩=>
  aE (ho pins s2 σ H2 x y v u _ I2 r1 r2 q2) fun c s3 ⟨z,H3,I3,r3,k,e,q3⟩=>?_) hm
 subst e
 cases r3
 exact wpAny_truthy_bool ⟨H3,I3,q3⟩
def Bo (r r':R2) (ta tb tc:TE):TE:=fun σ H Q=>ta σ H fun x H1=>tb σ H1 fun y H2=>r x y H2 fun z H3=>∃k,z=.bl k∧
 (if k=true then tc σ H3 fun w' H4=>r' y w' H4 Q else Q (.bl false) H3)
theorem Eg {op op':CmpOp} {r r':R2} (ho:cC X (compareOp op) r) (ho':cC X (compareOp op') r') (ha:PE X a ta) (hb:PE X b tb) (hc:PE X c tc)
  (hm:lastMarks [op,op'] [b,c]=false:=by with_unfolding_all rfl):PE X (.Compare a [op,op'] [b,c] pos) (Bo r r' ta tb tc):=by
 intro pins s σ H Q I h
 refine Compare_chain (aE (ha pins s σ H _ I h) fun v s1 ⟨x,H1,I1,r1,q1⟩=>chain_link (aE (hb pins s1 σ H1 _ I1 q1) fun u s2 ⟨y,H2,I2,r2,q2⟩=>
  aE (ho pins s2 σ H2 x y v u _ I2 r1 r2 q2) fun d s3 ⟨z,H3,I3,r3,k,e,q3⟩=>?_)) hm
 subst e
 cases r3
 refine wpAny_truthy_bool ?_
 cases k with
 | false=>exact ite_ff ⟨.bl false,H3,I3,rfl,q3⟩
 | true=>exact ite_tt (chain_last (aE (hc pins s3 σ H3 _ I3 q3) fun w' s4 ⟨z',H4,I4,r4,q4⟩=>ho' pins s4 σ H4 y z' u w' Q I4 r2 r4 q4))
theorem Eh {op op':CmpOp} {r r':R2} (ho:cC X (compareOp op) r) (ho':cC X (compareOp op') r') (ha:PE X a ta) (hb:PE X b tb) (hc:PE X c tc)
  (hm:lastMarks [op,op'] [b,c]=false:=by with_unfolding_all rfl):PT X (.Compare a [op,op'] [b,c] pos) (FX (Bo r r' ta tb tc)):=by
 intro pins s σ H Q I h
 refine isTrue_chain (aE (ha pins s σ H _ I h) fun v s1 ⟨x,H1,I1,r1,q1⟩=>test_link (aE (hb pins s1 σ H1 _ I1 q1) fun u s2 ⟨y,H2,I2,r2,q2⟩=>
  aE (ho pins s2 σ H2 x y v u _ I2 r1 r2 q2) fun d s3 ⟨z,H3,I3,r3,k,e,q3⟩=>?_)) hm
 subst e
 cases r3
 refine wpAny_truthy_bool ?_
 cases k with
 | false=>
  obtain⟨k',e',q'⟩:=q3
  cases e'
  exact ite_ff ⟨H3,I3,q'⟩
 | true=>
  refine ite_tt (test_last (aE (hc pins s3 σ H3 _ I3 q3) fun w' s4 ⟨z',H4,I4,r4,q4⟩=>aE (ho' pins s4 σ H4 y z' u w' _ I4 r2 r4 q4) fun d' s5 ⟨z2,H5,I5,r5,k2,e2,q5⟩=>?_))
  subst e2
  cases r5
  exact wpAny_truthy_bool ⟨H5,I5,q5⟩
def IU (K:PySem.W.Frag) (x:V) (H:Hp) (k:Bool):Prop:=
 match x with
 | .non=>k=false
 | .bl b=>k=b
 | .int i=>k=(i != 0)
 | .str y=>y.length≤sizeLine∧k=((y.length:Int) != 0)
 | .jC y=>y.size≤sizeLine∧k=((y.size:Int) != 0)
 | .ref p=>(∃xs,a_ K H p xs∧k= !xs.isEmpty)∨(∃xs,aW K H p xs∧k= !xs.isEmpty)∨∃kvs,H p=some (.dK kvs)∧k= !kvs.isEmpty
 | _=>False
theorem zR {κ:Type} {kvs:List (κ×V)} {vs:List (κ×Value)} (r:KV kvs vs):(!vs.isEmpty)= !kvs.isEmpty:=by
 cases r<;>rfl
theorem qb {xs:List V} {its:List Value} (r:Vals xs its):(!its.toArray.isEmpty)= !xs.isEmpty:=by
 cases r<;>simp
theorem nH:(sizeLine:Nat)<2 ^ 63:=by rw[sizeLine_eq];decide
theorem IV:Qs X (fun x H Q=>∃k,IU X.K x H k∧Q k H):=by
 intro pins s σ H x v Q I rx h
 obtain⟨k,e,q⟩:=h
 have hl:=nH
 have hs:sizeLine=16777216:=sizeLine_eq
 cases x with
 | non=>
  cases rx
  have e':k=false:=e
  subst e'
  exact truthy_none ⟨H,I,q⟩
 | bl b=>
  cases rx
  have e':k=b:=e
  subst e'
  exact wpAny_truthy_bool ⟨H,I,q⟩
 | int i=>
  obtain⟨t,rfl⟩:=rx
  have e':k=(i != 0):=e
  subst e'
  exact PySem.P.truthy_int ⟨H,I,q⟩
 | str y=>
  obtain⟨t,rfl⟩:=rx
  obtain⟨hy,e'⟩:y.length≤sizeLine∧k=((y.length:Int) != 0):=e
  subst e'
  exact PySem.P.truthy_str (by omega) ⟨H,I.tok _,q⟩
 | jC y=>
  obtain⟨t,rfl⟩:=rx
  obtain⟨hy,e'⟩:y.size≤sizeLine∧k=((y.size:Int) != 0):=e
  subst e'
  exact PySem.W.truthy_bytes (by omega) ⟨H,I.tok _,q⟩
 | ref p=>
  cases rx
  have e':(∃xs,a_ X.K H p xs∧k= !xs.isEmpty)∨(∃xs,aW X.K H p xs∧k= !xs.isEmpty)∨∃kvs,H p=some (.dK kvs)∧k= !kvs.isEmpty:=e
  rcases e' with⟨xs,hx,e'⟩ | ⟨xs,hx,e'⟩ | ⟨kvs,hx,e'⟩
  ·subst e'
   obtain⟨its,r,pl,hz⟩:=I.list hx
   have hlen:=r.length
   exact wpAny_truthy_list pl.isList (by simp only[List.size_toArray];omega) ⟨H,I.tok _,by rw[qb r];exact q⟩
  ·subst e'
   obtain⟨its,r,pl,hz⟩:=I.tuple hx
   have hlen:=r.length
   exact truthy_tuple pl (by simp only[List.size_toArray];omega) ⟨H,I.tok _,by rw[qb r];exact q⟩
  ·subst e'
   obtain⟨hz,hS,vs,r,m⟩:kvs.length≤sizeLine∧(p == sysModules)=false∧∃vs,KV kvs vs∧s.heap.DictOf (aV X.prog X.w) p vs:=I.hok p _ hx
   have hlen:kvs.length=vs.length:=Paired.length r
   exact wpAny_truthy_dict hS m (by omega) ⟨H,I.tok _,by rw[zR r];exact q⟩
 | _=>exact(show False from e).elim
theorem eB (ha:PE X a ta) (he:∀whole,isTrue a X.env whole=(do let v ←whole;standAt a.pos;holding [v] (truthy v))):
  PT X a (fun σ H Q=>ta σ H fun x H'=>∃k,IU X.K x H' k∧Q k H'):=by
 intro pins s σ H Q I h
 exact isTrue_plain (aE (ha pins s σ H _ I h) fun v s1 ⟨x,H1,I1,r1,q1⟩=>IV pins s1 σ H1 x v Q I1 r1 q1) (he _)
theorem qc:cC X (binaryOp .Add) (fun x y H Q=>∃i j,x=.str i∧y=.str j∧i.length+j.length≤sizeLine∧Q (.str (i++j)) H):=by
 intro pins s σ H x y v u Q I rx ry h
 obtain⟨i,j,rfl,rfl,hz,q⟩:=h
 obtain⟨t,rfl⟩:=rx
 obtain⟨t',rfl⟩:=ry
 exact add_str (fun t' tk=>⟨.str (i++j),H,I.tok _,⟨_,rfl⟩,q⟩) hz
theorem vals1 {x:V} {us:List Value} (r:Vals [x] us):∃u,us=[u]∧RelV x u:=by
 cases r with
 | cons r1 r2=>cases r2;exact⟨_,rfl,r1⟩
theorem vals2 {x y:V} {us:List Value} (r:Vals [x,y] us):∃u w',us=[u,w']∧RelV x u∧RelV y w':=by
 cases r with
 | cons r1 r2=>
  cases r2 with
  | cons r3 r4=>cases r4;exact⟨_,_,rfl,r1,r3⟩
theorem vW:cv X (.builtin "abs") (fun xs H Q=>∃i,xs=[.int i]∧Q (.int (if i<0 then-i else i)) H):=by
 intro pins s σ H xs us Q I r h
 obtain⟨i,rfl,q⟩:=h
 obtain⟨u,rfl,t,rfl⟩:=vals1 r
 exact call_abs_int fun u tk=>⟨.int (if i<0 then-i else i),H,I.tok _,⟨_,rfl⟩,q⟩
theorem Bp (hc:X.calm=true):cv X (.builtin "max") (fun xs H Q=>∃i j,xs=[.int i,.int j]∧Q (.int (if j>i then j else i)) H):=by
 intro pins s σ H xs us Q I r h
 obtain⟨i,j,rfl,q⟩:=h
 obtain⟨u,w',rfl,⟨t,rfl⟩,⟨t',rfl⟩⟩:=vals2 r
 refine max_two_ints (I.ok.hd hc) fun h' tk k=>⟨_,H,I.kept k,?_,q⟩
 by_cases hj:j>i
 ·rw[if_pos hj,if_pos hj];exact⟨_,rfl⟩
 ·rw[if_neg hj,if_neg hj];exact⟨_,rfl⟩
theorem zS:cv X (.type "bool") (fun xs H Q=>(∃i,xs=[.int i]∧Q (.bl (i != 0)) H)∨∃k,xs=[.bl k]∧Q (.bl k) H):=by
 intro pins s σ H xs us Q I r h
 rcases h with⟨i,rfl,q⟩ | ⟨k,rfl,q⟩
 ·obtain⟨u,rfl,t,rfl⟩:=vals1 r
  exact call_bool_int ⟨.bl (i != 0),H,I,rfl,q⟩
 ·obtain⟨u,rfl,r1⟩:=vals1 r
  cases r1
  exact call_bool_bool ⟨.bl k,H,I,rfl,q⟩
def IW (K:PySem.W.Frag) (x:V) (H:Hp) (n:Nat):Prop:=
 match x with
 | .str y=>y.length≤sizeLine∧n=y.length
 | .jC y=>y.size≤sizeLine∧n=y.size
 | .ref p=>(∃xs,a_ K H p xs∧n=xs.length)∨∃xs,aW K H p xs∧n=xs.length
 | _=>False
theorem Ei:cv X (.builtin "len") (fun xs H Q=>∃x n,xs=[x]∧IW X.K x H n∧Q (.int n) H):=by
 intro pins s σ H xs us Q I r h
 obtain⟨x,n,rfl,e,q⟩:=h
 obtain⟨u,rfl,rx⟩:=vals1 r
 have hl:=nH
 have hs:sizeLine=16777216:=sizeLine_eq
 cases x with
 | str y=>
  obtain⟨t,rfl⟩:=rx
  obtain⟨hy,e'⟩:y.length≤sizeLine∧n=y.length:=e
  subst e'
  exact len_str (by omega) ⟨.int _,H,I.tok _,⟨_,rfl⟩,q⟩
 | jC y=>
  obtain⟨t,rfl⟩:=rx
  obtain⟨hy,e'⟩:y.size≤sizeLine∧n=y.size:=e
  subst e'
  exact PySem.W.len_bytes (by omega) ⟨.int _,H,I.tok _,⟨_,rfl⟩,q⟩
 | ref p=>
  cases rx
  have e':(∃xs,a_ X.K H p xs∧n=xs.length)∨∃xs,aW X.K H p xs∧n=xs.length:=e
  rcases e' with⟨xs,hx,e'⟩ | ⟨xs,hx,e'⟩
  ·subst e'
   obtain⟨its,r',pl,hz⟩:=I.list hx
   have hlen:=r'.length
   exact Calls.call_len_list pl.isList (by simp only[List.size_toArray];omega) ⟨.int xs.length,H,I.tok _,⟨_,by simp only[List.size_toArray];rw[hlen]⟩,q⟩
  ·subst e'
   obtain⟨its,r',pl,hz⟩:=I.tuple hx
   have hlen:=r'.length
   exact len_tuple pl (by simp only[List.size_toArray];omega) ⟨.int xs.length,H,I.tok _,⟨_,by simp only[List.size_toArray];rw[hlen]⟩,q⟩
 | _=>exact(show False from e).elim
end
structure Ej (h:Heap) (x dx C:Addr) (mA:Str→Option Value):Prop where
 obj:h.get? x=some (PySem.W.instObj C dx)
 ns:h.Ns1 dx mA
 ne:dx≠x
theorem Bq {h:Heap} {dx:Addr} {mA:Str→Option Value} (n:h.Ns1 dx mA):∃od,h.get? dx=some od∧∀name,PySem.W.lookIn name od=some (mA name):=by
 obtain⟨o,es,ep,ho,hd,hk,_,hm⟩:=n
 refine⟨o,ho,fun name=>?_⟩
 have e:=hm name
 unfold nsFind findBy at e
 rw[←Array.find?_toList] at e
 unfold PySem.W.lookIn
 rw[hd]
 dsimp only
 split
 ·rename_i y q
  rw[q] at e
  exact congrArg some e
 ·rename_i q
  rw[q] at e
  have a:es.toList.any (·.refKey)=false:=by
   rw[List.any_eq_false]
   intro y hy
   obtain⟨z,t,hkey⟩:=hk y (Array.mem_toList_iff.mp hy)
   simp[DictEntry.refKey,hkey]
  have a':¬es.toList.any (·.refKey)=true:=by rw[a];exact Bool.false_ne_true
  rw[if_neg a']
  exact congrArg some e
theorem Ej.look {h:Heap} {x dx C:Addr} {mA:Str→Option Value} (I:Ej h x dx C mA):∃od,PySem.W.InstAt h x (PySem.W.instObj C dx) C (some od)∧∀name,PySem.W.lookIn name od=some (mA name):=
 let ⟨od,ho,hl⟩:=Bq I.ns
 ⟨od,⟨I.obj,rfl,rfl,ho⟩,hl⟩
theorem fm.some_of {v:V} {o:Option Value} (r:fm (some v) o):∃u,o=some u∧RelV v u:=by
 cases o with
 | none=>exact(show False from r).elim
 | some u=>exact⟨u,rfl,r⟩
theorem fm.none_of {o:Option Value} (r:fm none o):o=none:=by
 cases o with
 | none=>rfl
 | some u=>exact(show False from r).elim
section
variable {P:Program} {w:World} {H H':Hp} {h h':Heap} {a C dx:Addr} {fs fs':List (Str×V)}
theorem Hq (hok:cG P w H h) (e:H a=some (.ins C dx fs)):∃mA,Ej h a dx C mA∧(∀f,fm (fs.lookup f) (mA f))∧PySem.Within mA (fs.map (·.1))∧fs.length≤1000∧H dx=some (.own a):=by
 obtain⟨d,z,ne,ob,mA,n,r,q⟩:=(show bb P w H h a (.ins C dx fs) from hok a _ e)
 exact⟨mA,⟨ob,n,ne⟩,r,q,z,d⟩
end
structure Cls (K:PySem.W.Frag) (C:Addr):Prop where
 pg:PySem.W.plainGet K C Str.empty=true
 hd:PySem.W.hasDictIn K C=true
 po:PySem.W.plainOver K C=true
 sa:PySem.W.findIn K (.ref C) "__setattr__"=some (some (.builtin "object.__setattr__"))
theorem Cls.get {K:PySem.W.Frag} {C:Addr} (c:Cls K C) (f:Str):PySem.W.plainGet K C f=true:=c.pg
section
variable {X:Cx} {pins:List (Addr×Obj)} {σ:St} {H:Hp} {s:Shared} {A:Around} {E:Value→Shared→Prop} {Q:Value→Shared→Prop} {c:Value} {b:Bool}
inductive gM (K:PySem.W.Frag) (H:Hp):V→Value→Prop where
 | non:gM K H .non (.type "NoneType")
 | bl (x:Bool):gM K H (.bl x) (.type "bool")
 | int (i:Int):gM K H (.int i) (.type "int")
 | str (x:Str):gM K H (.str x) (.type "str")
 | flt (x:UInt64):gM K H (.flt x) (.type "float")
 | lst {a:Addr} {xs:List V} (e:H a=some (.lst xs)):gM K H (.ref a) (.type "list")
 | c_ {a:Addr} {o:Obj} {xs:List V} (e:H a=some (.c_ o (.lst xs))):gM K H (.ref a) (.type "list")
 | tup {a:Addr} {xs:List V} (e:H a=some (.tup xs)):gM K H (.ref a) (.type "tuple")
 | dK {a:Addr} {kvs:List (Key×V)} (e:H a=some (.dK kvs)):gM K H (.ref a) (.type "dict")
 | dT {a:Addr} {kvs:List (List Key×V)} (e:H a=some (.dT kvs)):gM K H (.ref a) (.type "dict")
 | ins {a C dx:Addr} {fs:List (Str×V)} (e:H a=some (.ins C dx fs)) (cl:Cls K C) (ha:PySem.W.findIn K (.ref C) "__class__"=some (some (.builtin "object.__class__")))
   (hn:PySem.W.specialIn K (.builtin "object.__class__") "__get__"=some (some (.builtin "getset_descriptor.__get__"))) (htk:PySem.W.takesIn K (.builtin "object.__class__")=some true)
   (hm:PySem.W.mroIn K C (.type "object")=some true):gM K H (.ref a) (.ref C)
theorem Br {x:V} {u t:Value} (I:Inv X pins σ H s) (rx:RelV x u) (ty:gM X.K H x t) (e:PySem.W.kitOne X.K t c=some b) (h:∀tk,Q (.bool b) {s with toks:=tk}):
  wpAny (model X.prog X.w) A (call (.builtin "isinstance") [u,c]) Q E s:=by
 cases ty with
 | non=>cases(show u=Value.none from rx);exact PySem.W.kia_one PySem.W.kitx_none I.gg True.intro e (fun z=>nomatch z) h
 | bl y=>cases(show u=Value.bool y from rx);exact PySem.W.kia_one PySem.W.kitx_bool I.gg True.intro e (fun z=>nomatch z) h
 | int i=>obtain⟨t,q⟩:=(show ∃t,u=Value.int i t from rx);cases q;exact PySem.W.kia_one PySem.W.kitx_int I.gg True.intro e (fun z=>nomatch z) h
 | str y=>obtain⟨t,q⟩:=(show ∃t,u=Value.str y t from rx);cases q;exact PySem.W.kia_one PySem.W.kitx_str I.gg True.intro e (fun z=>nomatch z) h
 | flt y=>obtain⟨t,q⟩:=(show ∃t,u=Value.float y t from rx);cases q;exact PySem.W.kia_one PySem.W.kitx_float I.gg True.intro e (fun z=>nomatch z) h
 | @lst a xs ea=>
  cases(show u=Value.ref a from rx)
  obtain⟨_,_,n,_,h1⟩:=(show bb X.prog X.w H s.heap a (.lst xs) from I.hok a _ ea)
  exact PySem.W.kia_one PySem.W.kitx_list I.gg ⟨_,h1,rfl⟩ e (fun z=>nomatch z) h
 | @c_ a ob xs ea=>
  cases(show u=Value.ref a from rx)
  obtain⟨_,_,_,n,_,h1⟩:=(show bb X.prog X.w H s.heap a (.c_ ob (.lst xs)) from I.hok a _ ea)
  exact PySem.W.kia_one PySem.W.kitx_list I.gg ⟨_,h1,rfl⟩ e (fun z=>nomatch z) h
 | @tup a xs ea=>
  cases(show u=Value.ref a from rx)
  obtain⟨_,_,_,p⟩:=(show bb X.prog X.w H s.heap a (.tup xs) from I.hok a _ ea)
  obtain⟨o,h1,h2,_⟩:=p
  exact PySem.W.kia_one PySem.W.kitx_tuple I.gg ⟨o,h1,h2⟩ e (fun z=>nomatch z) h
 | @dK a kvs ea=>
  cases(show u=Value.ref a from rx)
  obtain⟨_,_,vs,_,p⟩:=(show bb X.prog X.w H s.heap a (.dK kvs) from I.hok a _ ea)
  obtain⟨o,es,ep,h1,h2,_⟩:=p
  exact PySem.W.kia_one PySem.W.kitx_dict I.gg ⟨o,h1,h2.1⟩ e (fun z=>nomatch z) h
 | @dT a kvs ea=>
  cases(show u=Value.ref a from rx)
  obtain⟨_,_,xs,_,o,es,ep,h1,h2,_⟩:=(show bb X.prog X.w H s.heap a (.dT kvs) from I.hok a _ ea)
  exact PySem.W.kia_one PySem.W.kitx_dict I.gg ⟨o,h1,h2.1⟩ e (fun z=>nomatch z) h
 | @ins a C dx fs ea cl ha hn htk hm=>
  cases(show u=Value.ref a from rx)
  obtain⟨mA,O,_⟩:=Hq I.hok ea
  obtain⟨od,J,_⟩:=O.look
  exact PySem.W.kia_one (PySem.W.kitx_own (cl.get _) cl.hd ha hn htk hm) I.gg J e (fun z=>nomatch z) h
end
structure aO (k:Nat) (A:Around):Prop where
 hd:A.handled=none
 dp:A.depth+3*k+5<recursionLimit
 un:A.units+16*k+200<cLine
 gd:A.guards=some []
theorem aO.mono {j k:Nat} {A:Around} (r:aO k A) (h:j≤k):aO j A:=⟨r.hd,by have:=r.dp;omega,by have:=r.un;omega,r.gd⟩
theorem aO.deeper {k:Nat} {A:Around} (r:aO (k+1) A) (env:Env):aO k (A.deeper env):=
 ⟨r.hd,by have:=r.dp;show A.depth+1+3*k+5<_;omega,by have:=r.un;show A.units+3+16*k+200<_;omega,r.gd⟩
theorem aO.depth {k:Nat} {A:Around} (r:aO k A):A.depth<recursionLimit:=by have:=r.dp;omega
theorem aO.units {k:Nat} {A:Around} (r:aO k A):A.units+64<cLine:=by have:=r.un;omega
def Qu:TA:=fun _ H Q=>Q [] H
def M9 (ta:TE) (tr:TA):TA:=fun σ H Q=>ta σ H fun x H1=>tr σ H1 fun xs H2=>Q (x::xs) H2
section
variable {X:Cx} {e:Expr} {es:List Expr} {te:TE} {t:TA} {pos:Pos}
theorem ah:PA X [] Qu:=fun _ _ _ _ H Q I h=>Calls.spliced_nil ⟨[],H,I,.nil,h⟩
theorem ae (ha:PE X e te) (hr:PA X es t) (hs:starEach (e::es) X.env=(false,eval e X.env)::starEach es X.env:=by rfl):PA X (e::es) (M9 te t):=by
 intro pos pins s σ H Q I h
 rw[hs]
 show wpAny _ _ (spliced ((false,eval e X.env)::backTo pos (starEach es X.env))) _ _ s
 refine Calls.spliced_cons (aE (ha pins s σ H _ I h) fun u s1 ⟨x,H1,I1,r1,q1⟩=>?_)
 exact aE (hr pos pins s1 σ H1 _ I1 q1) fun us s2 ⟨xs,H2,I2,r2,q2⟩=>⟨x::xs,H2,I2,.cons r1 r2,q2⟩
def Qv (t:TA):TE:=fun σ H Q=>t σ H fun xs H1=>xs.length≤sizeLine∧∀p,H1 p=none→Q (.ref p) (upd H1 p (.tup xs))
def Qw (t:TA):TE:=fun σ H Q=>t σ H fun xs H1=>xs.length≤sizeLine∧∀p,H1 p=none→Q (.ref p) (upd H1 p (.lst xs))
theorem bL {x1} (h:PA X es t):PE X (.Tuple es x1 pos) (Qv t):=by
 intro pins s σ H Q I hq
 refine wpAny_Tuple_spliced (aE (h pos pins s σ H _ I hq) fun us s1 ⟨xs,H1,I1,r,z,q⟩=>⟨by rw[←r.length];exact z,?_⟩)
 have hf:H1 s1.heap.objs.size=none:=I1.hok.fresh (Nat.le_refl _)
 refine⟨.ref s1.heap.objs.size,upd H1 s1.heap.objs.size (.tup xs),I1.laid (t':=s1.toks) (fun b u e=>Heap.get?_push_of_some _ e) (Nat.le_refl _) ?_,rfl,q _ hf⟩
 exact⟨⟨z,_,Heap.get?_push_size _ rfl,rfl⟩,us,r,⟨_,Heap.get?_push_size _ rfl,rfl,_,rfl⟩⟩
theorem dc (h:PA X es t):PE X (.List es pos) (Qw t):=by
 intro pins s σ H Q I hq
 refine wpAny_List_spliced (aE (h pos pins s σ H _ I hq) fun us s1 ⟨xs,H1,I1,r,z,q⟩=>⟨by rw[←r.length];exact z,?_⟩)
 have hf:H1 s1.heap.objs.size=none:=I1.hok.fresh (Nat.le_refl _)
 refine⟨.ref s1.heap.objs.size,upd H1 s1.heap.objs.size (.lst xs),I1.laid (t':=s1.toks) (fun b u e=>Heap.get?_push_of_some _ e) (Nat.le_refl _) ?_,rfl,q _ hf⟩
 exact⟨z,us,0,r,Heap.get?_push_size _ rfl⟩
end
abbrev Sp:=List V→Hp→VK→XK→Prop
abbrev qd:=List Env→Hp→Shared→XK→Value→Shared→Prop
structure rC (P:Program) (w:World) (K:PySem.W.Frag) (mg:Str→Option Value) (base:Heap) (A:Around) (outer:List Env) (s:Shared) (H:Hp):Prop where
 frames:A.frames=some outer
 mod:Mod K mg base
 bs:∀b o,base.get? b=some o→s.heap.get? b=some o∧H b=none
 oQ:base.objs.size≤s.heap.objs.size
 ic:s.heap.FunFrames base outer
 vQ:∀b∈frs outer,H b=none
 hok:cG P w H s.heap
 bare:AllBare s.gens
def CE (outer:List Env) (P:Program) (w:World) (H:Hp) (s:Shared) (Q:VK) (u:Value) (s':Shared):Prop:=
 ∃v H',s'.os=s.os∧AllBare s'.gens∧Un (frs outer) [] H H' s.heap s'.heap∧cG P w H' s'.heap∧RelV v u∧Q v H'
def CR (CX:qd) (outer:List Env) (P:Program) (w:World) (H:Hp) (s:Shared) (Q:VK) (E:XK) (r:Result) (s':Shared):Prop:=
 match r with
 | .ok (.ret u)=>CE outer P w H s Q u s'
 | .ok _=>False
 | .error e=>CX outer H s E e s'
structure aS (P:Program) (w:World) (K:PySem.W.Frag) (mg:Str→Option Value) (base:Heap) (CX:qd) (k:Nat) (f:Addr) (fd:FuncData) (ps:List Str) (sp:Sp):Prop where
 len:∀vs H Q E,sp vs H Q E→vs.length=ps.length
 run:∀(A:Around) (outer:List Env) (s:Shared) (H:Hp) (args:Args) (us:List Value) (vs:List V) (Q:VK) (E:XK),aO k A→rC P w K mg base A outer s H→BindsTo s fd args (ps.zip us)→Vals vs us→sp vs H Q E→
  codeAny (model P w) A (.call (.ref f) args) (CR CX outer P w H s Q E) s
section
variable {X:Cx} {pins:List (Addr×Obj)} {σ:St} {H:Hp} {s s':Shared}
theorem Inv.env0 (I:Inv X pins σ H s):rC X.prog X.w X.K X.mg X.base X.A X.stack s H:=
 ⟨I.ok.frames,I.ok.mod,I.bs,Nat.le_trans I.ok.oQ I.sz,I.stack,I.kO,I.hok,I.bare⟩
theorem Inv.after {Q:VK} {u:Value} (I:Inv X pins σ H s) (h:CE X.stack X.prog X.w H s Q u s'):EP X pins σ Q u s':=by
 obtain⟨v,H',os,bare,un,hok,r,q⟩:=h
 obtain⟨hh,g,d,t,os'⟩:=s'
 obtain rfl:os'=s.os:=os
 exact⟨v,H',I.call (h':=hh) (g':=g) (d':=d) (t':=t) (ch:=[]) un hok bare (fun b z=>absurd z (by simp)),r,q⟩
end
def M' (sp:Sp) (qe:List V) (E:XK) (t:TA):TE:=fun σ H Q=>t σ H fun vs H1=>sp (vs++qe) H1 Q E
def Binds (K:PySem.W.Frag) (fd:FuncData) (ps:List Str) (ds:List Value):Prop:=
 ∀(s:Shared) (us:List Value),K.In s.heap→(us++ds).length=ps.length→BindsTo s fd ⟨us,[]⟩ (ps.zip (us++ds))
theorem Binds.all {K:PySem.W.Frag} {fd:FuncData} {ps:List Str} (h:∀us:List Value,us.length=ps.length→bindArgs fd ⟨us,[]⟩=pure (ps.zip us)):Binds K fd ps []:=fun s us _ hl=>by
 rw[List.append_nil] at hl ⊢
 exact .of_eq (h us hl)
def Passes (CX:qd) (X:Cx) (E:XK):Prop:=∀(pins:List (Addr×Obj)) (σ:St) (H:Hp) (s:Shared) (e:Value) (s':Shared),Inv X pins σ H s→CX X.stack H s E e s'→X.xe e s'
section
variable {X:Cx} {CX:qd} {k:Nat} {f C:Addr} {fd:FuncData} {ps:List Str} {sp:Sp} {qe:List V} {ds:List Value} {E:XK} {x m:Str} {p pos apos:Pos} {e o:Expr} {es:List Expr} {ta:TE} {t:TA}
theorem Bs {pins:List (Addr×Obj)} {σ:St} {H:Hp} {s:Shared} {Q:VK} {us:List Value} {vs:List V} (F:aS X.prog X.w X.K X.mg X.base CX k f fd ps sp) (hr:aO k X.A) (hb:Binds X.K fd ps ds) (hd:Vals qe ds) (hx:Passes CX X E)
  (I:Inv X pins σ H s) (r:Vals vs us) (h:sp (vs++qe) H Q E):wpAny (model X.prog X.w) X.A (call (.ref f) us) (EP X pins σ Q) X.xe s:=by
 have r2:Vals (vs++qe) (us++ds):=r.append hd
 have hl:(us++ds).length=ps.length:=by rw[←r2.length];exact F.len _ _ _ _ h
 refine wpAny_call (codeAny_mono (F.run X.A X.stack s H ⟨us,[]⟩ (us++ds) (vs++qe) Q E hr I.env0 (hb s us I.gg hl) r2 h) fun r s' hq=>?_)
 cases r with
 | error e=>exact hx pins σ H s e s' I hq
 | ok fl=>
  cases fl with
  | ret u=>exact I.after hq
  | next=>exact False.elim hq
  | brk=>exact False.elim hq
  | cont=>exact False.elim hq
theorem az (F:aS X.prog X.w X.K X.mg X.base CX k f fd ps sp) (hr:aO k X.A) (hg:Gl X x) (hm:X.mg x=some (.ref f)) (hk:PySem.W.keepIn X.K (.ref f)=true) (hb:Binds X.K fd ps ds) (hd:Vals qe ds) (hx:Passes CX X E)
  (ha:PA X (e::es) t) (hdb:(x == ("__debug__":Str))=false:=by decide) (he:starEach (e::es) X.env=(false,eval e X.env)::starEach es X.env:=by rfl) (hpl:(backTo pos (starEach es X.env)).any (·.1)=false:=by rfl):
  PE X (.Call (.Name x p) (e::es) [] pos) (M' sp qe E t):=by
 intro pins s σ H Q I h
 refine wpAny_Call_Name_kw (rA I hg hm ?_ hdb)
 refine PySem.W.callWith_K (h₀:=X.base) I.ok.mod.oP hk (aE (ha pos pins s σ H _ I h) fun us s1 ⟨vs,H1,I1,r,q⟩=>⟨I1.gg,?_⟩) he hpl
 exact Bs F hr hb hd hx I1 r q
end
structure aN (N P:List Str) (sc:Scope):Prop where
 kind:sc.kind=.function
 co:sc.isCoroutine=false
 gen:sc.isGenerator=false
 nd:N.Nodup
 pre:N.take P.length=P
 par:∀x∈P,sc.names.lookup x=some .local∨sc.names.lookup x=some .cell
 IX:∀y∈sc.names,y.2≠.free
theorem tL {kindOf:Str→Option NameKind} {x:Str}:∀{binds:List (Str×Value)} {m:Str→Option Value},(∀v,(x,v) ∉ binds)→bindL kindOf binds m x=m x
 | [],_,_=>rfl
 | (n,v)::r,m,h=>by
  unfold bindL
  rw[tL fun w hw=>h w (List.mem_cons_of_mem _ hw)]
  split
  ·have:x≠n:=by rintro rfl;exact h v List.mem_cons_self
   simp[this]
  ·rfl
theorem tM {kindOf:Str→Option NameKind} {x:Str}:∀{binds:List (Str×Value)} {m:Str→Option Value},(∀v,(x,v) ∉ binds)→bindC kindOf binds m x=m x
 | [],_,_=>rfl
 | (n,v)::r,m,h=>by
  unfold bindC
  rw[tM fun w hw=>h w (List.mem_cons_of_mem _ hw)]
  split
  ·rfl
  ·have:x≠n:=by rintro rfl;exact h v List.mem_cons_self
   simp[this]
theorem tN {kindOf:Str→Option NameKind} {x:Str} {v:Value}:∀{P:List Str} {vs:List Value} {i:Nat} {m:Str→Option Value},P.Nodup→P[i]? =some x→vs[i]? =some v→kindOf x=some .local→
  bindL kindOf (P.zip vs) m x=some v
 | [],_,_,_,_,h,_,_=>by simp at h
 | _::_,[],_,_,_,_,h,_=>by simp at h
 | p::P,w::vs,0,m,nd,h1,h2,hk=>by
  simp at h1 h2;subst h1;subst h2
  show bindL kindOf ((p,w)::P.zip vs) m p=_
  unfold bindL
  rw[tL fun v hv=>(List.nodup_cons.mp nd).1 (List.of_mem_zip hv).1,if_pos hk]
  simp
 | p::P,w::vs,i+1,m,nd,h1,h2,hk=>by
  show bindL kindOf ((p,w)::P.zip vs) m x=_
  unfold bindL
  exact tN (i:=i) (List.nodup_cons.mp nd).2 (by simpa using h1) (by simpa using h2) hk
theorem tO {kindOf:Str→Option NameKind} {x:Str} {v:Value}:∀{P:List Str} {vs:List Value} {i:Nat} {m:Str→Option Value},P.Nodup→P[i]? =some x→vs[i]? =some v→kindOf x≠some .local→
  bindC kindOf (P.zip vs) m x=some v
 | [],_,_,_,_,h,_,_=>by simp at h
 | _::_,[],_,_,_,_,h,_=>by simp at h
 | p::P,w::vs,0,m,nd,h1,h2,hk=>by
  simp at h1 h2;subst h1;subst h2
  show bindC kindOf ((p,w)::P.zip vs) m p=_
  unfold bindC
  rw[tM fun v hv=>(List.nodup_cons.mp nd).1 (List.of_mem_zip hv).1,if_neg hk]
  simp
 | p::P,w::vs,i+1,m,nd,h1,h2,hk=>by
  show bindC kindOf ((p,w)::P.zip vs) m x=_
  unfold bindC
  exact tO (i:=i) (List.nodup_cons.mp nd).2 (by simpa using h1) (by simpa using h2) hk
def start (N:List Str) (vs:List V):St:=vs.map some++List.replicate (N.length-vs.length) none
def jd (CX:qd) (P:Program) (w:World) (K:PySem.W.Frag) (mg:Str→Option Value) (base:Heap) (N:List Str) (qual:Str) (scope:Scope) (f:Addr) (cd:Value) (A:Around) (outer:List Env) (s:Shared) (H:Hp) (E:XK):Cx where
 prog:=P
 w:=w
 K:=K
 mg:=mg
 base:=base
 A:=A.deeper (envOfC qual scope s.heap.objs.size f cd)
 N:=N
 s₀:=s
 H₀:=H
 env:=envOfC qual scope s.heap.objs.size f cd
 outer:=outer
 stack:=envOfC qual scope s.heap.objs.size f cd::outer
 ex:=[]
 calm:=true
 fn:=fun _=>true
 pn:=[]
 xe:=fun e s'=>wpAny (model P w) (A.deeper (envOfC qual scope s.heap.objs.size f cd)) (leaving (envOfC qual scope s.heap.objs.size f cd) e) (fun _ s''=>CX outer H s E e s'') (fun e' s''=>CX outer H s E e' s'') s'
theorem ij {sc:Scope} {n:Nat} {x:Str} (h:sc.names.lookup x=some .cell):∃c,(cellsFrom n sc.names []).lookup x=some c:=by
 have q:=PySem.W.cellsFrom_some sc.names n [] (.inl h)
 exact Option.isSome_iff_exists.mp q
theorem tP {CX:qd} {P:Program} {w:World} {K:PySem.W.Frag} {mg:Str→Option Value} {base:Heap} {N ps:List Str} {qual:Str} {scope:Scope} {f:Addr} {cd:Value} {A:Around} {outer:List Env} {s s1:Shared} {H:Hp} {E:XK} {us:List Value} {vs:List V}
  (S:aN N ps scope) (hd:A.handled=none) (e0:rC P w K mg base A outer s H) (hl:vs.length=ps.length) (r:Vals vs us)
  (x:InCallC s s.heap.objs.size (bindL (envOfC qual scope s.heap.objs.size f cd).kindOf (ps.zip us) fun _=>none) (cellsFrom (s.heap.objs.size+1) scope.names []) (bindC (envOfC qual scope s.heap.objs.size f cd).kindOf (ps.zip us) fun _=>none) s1):
  Inv (jd CX P w K mg base N qual scope f cd A outer s H E) [] (start N vs) H s1:=by
 have hpl:ps.length≤N.length:=by have:=congrArg List.length S.pre;rw[List.length_take] at this;omega
 obtain⟨h1,tk,rfl,hk⟩:=x.done
 have oS:∀b:Addr,b ∉ (jd CX P w K mg base N qual scope f cd A outer s H E).ex:=fun b z=>absurd (show b∈([]:List Addr) from z) (by simp)
 refine⟨⟨e0.mod,S.kind,rfl,rfl,Nat.le_refl _,fun y z c h1 h2=>?_,fun y hy=>?_,fun y c _ h=>?_,fun _=>hd,Around.frames_deeper e0.frames,.inr ⟨rfl,rfl⟩,fun b z=>absurd z (oS b),e0.bs,e0.oQ,fun b _ _=>oS b,fun b z=>absurd z (oS b),e0.ic,e0.vQ⟩,
  rfl,e0.bare,Un.kept hk,⟨_,x.toInCall.ns,fun i y v h1 h2 h3=>?_⟩,fun y c h=>⟨_,x.cell y c h⟩,e0.hok.fresh (Nat.le_refl _),fun y c h=>?_,fun p hp=>absurd (show p∈([]:List (Addr×Obj)) from hp) (by simp),e0.hok.kept hk,?_⟩
 ·exact name_of_addr x.apart (PySem.mem_of_lookup h1) (PySem.mem_of_lookup h2)
 ·have hy:scope.names.lookup y=some .cell∨scope.names.lookup y=some .free:=hy
  rcases hy with hy | hy
  ·exact ij hy
  ·exact absurd rfl (S.IX _ (PySem.mem_of_lookup hy))
 ·exact Nat.le_of_lt (x.above y c (PySem.mem_of_lookup h))
 ·have hi:i<vs.length:=by
   unfold start at h2
   by_cases hi:i<vs.length
   ·exact hi
   ·rw[List.getElem?_append_right (by simpa using hi)] at h2
    rw[List.getElem?_replicate] at h2
    split at h2<;>cases h2
  have ha:vs[i]? =some v:=by
   unfold start at h2
   rw[List.getElem?_append_left (by simpa using hi),List.getElem?_map] at h2
   cases e:vs[i]? with
   | none=>rw[e] at h2;cases h2
   | some a=>rw[e] at h2;cases h2;rfl
  obtain⟨u,hu,rv⟩:=r.get ha
  have hp:ps[i]? =some y:=by
   rw[←S.pre,List.getElem?_take_of_lt (by omega)];exact h1
  have FY:ps.Nodup:=by rw[←S.pre];exact S.nd.sublist (List.take_sublist _ _)
  refine⟨u,rv,?_⟩
  rcases S.par y (List.mem_of_getElem? hp) with k | k
  ·exact .inl ⟨k,tN FY hp hu k⟩
  ·obtain⟨c,e⟩:=ij (n:=s.heap.objs.size+1) k
   refine .inr ⟨.inl k,c,e,?_⟩
   have q:=x.cell y c e
   rw[tO FY hp hu (by show scope.names.lookup y≠_;rw[k];decide)] at q
   exact q
 ·exact e0.hok.fresh (Nat.le_of_lt (x.above y c (PySem.mem_of_lookup h)))
 ·unfold start
  show _=N.length
  rw[List.length_append,List.length_map,List.length_replicate]
  omega
theorem FZ {CX:qd} {P:Program} {w:World} {K:PySem.W.Frag} {mg:Str→Option Value} {base:Heap} {k:Nat} {f:Addr} {name qual:Str} {params:Arguments} {body:List Stmt} {scope:Scope} {dV kV doc pm cdv ct oc:Value} {an od:Option Addr}
  {osl:Array (Option Value)} {N ps:List Str} {sp:Sp} (lk:K.lookup f=some ⟨oc,od,.func (PySem.W.fnOf name qual params body scope dV kV doc pm an cdv ct),osl⟩) (hcd:PySem.W.codeIn K cdv qual=true) (S:aN N ps scope)
  (len:∀vs H Q E,sp vs H Q E→vs.length=ps.length)
  (hbody:∀(A:Around) (outer:List Env) (s:Shared) (H:Hp) (vs:List V) (Q:VK) (E:XK),aO k (A.deeper (envOfC qual scope s.heap.objs.size f cdv))→sp vs H Q E→
   ∃t,j1 (jd CX P w K mg base N qual scope f cdv A outer s H E) body t∧t {nx:=fun _ H'=>Q .non H',rt:=Q} (start N vs) H):
  aS P w K mg base CX (k+1) f (PySem.W.fnOf name qual params body scope dV kV doc pm an cdv ct) ps sp:=by
 refine⟨len,fun A outer s H args us vs Q E hr e0 hb r hsp=>?_⟩
 have hl:=len _ _ _ _ hsp
 have KX:K.In s.heap:=e0.mod.oP.keeps fun b o e=>(e0.bs b o e).1
 have lim:s.heap.NoLimit:=e0.mod.nolimit.keeps fun b o e=>(e0.bs b o e).1
 have hkind:∀y∈ps.zip us,scope.names.lookup y.1=some .local∨(scope.names.lookup y.1=some .cell∧((cellsFrom (s.heap.objs.size+1) scope.names []).lookup y.1).isSome=true):=fun⟨n,v⟩ hy=>by
  rcases S.par n (List.of_mem_zip hy).1 with q | q
  ·exact .inl q
  ·exact .inr ⟨q,PySem.W.cellsFrom_some _ _ _ (.inl q)⟩
 refine codeAny_call_function hr.depth (KX _ _ lk) rfl S.co S.gen rfl (PySem.W.codeRec_of KX hcd) (hb _ _ _ _ ?_)
 refine wpAny_newFunctionEnv_cells S.kind hkind fun env he s1 x=>?_
 subst he
 refine⟨lim.keeps x.toInCall.keep,codeAny_func ?_⟩
 obtain⟨t,ht,hq⟩:=hbody A outer s H vs Q E (hr.deeper _) hsp
 have I:Inv (jd CX P w K mg base N qual scope f cdv A outer s H E) [] (start N vs) H s1:=tP S hr.hd e0 hl r x
 refine wpAny_mono (ht [] s1 (start N vs) H _ I hq) (fun fl s' hs=>?_) fun e s' hs=>hs
 have fin:∀{σ':St} {H':Hp} {v:V} {u:Value},Inv (jd CX P w K mg base N qual scope f cdv A outer s H E) [] σ' H' s'→RelV v u→Q v H'→CE outer P w H s Q u s':=
  fun {σ' H' v u} J rv q=>⟨v,H',J.os,J.bare,J.base,J.hok,rv,q⟩
 cases fl with
 | ret u=>
  obtain⟨v,σ',H',J,rv,q⟩:=hs
  exact fin J rv q
 | next=>
  obtain⟨σ',H',J,q⟩:=hs
  exact fin (v:=V.non) (u:=Value.none) J rfl q
 | brk=>
  obtain⟨_,_,_,q⟩:=hs
  exact False.elim q
 | cont=>
  obtain⟨_,_,_,q⟩:=hs
  exact False.elim q
section
variable {X:Cx} {x:Str} {p pos:Pos} {e:Expr} {es:List Expr} {t:TA} {id T:String} {r:List V→Hp→VK→Prop}
def N7 (r:List V→Hp→VK→Prop) (t:TA):TE:=fun σ H Q=>t σ H fun vs H1=>r vs H1 Q
theorem aU (hc:cv X (.builtin id) r) (hg:Gl X x) (hm:X.mg x=none) (hv:bootBuiltins x=some (.builtin id)) (ha:PA X (e::es) t) (hn:x≠"__name__":=by decide) (hdb:(x == ("__debug__":Str))=false:=by decide)
  (he:starEach (e::es) X.env=(false,eval e X.env)::starEach es X.env:=by rfl) (hpl:(backTo pos (starEach es X.env)).any (·.1)=false:=by rfl):PE X (.Call (.Name x p) (e::es) [] pos) (N7 r t):=by
 intro pins s σ H Q I h
 refine wpAny_Call_Name_kw (gi I hg hm hv ?_ hn hdb)
 exact PyProof.Rows.callWith_builtin1 (aE (ha pos pins s σ H _ I h) fun us s1 ⟨vs,H1,I1,r1,q1⟩=>hc pins s1 σ H1 vs us Q I1 r1 q1) he hpl
theorem bF (hc:cv X (.type T) r) (hg:Gl X x) (hm:X.mg x=none) (hv:bootBuiltins x=some (.type T)) (ha:PA X (e::es) t) (hn:x≠"__name__":=by decide) (hdb:(x == ("__debug__":Str))=false:=by decide)
  (he:starEach (e::es) X.env=(false,eval e X.env)::starEach es X.env:=by rfl) (hpl:(backTo pos (starEach es X.env)).any (·.1)=false:=by rfl):PE X (.Call (.Name x p) (e::es) [] pos) (N7 r t):=by
 intro pins s σ H Q I h
 refine wpAny_Call_Name_kw (gi I hg hm hv ?_ hn hdb)
 exact PyProof.Rows.callWith_type1 (aE (ha pos pins s σ H _ I h) fun us s1 ⟨vs,H1,I1,r1,q1⟩=>hc pins s1 σ H1 vs us Q I1 r1 q1) he hpl
end
end L2
namespace HT
open PySem PyProof.Rows
section
variable {prog:Program} {w:World} {A:Around} {E:Value→Shared→Prop} {s:Shared}
theorem Hr {t b:Addr} {vs ws:List Value} {Q:Value→Shared→Prop} (ht:IsTup s.heap t vs.toArray) (hb:IsTup s.heap b ws.toArray) (hv:vs≠[])
  (h1:ws=[]→Q (.ref t) s) (h2:ws≠[]→Q (.ref s.heap.objs.size) {s with heap:=s.heap.push {cls:=.type "tuple",data:=.seq (vs++ws).toArray}})
  (hsz:vs.length+ws.length≤sizeLine):wpAny (model prog w) A (binaryOp .Add (.ref t) (.ref b)) Q E s:=by
 obtain⟨⟨cls,dd,data,sl⟩,ho,hc,n,hd⟩:=id ht
 obtain⟨⟨cls2,dd2,data2,sl2⟩,ho2,hc2,n2,hd2⟩:=id hb
 simp only at hc hd hc2 hd2
 subst hc hd hc2 hd2
 have e:vs.toArray++ws.toArray=(vs++ws).toArray:=by simp
 by_cases hw:ws=[]
 ·exact concat_meets ⟨_,ho,rfl⟩ ⟨_,ho2,rfl⟩ noFill_tuple_add seq_tuple_add PySem.F.slot_tuple_add PySem.F.entry_tuple_add (PySem.F.args_tuple_add_2 _ _)
   (tuple_addW1 t b vs.toArray ws.toArray n n2 dd dd2 sl sl2 (by simpa using hv) (by simp[hw])) ⟨ho,ho2,h1 hw⟩
 ·refine concat_meets ⟨_,ho,rfl⟩ ⟨_,ho2,rfl⟩ noFill_tuple_add seq_tuple_add PySem.F.slot_tuple_add PySem.F.entry_tuple_add (PySem.F.args_tuple_add_2 _ _)
   (tuple_addW2 t b vs.toArray ws.toArray n n2 dd dd2 sl sl2 (by simpa using hv) (by simpa using hw) (by rw[List.size_toArray,List.size_toArray];exact hsz)) ⟨ho,ho2,?_⟩
  rw[e]
  exact h2 hw
def iW (n d:Nat):Option Int→Nat
 | none=>d
 | some v=>if v<0 then(v+(n:Int)).toNat else min v.toNat n
theorem Hs (n d k:Nat):iW n d (some (k:Int))=min k n:=by
 show(if(k:Int)<0 then((k:Int)+(n:Int)).toNat else min (k:Int).toNat n)=min k n
 rw[if_neg (by omega),Int.toNat_natCast]
end
end HT
namespace L2
open PySem PySem.Spec PyProof.Rows
abbrev TO:=St→Hp→(Option Int→Hp→Prop)→Prop
def PO (X:Cx) (e:Option Expr) (t:TO):Prop:=
 ∀(pins:List (Addr×Obj)) (s:Shared) (σ:St) (H:Hp) (Q:Option Int→Hp→Prop),Inv X pins σ H s→t σ H Q→
  wpAny (model X.prog X.w) X.A (evalPart e X.env) (fun u s'=>∃o H',Inv X pins σ H' s'∧IsPart u o∧Q o H') X.xe s
def Ht:TO:=fun _ H Q=>Q none H
def Na (t:TE):TO:=fun σ H Q=>t σ H fun x H1=>∃i,x=.int i∧Q (some i) H1
theorem intsAre_of {ns:List Int}:∀{us:List Value},Vals (ns.map V.int) us→IntsAre us ns:=by
 induction ns with
 | nil=>intro us r;rw[List.map_nil] at r;cases r;exact .nil
 | cons n ns ih=>
  intro us r
  rw[List.map_cons] at r
  cases r with
  | cons r1 r2=>
   obtain⟨t,e⟩:=r1
   subst e
   exact .cons n t (ih r2)
section
variable {X:Cx} {e:Expr} {te:TE} {lo hi:Option Expr} {tl th:TO} {pos p2:Pos}
theorem ik:PO X none Ht:=by
 intro pins s σ H Q I h
 rw[evalPart_none]
 exact wpAny_pure ⟨none,H,I,.none,h⟩
theorem kQ (h:PE X e te):PO X (some e) (Na te):=by
 intro pins s σ H Q I hw
 rw[evalPart_some]
 refine aE (h pins s σ H _ I hw) fun u s1 ⟨x,H1,I1,r1,q1⟩=>?_
 obtain⟨i,rfl,q⟩:=q1
 obtain⟨t,rfl⟩:=r1
 exact⟨some i,H1,I1,.int i t,q⟩
def F_ (X:Cx) (r:V→Option Int→Option Int→Hp→VK→Prop):Prop:=
 ∀(pins:List (Addr×Obj)) (s:Shared) (σ:St) (H:Hp) (x:V) (v vl vu:Value) (lo hi:Option Int) (sl:Addr) (Q:VK),Inv X pins σ H s→RelV x v→s.heap.IsSliceOf sl vl vu .none→IsPart vl lo→IsPart vu hi→r x lo hi H Q→
  ∃T id,typeLookup (.type T) "__getitem__"=pure (some (.builtin id))∧s.TypeIs v T∧wpAny (model X.prog X.w) X.A (getItem v (.ref sl)) (EP X pins σ Q) X.xe s
def UT (r:V→Option Int→Option Int→Hp→VK→Prop) (te:TE) (tl th:TO):TE:=fun σ H Q=>te σ H fun x H1=>tl σ H1 fun l H2=>th σ H2 fun u H3=>r x l u H3 Q
theorem pe {r:V→Option Int→Option Int→Hp→VK→Prop} (hr:F_ X r) (he:PE X e te) (hl:PO X lo tl) (hu:PO X hi th):PE X (.Subscript e (.Slice lo hi none p2) pos) (UT r te tl th):=by
 intro pins s σ H Q I h
 refine Subscript_ (aE (he pins s σ H _ I h) fun v s1 ⟨x,H1,I1,r1,q1⟩=>?_)
 refine wpAny_Slice (aE (hl pins s1 σ H1 _ I1 q1) fun vl s2 ⟨l,H2,I2,pl,q2⟩=>aE (hu pins s2 σ H2 _ I2 q2) fun vu s3 ⟨u,H3,I3,pu,q3⟩=>?_)
 rw[evalPart_none]
 refine wpAny_pure ?_
 have I4:Inv X pins σ H3 {s3 with heap:=s3.heap.push {cls:=.type "slice",data:=.fields #[vl,vu,.none]}}:=I3.kept (t':=s3.toks) fun b ob q=>Heap.get?_push_of_some _ q
 obtain⟨T,id,hT,ht,hg⟩:=hr pins {s3 with heap:=s3.heap.push {cls:=.type "slice",data:=.fields #[vl,vu,.none]}} σ H3 x v vl vu l u s3.heap.objs.size Q I4 r1 (Heap.IsSliceOf.new ..) pl pu q3
 show wpAny (model X.prog X.w) X.A (subscriptTail e (.Slice lo hi none p2) v (.ref s3.heap.objs.size)) (EP X pins σ Q) X.xe {s3 with heap:=s3.heap.push {cls:=.type "slice",data:=.fields #[vl,vu,.none]}}
 exact tail_any (ops:=[.ref s3.heap.objs.size,v]) ht hT hg (by with_unfolding_all rfl)
def ph (xs:List V) (lo hi:Option Int):List V:=(xs.drop (HT.iW xs.length 0 lo)).take (HT.iW xs.length xs.length hi-HT.iW xs.length 0 lo)
theorem yx (xs:List V) (lo hi:Option Int):(ph xs lo hi).length≤xs.length:=by
 unfold ph
 rw[List.length_take,List.length_drop]
 omega
def Nb (K:PySem.W.Frag):R2:=fun x y H Q=>∃a b xs ys,x=.ref a∧y=.ref b∧aW K H a xs∧aW K H b ys∧xs≠[]∧xs.length+ys.length≤sizeLine∧
 (ys=[]→Q (.ref a) H)∧(ys≠[]→∀p,H p=none→Q (.ref p) (upd H p (.tup (xs++ys))))
theorem Vals.rD {xs:List V} {us:List Value} (r:Vals xs us):us=[]↔xs=[]:=by
 cases r with
 | nil=>simp
 | cons _ _=>simp
theorem yR:cC X (binaryOp .Add) (Nb X.K):=by
 intro pins s σ H x y v u Q I rx ry h
 obtain⟨a,b,xs,ys,rfl,rfl,ha,hb,hx,hz,q1,q2⟩:=h
 cases rx
 cases ry
 obtain⟨its,r1,p1,_⟩:=I.tuple ha
 obtain⟨its2,r2,p2,_⟩:=I.tuple hb
 refine HT.Hr p1 p2 (fun z=>hx (r1.rD.mp z)) (fun z=>⟨.ref a,H,I,rfl,q1 (r2.rD.mp z)⟩) (fun z=>?_) (by rw[←r1.length,←r2.length];exact hz)
 refine⟨.ref s.heap.objs.size,_,I.laid (t':=s.toks) (o:=.tup (xs++ys)) (fun b ob q=>Heap.get?_push_of_some _ q) (Nat.le_refl _) ?_,rfl,q2 (fun w=>z (r2.rD.mpr w)) _ (I.hok.fresh (Nat.le_refl _))⟩
 exact⟨⟨by rw[List.length_append];exact hz,_,Heap.get?_push_size _ rfl,rfl⟩,_,r1.append r2,IsTup.new _ _⟩
end
def yS (n:Nat) (i:Int):Option Nat:=if 0≤i then(if i<n then some i.toNat else none) else if-(n:Int)≤i then some (i+n).toNat else none
def oT {α:Type} (xs:List α) (i:Int):Option α:=(yS xs.length i).bind fun j=>xs[j]?
theorem Hu {n:Nat} {i:Int} {j:Nat} (h:yS n i=some j):seqIndex? i n=some j∧j<n∧ -(n:Int)≤i∧i<n:=by
 unfold yS at h
 by_cases h0:0≤i
 ·rw[if_pos h0] at h
  by_cases h1:i<n
  ·rw[if_pos h1] at h
   have e:i.toNat=j:=Option.some.inj h
   exact⟨by rw[seqIndex_of h0 h1,e],by omega,by omega,h1⟩
  ·rw[if_neg h1] at h;cases h
 ·rw[if_neg h0] at h
  by_cases h1: -(n:Int)≤i
  ·rw[if_pos h1] at h
   have e:(i+n).toNat=j:=Option.some.inj h
   exact⟨by rw[seqIndex_neg (by omega) h1,e],by omega,h1,by omega⟩
  ·rw[if_neg h1] at h;cases h
theorem rE {α:Type} {xs:List α} {i:Int} {v:α} (h:oT xs i=some v):∃j,seqIndex? i xs.length=some j∧xs[j]? =some v∧j<xs.length∧ -(xs.length:Int)≤i∧i<xs.length:=by
 unfold oT at h
 cases e:yS xs.length i with
 | none=>rw[e] at h;cases h
 | some j=>
  rw[e] at h
  obtain⟨h1,h2,h3,h4⟩:=Hu e
  exact⟨j,h1,h,h2,h3,h4⟩
theorem ax {α:Type} {xs:List α} {j:Nat} {v:α} (h:xs[j]? =some v):oT xs (j:Int)=some v:=by
 have hj:j<xs.length:=(List.getElem?_eq_some_iff.mp h).1
 have e:yS xs.length (j:Int)=some j:=by
  unfold yS
  rw[if_pos (by omega),if_pos (by omega)];simp
 unfold oT;rw[e];exact h
def Hv (b:Expr):Prop:=∀o i,subscripted b false o i=operate [o,i] (getItem o i)
def yT (X:Cx) (r:R2):Prop:=
 ∀(value slice:Expr) (pins:List (Addr×Obj)) (s:Shared) (σ:St) (H:Hp) (x y:V) (v u:Value) (Q:VK),Inv X pins σ H s→RelV x v→RelV y u→r x y H Q→
  subscripted slice false v u=operate [v,u] (getItem v u)→wpAny (model X.prog X.w) X.A (subscriptTail value slice v u) (EP X pins σ Q) X.xe s
def N8 (X:Cx) (id:String) (r:V→List V→Hp→VK→Prop):Prop:=
 ∀(pins:List (Addr×Obj)) (s:Shared) (σ:St) (H:Hp) (x:V) (xs:List V) (v:Value) (us:List Value) (Q:VK),Inv X pins σ H s→RelV x v→Vals xs us→r x xs H Q→
  wpAny (model X.prog X.w) X.A (call (.builtin id) (v::us)) (EP X pins σ Q) X.xe s
section
variable {X:Cx} {a b:Expr} {ta tb:TE} {pos:Pos}
theorem aH {r:R2} (hr:yT X r) (ha:PE X a ta) (hb:PE X b tb) (hs:Hv b):PE X (.Subscript a b pos) (FT r ta tb):=by
 intro pins s σ H Q I h
 exact Subscript_ (Ee ha hb I h fun v u s2 x y H2 I2 rx ry q=>hr a b pins s2 σ H2 x y v u Q I2 rx ry q (hs _ _))
def IY (K:PySem.W.Frag):R2:=fun x y H Q=>∃p xs i v,x=.ref p∧y=.int i∧a_ K H p xs∧oT xs i=some v∧Q v H
def IZ (K:PySem.W.Frag):R2:=fun x y H Q=>∃p xs i v,x=.ref p∧y=.int i∧aW K H p xs∧oT xs i=some v∧Q v H
def Qx:R2:=fun x y H Q=>∃z i c,x=.str z∧y=.int i∧z.length≤sizeLine∧oT z.cps.toList i=some c∧Q (.str ⟨#[c]⟩) H
theorem Hw:yT X (IY X.K):=by
 intro value slice pins s σ H x y v u Q I rx ry h hs
 obtain⟨p,xs,i,z,rfl,rfl,hq,he,q⟩:=h
 cases rx
 obtain⟨t,rfl⟩:=ry
 obtain⟨its,r,pl,hz⟩:=I.list hq
 obtain⟨j,h1,h2,h3,h4,h5⟩:=rE he
 obtain⟨w,ew,jH⟩:=r.get h2
 have hl:=r.length
 have hn:=nH
 have fin:EP X pins σ Q w s:=⟨z,H,I,jH,q⟩
 by_cases h0:0≤i
 ·have hj:i.toNat=j:=by
   rw[seqIndex_of h0 h5] at h1
   exact Option.some.inj h1
  exact item_listR pl.isList h0 (by omega) (by rw[hj];simpa using ew) fin hs
 ·have hj:(i+(its.toArray.size:Int)).toNat=j:=by
   rw[seqIndex_neg (by omega) h4] at h1
   rw[List.size_toArray,←hl]
   exact Option.some.inj h1
  exact subscriptTail_builtinR (x:=w) pl.isList.typeIs slot_list_getitem.lookup
   (wpAny_getItem_list_neg (Q:=fun r s'=>r=w∧EP X pins σ Q r s') pl.isList (by omega) (by rw[List.size_toArray]<;>omega) (by omega) (by rw[hj];simpa using ew) ⟨rfl,fin⟩) hs
theorem I_:yT X (IZ X.K):=by
 intro value slice pins s σ H x y v u Q I rx ry h hs
 obtain⟨p,xs,i,z,rfl,rfl,hq,he,q⟩:=h
 cases rx
 obtain⟨t,rfl⟩:=ry
 obtain⟨its,r,pl,hz⟩:=I.tuple hq
 obtain⟨j,h1,h2,h3,h4,h5⟩:=rE he
 obtain⟨w,ew,jH⟩:=r.get h2
 have hl:=r.length
 have hn:=nH
 have fin:EP X pins σ Q w s:=⟨z,H,I,jH,q⟩
 exact subscriptTail_builtinR (x:=w) pl.typeIs slot_tuple_getitem.lookup
  (getItem_tuple (j:=j) (Q:=fun r s'=>r=w∧EP X pins σ Q r s') pl (by omega) (by omega) (by rw[List.size_toArray,←hl];exact h1) (by simpa using ew) ⟨rfl,fin⟩) hs
theorem Bt:yT X Qx:=by
 intro value slice pins s σ H x y v u Q I rx ry h hs
 obtain⟨z,i,c,rfl,rfl,hz,he,q⟩:=h
 obtain⟨t,rfl⟩:=rx
 obtain⟨t',rfl⟩:=ry
 obtain⟨j,h1,h2,h3,h4,h5⟩:=rE he
 have hl:z.cps.toList.length=z.length:=by simp[Str.length]
 rw[hl] at h1 h4 h5
 have hn:=nH
 exact tail_any (typeIs_str s z t) slot_str_getitem.lookup (getItem_str (c:=c) (by
  have e1:decide (i< -(2 ^ 63:Int))=false:=decide_eq_false (by omega)
  have e2:decide (i ≥ 2 ^ 63)=false:=decide_eq_false (by omega)
  rw[e1,e2,Bool.or_false]) (by rw[h1];simpa using h2) ⟨.str ⟨#[c]⟩,H,I.tok _,⟨_,rfl⟩,q⟩) hs
theorem vX (lo hi:Option Int) (n:Nat):(sliceBounds lo hi none n).1=((HT.iW n 0 lo:Nat):Int)∧(sliceBounds lo hi none n).2.1=((HT.iW n n hi:Nat):Int)∧(sliceBounds lo hi none n).2.2=1:=by
 refine⟨?_,?_,rfl⟩
 ·cases lo with
  | none=>simp[sliceBounds,HT.iW]
  | some i=>
   simp only[sliceBounds,HT.iW,Option.getD_none,show(1:Int)>0 by decide,if_true]
   by_cases h:i<0
   ·simp only[h,if_true]<;>omega
   ·simp only[h,if_false]<;>omega
 ·cases hi with
  | none=>simp[sliceBounds,HT.iW]
  | some i=>
   simp only[sliceBounds,HT.iW,Option.getD_none,show(1:Int)>0 by decide,if_true]
   by_cases h:i<0
   ·simp only[h,if_true]<;>omega
   ·simp only[h,if_false]<;>omega
theorem uM (its:List Value) (lo hi:Option Int):slicePick its.toArray lo hi none=((its.drop (HT.iW its.length 0 lo)).take (HT.iW its.length its.length hi-HT.iW its.length 0 lo)).toArray:=by
 obtain⟨h1,h2,h3⟩:=vX lo hi its.toArray.size
 unfold slicePick
 rw[h1,h2,h3]
 simp only[sliceRange_one,pick_run,List.size_toArray]<;>rfl
def Ja (K:PySem.W.Frag):V→Option Int→Option Int→Hp→VK→Prop:=fun x lo hi H Q=>∃a xs,x=.ref a∧a_ K H a xs∧∀p,H p=none→Q (.ref p) (upd H p (.lst (ph xs lo hi)))
theorem Hx:F_ X (Ja X.K):=by
 intro pins s σ H x v vl vu lo hi sl Q I rx hs pl pu h
 obtain⟨a,xs,rfl,hx,q⟩:=h
 cases rx
 obtain⟨its,r,ht,hz⟩:=I.list hx
 have hlen:=r.length
 refine⟨"list",_,slot_list_getitem.lookup,ht.isList.typeIs,?_⟩
 refine wpAny_getItem_list_slice ht.isList hs pl pu .none (by simp) ?_ (by rw[List.size_toArray]<;>omega)
 rw[uM,←hlen]
 refine⟨.ref s.heap.objs.size,_,I.laid (t':=s.toks) (o:=.lst (ph xs lo hi)) (fun b ob q=>Heap.get?_push_of_some _ q) (Nat.le_refl _) ?_,rfl,q _ (I.hok.fresh (Nat.le_refl _))⟩
 exact⟨Nat.le_trans (yx xs lo hi) hz,_,0,(r.drop (HT.iW xs.length 0 lo)).take (HT.iW xs.length xs.length hi-HT.iW xs.length 0 lo),Heap.get?_push_size _ rfl⟩
def g8:V→Bool
 | .non=>true
 | .bl _=>true
 | .int _=>true
 | .str _=>true
 | _=>false
def kT:V→V→Bool
 | .non,.non=>true
 | .bl a,.bl b=>a == b
 | .bl a,.int b=>(if a then 1 else 0) == b
 | .int a,.bl b=>a == (if b then 1 else 0)
 | .int a,.int b=>a == b
 | .str a,.str b=>a == b
 | _,_=>false
theorem Bu {A:Around} {s:Shared} {y x:V} {u v:Value} (ry:RelV y u) (rx:RelV x v) (fy:g8 y=true) (fx:g8 x=true):SeqAt.EqAt A s u v (kT y x):=by
 cases y with
 | non=>
  cases ry
  cases x with
  | non=>cases rx;exact SeqAt.EqAt.same _
  | bl b=>cases rx;exact SeqAt.EqAt.none_bool b
  | int b=>obtain⟨t,rfl⟩:=rx;exact SeqAt.EqAt.none_int b t
  | str b=>obtain⟨t,rfl⟩:=rx;exact SeqAt.EqAt.none_str b t
  | _=>exact absurd (show false=true from fx) Bool.false_ne_true
 | bl a=>
  cases ry
  cases x with
  | non=>cases rx;exact SeqAt.EqAt.bool_none a
  | bl b=>cases rx;exact SeqAt.EqAt.bool_bool a b
  | int b=>obtain⟨t,rfl⟩:=rx;exact SeqAt.EqAt.bool_int a b t
  | str b=>obtain⟨t,rfl⟩:=rx;exact SeqAt.EqAt.bool_str a b t
  | _=>exact absurd (show false=true from fx) Bool.false_ne_true
 | int a=>
  obtain⟨t',rfl⟩:=ry
  cases x with
  | non=>cases rx;exact SeqAt.EqAt.int_none a t'
  | bl b=>cases rx;exact SeqAt.EqAt.int_bool a t' b
  | int b=>obtain⟨t,rfl⟩:=rx;exact SeqAt.EqAt.int_int a t' b t
  | str b=>obtain⟨t,rfl⟩:=rx;exact SeqAt.EqAt.int_str a t' b t
  | _=>exact absurd (show false=true from fx) Bool.false_ne_true
 | str a=>
  obtain⟨t',rfl⟩:=ry
  cases x with
  | non=>cases rx;exact SeqAt.EqAt.str_none a t'
  | bl b=>cases rx;exact SeqAt.EqAt.str_bool a t' b
  | int b=>obtain⟨t,rfl⟩:=rx;exact SeqAt.EqAt.str_int a t' b t
  | str b=>obtain⟨t,rfl⟩:=rx;exact SeqAt.EqAt.str_str a t' b t
  | _=>exact absurd (show false=true from fx) Bool.false_ne_true
 | _=>exact absurd (show false=true from fy) Bool.false_ne_true
def qf (x:V) (u:Value):Bool:=match u with
 | .none=>kT .non x
 | .bool b=>kT (.bl b) x
 | .int i _=>kT (.int i) x
 | .str z _=>kT (.str z) x
 | _=>false
theorem Bv {x y:V} {u:Value} (r:RelV y u) (f:g8 y=true):qf x u=kT y x:=by
 cases y with
 | non=>cases r;rfl
 | bl b=>cases r;rfl
 | int i=>obtain⟨t,rfl⟩:=r;rfl
 | str z=>obtain⟨t,rfl⟩:=r;rfl
 | _=>exact absurd (show false=true from f) Bool.false_ne_true
theorem rF {x:V}:∀{xs:List V} {us:List Value},Vals xs us→xs.all g8=true→us.any (qf x)=xs.any fun y=>kT y x
 | _,_,.nil,_=>rfl
 | y::xs,u::us,.cons r t,f=>by
  rw[List.all_cons,Bool.and_eq_true] at f
  rw[List.any_cons,List.any_cons,Bv r f.1,rF t f.2]
theorem pj {A:Around} {s:Shared} {x:V} {v:Value} (rx:RelV x v) (fx:g8 x=true):∀{xs:List V} {us:List Value},Vals xs us→xs.all g8=true→∀u∈us,SeqAt.EqAt A s u v (qf x u)
 | _,_,.nil,_=>fun u hu=>by cases hu
 | y::xs,u::us,.cons r t,f=>fun u' hu=>by
  rw[List.all_cons,Bool.and_eq_true] at f
  rcases List.mem_cons.mp hu with rfl | hu
  ·rw[Bv r f.1];exact Bu r rx f.1 fx
  ·exact pj rx fx t f.2 u' hu
def inV (x:V) (xs:List V):Bool:=xs.any fun y=>kT y x
def N9 (K:PySem.W.Frag) (neg:Bool):R2:=fun x y H Q=>∃p xs,y=.ref p∧(a_ K H p xs∨aW K H p xs)∧g8 x=true∧xs.all g8=true∧Q (.bl (if neg then !inV x xs else inV x xs)) H
theorem Bw:cC X (compareOp .In) (N9 X.K false):=by
 intro pins s σ H x y v u Q I rx ry h
 obtain⟨p,xs,rfl,hq,fx,fs,q⟩:=h
 cases ry
 rcases hq with hq | hq
 ·obtain⟨its,r,pl,hz⟩:=I.list hq
  refine SeqAt.in_listAt (qf x) pl.isList (fun w hw=>pj rx fx r fs w (by simpa using hw)) ⟨.bl _,H,I,rfl,?_⟩
  rw[show its.toArray.any (qf x)=its.any (qf x) by simp,rF r fs]
  exact q
 ·obtain⟨its,r,pl,hz⟩:=I.tuple hq
  refine SeqAt.in_tupleAt (qf x) pl (fun w hw=>pj rx fx r fs w (by simpa using hw)) ⟨.bl _,H,I,rfl,?_⟩
  rw[show its.toArray.any (qf x)=its.any (qf x) by simp,rF r fs]
  exact q
theorem vY:cv X (.type "list") (fun xs H Q=>∃p ys,xs=[.ref p]∧(a_ X.K H p ys∨aW X.K H p ys)∧∀l,H l=none→Q (.ref l) (upd H l (.lst ys))):=by
 intro pins s σ H xs us Q I r h
 obtain⟨p,ys,rfl,hq,q⟩:=h
 obtain⟨u,rfl,rx⟩:=vals1 r
 cases rx
 have fin:∀(its:List Value),Vals ys its→ys.length≤sizeLine→∀(h':Heap) (c':Nat),(∀b o',s.heap.get? b=some o'→h'.get? b=some o')→
   h'.get? s.heap.objs.size=some {cls:=.type "list",dict:=none,data:=.seq its.toArray c',slots:= #[]}→EP X pins σ Q (.ref s.heap.objs.size) {s with heap:=h'}:=fun its r' hz h' c' kp e=>
  ⟨.ref s.heap.objs.size,_,I.laid (t':=s.toks) kp (Nat.le_refl _) (show bb X.prog X.w _ h' _ (.lst ys) from⟨hz,its,c',r',e⟩),rfl,q _ (I.hok.fresh (Nat.le_refl _))⟩
 rcases hq with hq | hq
 ·obtain⟨its,r',pl,hz⟩:=I.list hq
  have hlen:=r'.length
  obtain⟨o,ho,hc,n,hd⟩:=pl.isList
  exact call_list_seq p (.inl rfl) ho hc hd (fun h' c' kp e=>fin its r' hz h' c' kp e) (by simp only[List.size_toArray]<;>omega)
 ·obtain⟨its,r',pl,hz⟩:=I.tuple hq
  have hlen:=r'.length
  obtain⟨o,ho,hc,n,hd⟩:=pl
  exact call_list_seq p (.inr rfl) ho hc hd (fun h' c' kp e=>fin its r' hz h' c' kp e) (by simp only[List.size_toArray]<;>omega)
theorem uN:cv X (.type "tuple") (fun xs H Q=>∃p ys,xs=[.ref p]∧((a_ X.K H p ys∧∀l,H l=none→Q (.ref l) (upd H l (.tup ys)))∨(aW X.K H p ys∧Q (.ref p) H))):=by
 intro pins s σ H xs us Q I r h
 obtain⟨p,ys,rfl,h⟩:=h
 obtain⟨u,rfl,rx⟩:=vals1 r
 cases rx
 rcases h with⟨hq,q⟩ | ⟨hq,q⟩
 ·obtain⟨its,r',pl,hz⟩:=I.list hq
  have hlen:=r'.length
  refine call_tuple_list pl.isList (fun h' kp=>?_) (by simp only[List.size_toArray]<;>omega)
  have I1:Inv X pins σ H {s with heap:=h'}:=I.kept (t':=s.toks) kp
  have I2:Inv X pins σ (upd H h'.objs.size (.tup ys)) {s with heap:=h'.push {cls:=.type "tuple",data:=.seq its.toArray}}:=
   I1.laid (t':=s.toks) (fun b o e=>Heap.get?_push_of_some _ e) (Nat.le_refl _) (show bb X.prog X.w _ _ _ (.tup ys) from⟨⟨hz,_,Heap.get?_push_size _ rfl,rfl⟩,its,r',IsTup.new _ _⟩)
  exact⟨.ref h'.objs.size,_,I2,rfl,q _ (I1.hok.fresh (Nat.le_refl _))⟩
 ·obtain⟨its,r',pl,hz⟩:=I.tuple hq
  exact call_tuple_same pl ⟨.ref p,H,I,rfl,q⟩
def Jb (K:PySem.W.Frag) (T:String) (x:V) (H:Hp):Prop:=match x with
 | .str _=>T="str"
 | .int _=>T="int"
 | .ref p=>(T="list"∧∃xs,a_ K H p xs)∨(T="tuple"∧∃o,K.lookup p=some o∧o.cls=.type "tuple"∧o.dict=none)∨
   (T="dict"∧((∃kvs,H p=some (.dK kvs))∨∃kvs,H p=some (.dT kvs)))∨(T="set"∧∃S n,H p=some (.set S n))
 | _=>False
theorem Bx {pins:List (Addr×Obj)} {σ:St} {H:Hp} {s:Shared} {T:String} {x:V} {v:Value} (I:Inv X pins σ H s) (r:RelV x v) (ty:Jb X.K T x H):
  s.TypeIs v T∧∀a,v=.ref a→∃ob,s.heap.get? a=some ob∧ob.dict=none:=by
 cases x with
 | str z=>
  obtain⟨t,rfl⟩:=r
  cases(show T="str" from ty)
  exact⟨typeIs_str s z t,fun _ e=>nomatch e⟩
 | int i=>
  obtain⟨t,rfl⟩:=r
  cases(show T="int" from ty)
  exact⟨typeIs_int s i t,fun _ e=>nomatch e⟩
 | ref p=>
  cases r
  rcases ty with⟨rfl,xs,hq⟩ | ⟨rfl,o,hk,hc,hd⟩ | ⟨rfl,hk⟩ | ⟨rfl,S,n,hk⟩
  ·obtain⟨its,_,pl,_⟩:=I.list hq
   refine⟨pl.isList.typeIs,fun a e=>?_⟩
   cases e
   obtain⟨o,n,e,c,hd,_⟩:=pl
   exact⟨o,e,hd⟩
  ·refine⟨⟨o,I.gg p o hk,hc⟩,fun a e=>?_⟩
   cases e
   exact⟨o,I.gg _ o hk,hd⟩
  ·have z:∃o,s.heap.get? p=some o∧o.ExactDict:=by
    rcases hk with⟨kvs,hk⟩ | ⟨kvs,hk⟩
    ·obtain⟨_,_,_,_,o,_,_,e,ex,_⟩:=I.hok p _ hk
     exact⟨o,e,ex⟩
    ·obtain⟨_,_,_,_,o,_,_,e,ex,_⟩:=I.hok p _ hk
     exact⟨o,e,ex⟩
   obtain⟨o,e,ex⟩:=z
   refine⟨⟨o,e,ex.1⟩,fun a e2=>?_⟩
   cases e2
   exact⟨o,e,ex.2.1⟩
  ·obtain⟨o,_,_,_,e,ex,_⟩:=I.hok p _ hk
   refine⟨⟨o,e,ex.1⟩,fun a e2=>?_⟩
   cases e2
   exact⟨o,e,ex.2.1⟩
 | _=>exact False.elim ty
def Qy (K:PySem.W.Frag) (T:String) (r:V→List V→Hp→VK→Prop) (to:TE):TE:=fun σ H Q=>to σ H fun x H1=>Jb K T x H1∧r x [] H1 Q
def UU (K:PySem.W.Frag) (T:String) (r:V→List V→Hp→VK→Prop) (to:TE) (t:TA):TE:=fun σ H Q=>to σ H fun x H1=>Jb K T x H1∧t σ H1 fun xs H2=>r x xs H2 Q
variable {o e:Expr} {es:List Expr} {to:TE} {t:TA} {name:Str} {apos cpos:Pos} {T id:String} {r:V→List V→Hp→VK→Prop}
theorem By (pa:PlainAttrs T) (slot:Slot T name id) (hty:typeOf (.builtin id)=pure (.type "method_descriptor")) (hm:N8 X id r) (ho:PE X o to)
  (hbase:attributeBase o name X.env (eval o X.env)=eval o X.env:=by rfl) (hline:(apos.endLine == cpos.line)=true:=by rfl):PE X (.Call (.Attribute o name apos) [] [] cpos) (Qy X.K T r to):=by
 intro pins s σ H Q I h
 refine wpAny_Call_method0_late hbase hline (aE (ho pins s σ H _ I h) fun v s1 ⟨x,H1,I1,r1,ty,q1⟩=>?_)
 obtain⟨h1,h2⟩:=Bx I1 r1 ty
 exact⟨T,id,pa,slot,hty,h1,h2,Calls.callWith_builtin rfl (PySem.evalArgs_none (hm pins s1 σ H1 x [] v [] Q I1 r1 .nil q1))⟩
theorem gx (pa:PlainAttrs T) (slot:Slot T name id) (hty:typeOf (.builtin id)=pure (.type "method_descriptor")) (hm:N8 X id r) (ho:PE X o to) (ha:PA X (e::es) t)
  (hbase:attributeBase o name X.env (eval o X.env)=eval o X.env:=by rfl)
  (hfew:((backTo cpos (starEach (e::es) X.env)).all (fun x=> !x.1)&&(backToKw cpos (keywordEach [] X.env)).all (fun x=>x.1.isSome)
   &&decide ((e::es).length+([]:List Keyword).length+(if([]:List Keyword).isEmpty then 0 else 1)<30))=true:=by rfl)
  (hline:(apos.endLine == cpos.line)=true:=by rfl) (hs:starEach (e::es) X.env=(false,eval e X.env)::starEach es X.env:=by rfl) (hplain:(backTo cpos (starEach es X.env)).any (·.1)=false:=by rfl):
  PE X (.Call (.Attribute o name apos) (e::es) [] cpos) (UU X.K T r to t):=by
 intro pins s σ H Q I h
 refine wpAny_Call_method_late hbase hfew hline rfl (aE (ho pins s σ H _ I h) fun v s1 ⟨x,H1,I1,r1,ty,q1⟩=>?_)
 obtain⟨h1,h2⟩:=Bx I1 r1 ty
 refine⟨T,id,pa,slot,hty,h1,h2,?_⟩
 have hA:=ha cpos pins s1 σ H1 _ I1 q1
 rw[hs] at hA ⊢
 refine Calls.callWith_builtin (by show(false||(backTo cpos (starEach es X.env)).any (·.1))=false;rw[hplain]<;>rfl) (Calls.evalArgs_plain ?_)
 exact aE hA fun us s2 ⟨vs,H2,I2,r2,q2⟩=>hm pins s2 σ H2 x vs v us Q I2 r1 r2 q2
end
def yU (X:Cx) (id:String) (r:V→List V→Hp→VK→Prop):Prop:=
 ∀(pins:List (Addr×Obj)) (s:Shared) (σ:St) (H:Hp) (x:V) (xs:List V) (v:Value) (us:List Value) (Q:VK),Inv X pins σ H s→RelV x v→Vals xs us→r x xs H Q→
  wpAny (model X.prog X.w) X.A (call (.builtin id) (v::us)) (EP X pins σ Q) X.xe s
theorem Vals.one:∀{x:V} {us:List Value},Vals [x] us→∃u,us=[u]∧RelV x u
 | _,_,.cons r .nil=>⟨_,rfl,r⟩
theorem Vals.zero:∀{us:List Value},Vals [] us→us=[]
 | _,.nil=>rfl
theorem Vals.dropLast {xs:List V} {us:List Value} (h:Vals xs us):Vals xs.dropLast us.dropLast:=by
 induction h with
 | nil=>exact .nil
 | cons r t ih=>
  cases t with
  | nil=>exact .nil
  | cons q t'=>exact .cons r ih
theorem zT {α:Type} (l:List α):l.eraseIdx (l.length-1)=l.dropLast:=by
 induction l with
 | nil=>rfl
 | cons a r ih=>
  cases r with
  | nil=>rfl
  | cons b r=>
   have e:(a::b::r).length-1=((b::r).length-1)+1:=by
    have h1:(a::b::r).length=r.length+2:=rfl
    have h2:(b::r).length=r.length+1:=rfl
    omega
   rw[e,List.eraseIdx_cons_succ,ih]
   all_goals rfl
section
variable {X:Cx} {pins:List (Addr×Obj)} {σ:St} {H:Hp} {s:Shared} {l b:Addr} {xs ys zs:List V}
theorem Inv.zU {its its':List Value} {n:Nat} {f:Array Value→Array Value} {t':Nat} (I:Inv X pins σ H s) (hH:H l=some (.lst xs))
  (e:s.heap.get? l=some {cls:=.type "list",data:=.seq its.toArray n}) (hf:f its.toArray=its'.toArray) (hv:Vals ys its') (hz:ys.length≤sizeLine):
  Inv X pins σ (upd H l (.lst ys)) {s with heap:=s.heap.update l (Obj.mapSeq f),toks:=t'}:=by
 have q:=PySem.IsL.update e f
 rw[hf] at q
 refine I.write (x:=l) (e:=l) (by rw[hH];exact trivial) (.inl rfl) (fun b' u hb hu=>(Heap.get?_update_other s.heap (Obj.mapSeq f) (Ne.symm hb)).trans hu) ⟨_,q⟩ ?_
 exact⟨hz,its',_,hv,q⟩
theorem Inv.Qz {its:List Value} {t':Nat} (I:Inv X pins σ H s) (hv:Vals ys its) (hz:ys.length≤sizeLine):
  Inv X pins σ (upd H s.heap.objs.size (.lst ys)) {s with heap:=s.heap.push {cls:=.type "list",data:=.seq its.toArray},toks:=t'}:=
 I.laid (fun _ _ q=>Heap.get?_push_of_some _ q) (Nat.le_refl _) ⟨hz,its,0,hv,Heap.get?_push_size _ rfl⟩
theorem Inv.fresh (I:Inv X pins σ H s):H s.heap.objs.size=none:=I.hok.fresh (Nat.le_refl _)
theorem Inv.vZ (I:Inv X pins σ H s) (hH:H l=some (.lst xs)):xs.length≤sizeLine∧∃(its:List Value) (n:Nat),Vals xs its∧xs.length=its.length∧s.heap.get? l=some {cls:=.type "list",data:=.seq its.toArray n}:=by
 obtain⟨z,its,n,r,e⟩:=I.hok l _ hH
 exact⟨z,its,n,r,r.length,e⟩
theorem v7 {n:Nat} (h:n≤sizeLine):Builtin.List.listTooLong n=false:=by
 unfold Builtin.List.listTooLong
 exact decide_eq_false (by omega)
end
section
variable {X:Cx}
def Hy:V→List V→Hp→VK→Prop:=fun x vs H Q=>∃l xs y,x=.ref l∧vs=[y]∧H l=some (.lst xs)∧xs.length<sizeLine∧Q .non (upd H l (.lst (xs++[y])))
theorem fu:yU X "list.append" Hy:=by
 intro pins s σ H x vs v us Q I rx rv h
 obtain⟨l,xs,y,rfl,rfl,hH,hz,q⟩:=h
 cases rx
 obtain⟨u,rfl,ru⟩:=rv.one
 obtain⟨z,its,n,r,hl,e⟩:=I.vZ hH
 refine call_meets F.slot_list_append ⟨_,e,rfl⟩ F.entry_list_append (F.args_list_append_2 _ _) (PySem.list_append l its.toArray n u (by rw[List.size_toArray];omega)) ⟨e,?_⟩
 refine⟨.non,_,I.zU (its':=its++[u]) hH e (by simp) (r.append (.cons ru .nil)) ?_,rfl,q⟩
 rw[List.length_append,List.length_singleton]
 omega
def Hz:V→List V→Hp→VK→Prop:=fun x vs H Q=>∃l b xs zs,x=.ref l∧vs=[.ref b]∧H l=some (.lst xs)∧H b=some (.lst zs)∧xs.length+zs.length≤sizeLine∧Q .non (upd H l (.lst (xs++zs)))
theorem nI:yU X "list.extend" Hz:=by
 intro pins s σ H x vs v us Q I rx rv h
 obtain⟨l,b,xs,zs,rfl,rfl,hH,hB,hz,q⟩:=h
 cases rx
 obtain⟨u,rfl,ru⟩:=rv.one
 cases ru
 obtain⟨z,its,n,r,hl,e⟩:=I.vZ hH
 obtain⟨z2,its2,n2,r2,hl2,e2⟩:=I.vZ hB
 have hsz:its.toArray.size+its2.toArray.size≤sizeLine:=by rw[List.size_toArray,List.size_toArray];omega
 have zV:¬(!its.toArray.isEmpty&&Builtin.List.listTooLong (its.toArray.size+its2.toArray.size))=true:=by
  rw[v7 hsz,Bool.and_false]
  exact Bool.false_ne_true
 refine call_meets F.slot_list_extend ⟨_,e,rfl⟩ F.entry_list_extend (F.args_list_extend_2 _ _)
  (AutoSeq1.list_extend_list_list_0 l its.toArray n b its2.toArray n2 zV (by rw[List.size_toArray];omega) (by omega)) ⟨e,e2,?_⟩
 refine⟨.non,_,I.zU (its':=its++its2) hH e (by simp) (r.append r2) ?_,rfl,q⟩
 rw[List.length_append]
 omega
def QA:V→List V→Hp→VK→Prop:=fun x vs H Q=>∃l xs y,x=.ref l∧vs=[]∧H l=some (.lst xs)∧xs[xs.length-1]? =some y∧Q y (upd H l (.lst xs.dropLast))
theorem Bz:yU X "list.pop" QA:=by
 intro pins s σ H x vs v us Q I rx rv h
 obtain⟨l,xs,y,rfl,rfl,hH,hy,q⟩:=h
 cases rx
 have hus:=rv.zero
 subst hus
 obtain⟨z,its,n,r,hl,e⟩:=I.vZ hH
 obtain⟨u,hu,ru⟩:=r.get hy
 have hy':its.toArray[its.toArray.size-1]? =some u:=by
  show its.toArray[its.length-1]? =some u
  rw[←Array.getElem?_toList,←hl]
  exact hu
 refine call_meets F.slot_list_pop ⟨_,e,rfl⟩ F.entry_list_pop (F.args_list_pop_1 _) (MeetsSeq.list_pop_last l its.toArray n u hy' (by rw[List.size_toArray];omega)) ⟨e,?_⟩
 refine⟨y,_,I.zU (its':=its.dropLast) hH e ?_ r.dropLast ?_,ru,q⟩
 ·show its.toArray.eraseIdxIfInBounds (its.toArray.size-1)=its.dropLast.toArray
  rw[List.size_toArray,List.eraseIdxIfInBounds_toArray,zT]
 ·rw[List.length_dropLast]
  omega
end
end L2
namespace N'
open PySem PySem.W PySem.Calls PyProof.Rows
theorem qg {P:Params} {h:Heap}:∀(ns:List Int) (vs:List Value),WellAll P h vs (ns.map WData.int)→IntsAre vs ns:=by
 intro ns
 induction ns with
 | nil=>
  intro vs w
  rw[List.map_nil] at w
  cases w
  exact .nil
 | cons n ns ih=>
  intro vs w
  rw[List.map_cons] at w
  cases w with
  | cons a b=>
   cases a
   exact .cons _ _ (ih _ b)
theorem BA {l:OpenLaw} {n:Nat} (hn:l.most=some n) {P:Params} {h:Heap} {args:List WData} {vals:List Value}
  (hpre:l.row.toRowW.claim.pre args=true) (hwl:WellAll P h vals args):
  ∃a vs ns,vals=[Value.ref a]∧args=[WData.list (ns.map WData.int)]∧h.get? a=some {cls:=.type "list",data:=.seq vs.toArray}∧IntsAre vs ns∧ns.length≤n:=by
 have hsh:WShape.hasAll [] args [.list .int]=true:=(pre_splitW hpre).1
 have hc:l.pre.holds [] {args:=args}=true:=(pre_splitW hpre).2
 obtain⟨d,r,rfl,h1,h2⟩:=hasAllW_cons hsh
 obtain rfl:=hasAllW_nil h2
 obtain⟨xs,rfl,h3⟩:=hasW_list h1
 obtain⟨ns,rfl⟩:=items_int h3
 have hlen:ns.length≤n:=by
  unfold OpenLaw.pre at hc
  have h4:(WTm.not (.lt (.lit (.int (n:Int))) (.len (.arg 0)))).holds [] {args:=[.list (ns.map .int)]}=true:=by
   have h4:=(holds_andW hc).1
   rw[hn] at h4
   exact h4
  have h5:=condW_of h4 (w_not (w_lt w_lit (w_len_list (w_arg rfl))))
  rw[List.length_map] at h5
  refine Nat.le_of_not_lt fun q=>?_
  have q':(n:Int)<((ns.length:Nat):Int):=by omega
  first
   | (rw[decide_eq_true q'] at h5;exact absurd h5 (by decide))
   | (simp at h5;omega)
 cases hwl with
 | cons w1 w2=>
  cases w2
  cases w1 with
  | list ho hall=>exact⟨_,_,ns,rfl,rfl,ho,qg ns _ hall,hlen⟩
theorem BB (l:OpenLaw) (args:List WData):l.row.toRowW.claim.post args (.bool true) args=true:=
 postW_of (r:=l.row.toRowW) (X:=(true == true))
  (show WShape.has [] (.bool true) .bool=true by first | rfl | decide | simp[WShape.has,WShape.arms,WShape.armsAll])
  (show(WTm.eq .res (.lit (.bool true))).value [] {args:=args,res:=some (.bool true),after:=args}=some (.bool (true == true)) from w_eq_bool (w_res rfl) w_lit) rfl
theorem yy {l:OpenLaw} {n:Nat} {q:Program} {loose:List Str} {XP:(Str→Option Value)→Heap→Prop} {YP:World→Heap→Prop} {d:DefRec}
  (hn:l.most=some n) (hdf:d.params.defaults=[])
  (call:∀(w:World) (s₀ s₁:Shared) (mg mb:Str→Option Value) (fa:Addr) (o:Obj) (pm cd doc:Value) (a:Addr) (vs:List Value) (ns:List Int),
   Ground q loose [] XP w s₀ mg mb s₁.heap→YP w s₁.heap→
   s₁.heap.get? fa=some o→o.data=.func (docDef d.name d.params d.body d.scope pm cd doc)→s₁.heap.CodeRec cd d.name→mg d.name=some (.ref fa)→
   s₁.heap.get? a=some {cls:=.type "list",data:=.seq vs.toArray}→IntsAre vs ns→ns.length≤n→s₁.gens= #[]→
   codeAny (model l.prog w) callerA (.call (.ref fa) ⟨[.ref a],[]⟩) (fun r s'=>r=.ok (.ret (.bool true))∧OldK s₁.heap s'.heap∧s'.os=s₁.os∧AllBare s'.gens) s₁):
  WalkO q loose XP YP l.row.toRowW d [] (fun f vs=>PySem.call f vs):=by
 intro w s₀ s₁ mg mb G Y fa o pm cd doc dV kV ho hd hcd hD hmg hg args vals as hpre hlay hrd hwl hlo
 obtain rfl:dV=.none:=Dflts.none hD hdf
 obtain rfl:kV=.none:=Dflts.noKw hD
 obtain⟨a,vs,ns,rfl,rfl,hobj,hints,hlen⟩:=BA hn hpre hwl
 refine enter_call (codeAny_mono (call w s₀ s₁ mg mb fa o pm cd doc a vs ns G Y ho (fd_plain hd) hcd hmg hobj hints hlen hg) fun r s' hq=>?_)
 obtain⟨rfl,h2,h3,h4⟩:=hq
 exact⟨.inl ⟨.bool true,.bool true,[],rfl,fun _=>rfl,.bool true,BB l _,fun _=>⟨List.Pairwise.nil,fun _ hm=>(nomatch hm)⟩⟩,h2,h3,h4⟩
end N'
namespace L2
open PySem PySem.Spec PyProof.Rows
theorem tQ:∀{vs:List Value} {ns:List Int},IntsAre vs ns→Vals (ns.map V.int) vs
 | _,_,.nil=>.nil
 | _,_,.cons n t h=>.cons ⟨t,rfl⟩ (tQ h)
def aD (s:Stmt):Arguments:=match s with
 | .FunctionDef _ a _ _ _ _ _ _ _ _=>a
 | _=>{posonlyargs:=[],args:=[],vararg:=none,kwonlyargs:=[],kw_defaults:=[],kwarg:=none,defaults:=[]}
def aB (s:Stmt):List Stmt:=match s with
 | .FunctionDef _ _ b _ _ _ _ _ _ _=>b
 | _=>[]
def ag (s:Stmt):Scope:=match s with
 | .FunctionDef _ _ _ _ _ _ sc _ _ _=>sc
 | _=>{kind:=.function,names:=[],isGenerator:=false,isCoroutine:=false}
abbrev bp:qd:=fun _ _ _ _ _ _=>False
abbrev E0:XK:=fun _ _ _=>False
theorem aJ {X:Cx}:Passes bp X E0:=fun _ _ _ _ _ _ _ h=>h.elim
structure cD (K:PySem.W.Frag) (x qual:Str) (st:Stmt) (f:Addr) (fd:FuncData):Prop where
 ex:∃(oc:Value) (od:Option Addr) (kV doc pm:Value) (an:Option Addr) (cdv ct:Value) (osl:Array (Option Value)),
  fd=PySem.W.fnOf x qual (aD st) (aB st) (ag st) .none kV doc pm an cdv ct∧K.lookup f=some ⟨oc,od,.func fd,osl⟩∧PySem.W.codeIn K cdv qual=true
 kp:PySem.W.keepIn K (.ref f)=true
section
variable {P:Program} {w:World} {K:PySem.W.Frag} {mg:Str→Option Value} {base:Heap}
theorem cD.ok {x qual:Str} {st:Stmt} {f:Addr} {fd:FuncData} {N ps:List Str} {k:Nat} {sp:Sp} (F:cD K x qual st f fd) (S:aN N ps (ag st)) (len:∀vs H Q E,sp vs H Q E→vs.length=ps.length)
  (hbody:∀(cdv:Value) (A:Around) (outer:List Env) (s:Shared) (H:Hp) (vs:List V) (Q:VK) (E:XK),aO k (A.deeper (envOfC qual (ag st) s.heap.objs.size f cdv))→sp vs H Q E→
   ∃t,j1 (jd bp P w K mg base N qual (ag st) f cdv A outer s H E).oR (aB st) t∧t {nx:=fun _ H'=>Q .non H',rt:=Q} (start N vs) H):aS P w K mg base bp (k+1) f fd ps sp:=by
 obtain⟨oc,od,kV,doc,pm,an,cdv,ct,osl,rfl,lk,hcd⟩:=F.ex
 refine FZ lk hcd S len fun A outer s H vs Q E hr hsp=>?_
 obtain⟨t,h,q⟩:=hbody cdv A outer s H vs Q E hr hsp
 exact⟨t,h.oR,q⟩
theorem cD.binds {x qual:Str} {st:Stmt} {f:Addr} {fd:FuncData} {ps:List Str} (F:cD K x qual st f fd)
  (h:∀(kV doc pm:Value) (an:Option Addr) (cdv ct:Value) (us:List Value),us.length=ps.length→bindArgs (PySem.W.fnOf x qual (aD st) (aB st) (ag st) .none kV doc pm an cdv ct) ⟨us,[]⟩=pure (ps.zip us)):Binds K fd ps []:=by
 obtain⟨oc,od,kV,doc,pm,an,cdv,ct,osl,rfl,lk,hcd⟩:=F.ex
 exact .all (h kV doc pm an cdv ct)
theorem bq {x qual:Str} {st:Stmt} {f:Addr} {oc:Value} {od an:Option Addr} {osl:Array (Option Value)} {kV doc pm cdv ct:Value} (l:K.lookup f=some ⟨oc,od,.func (PySem.W.fnOf x qual (aD st) (aB st) (ag st) .none kV doc pm an cdv ct),osl⟩)
  (c:PySem.W.codeIn K cdv qual=true) (k:PySem.W.keepIn K (.ref f)=true):cD K x qual st f (PySem.W.fnOf x qual (aD st) (aB st) (ag st) .none kV doc pm an cdv ct):=⟨⟨oc,od,kV,doc,pm,an,cdv,ct,osl,rfl,l,c⟩,k⟩
end
theorem bP {A:Around} {k:Nat} (hr:aO k A):A.units+1<cLine:=Nat.lt_of_le_of_lt (Nat.add_le_add_left (by decide:1≤64) _) hr.units
section
variable {X:Cx}
theorem pv (i:Nat) {x:Str} {pos:Pos} (hN:X.N[i]? =some x:=by rfl) (hv:yK X.env.scope x:=by first | exact Or.inl rfl | exact Or.inr (Or.inl rfl) | exact Or.inr (Or.inr rfl)) (hd:(x == ("__debug__":Str))=false:=by decide)
  (hcd:(x == ("__classdict__":Str))=false:=by decide):PE X (.Name x pos) (Eb i):=II hN hv hd hcd
end
theorem gb {A B:Prop} (h:B):if false=true then A else B:=by
 rw[if_neg Bool.false_ne_true]
 exact h
theorem wa {A B:Prop} (h:A):if true=true then A else B:=by
 rw[if_pos rfl]
 exact h
theorem cj {c A B:Prop} [Decidable c] (h1:c→A) (h2:¬c→B):if c then A else B:=by
 by_cases h:c
 ·rw[if_pos h]
  exact h1 h
 ·rw[if_neg h]
  exact h2 h
def Same (H H':Hp):Prop:=∀b o,H b=some o→H' b=some o
theorem Same.refl (H:Hp):Same H H:=fun _ _ h=>h
theorem Same.trans {H H1 H2:Hp} (a:Same H H1) (b:Same H1 H2):Same H H2:=fun c o h=>b c o (a c o h)
theorem Same.free {H H':Hp} (e:Same H H') {l:Addr} (h:H' l=Option.none):H l=Option.none:=by
 cases q:H l with
 | none=>rfl
 | some o=>
  rw[e l o q] at h
  cases h
theorem Same.seq {K:PySem.W.Frag} {H H':Hp} {a:Addr} {xs:List V} (e:Same H H') (h:a_ K H a xs):a_ K H' a xs:=by
 rcases h with(h | ⟨o,h⟩) | h
 ·exact .inl (.inl (e _ _ h))
 ·exact .inl (.inr ⟨o,e _ _ h⟩)
 ·exact .inr h
section
variable {κ:Type} [DecidableEq κ]
def aR (kvs:List (κ×V)) (k:κ):Option V:=(kvs.find? fun kv=>decide (kv.1=k)).map (·.2)
def putK (kvs:List (κ×V)) (k:κ) (v:V):List (κ×V):=
 if(kvs.any fun kv=>decide (kv.1=k))=true then kvs.map (fun kv=>if kv.1=k then(kv.1,v) else kv) else kvs++[(k,v)]
theorem px {k:κ}:aR ([]:List (κ×V)) k=none:=rfl
theorem bG {p:κ×V} {r:List (κ×V)} {k:κ} (e:p.1=k):aR (p::r) k=some p.2:=by simp[aR,List.find?_cons,e]
theorem bw {p:κ×V} {r:List (κ×V)} {k:κ} (e:¬p.1=k):aR (p::r) k=aR r k:=by simp[aR,List.find?_cons,e]
theorem jI (k:κ):∀kvs:List (κ×V),(kvs.any fun kv=>decide (kv.1=k))=(aR kvs k).isSome
 | []=>rfl
 | p::r=>by
  rw[List.any_cons]
  by_cases e:p.1=k
  ·simp only[bG e,decide_eq_true e,Bool.true_or,Option.isSome_some]
  ·rw[bw e,decide_eq_false e,Bool.false_or];exact jI k r
theorem wb (k j:κ) (y:V):∀kvs:List (κ×V),aR (kvs.map fun kv=>if kv.1=k then(kv.1,y) else kv) j=(aR kvs j).map fun x=>if j=k then y else x
 | []=>rfl
 | p::r=>by
  have ih:=wb k j y r
  rw[List.map_cons]
  by_cases h:p.1=k
  ·rw[if_pos h]
   by_cases e:p.1=j
   ·rw[bG (p:=(p.1,y)) e,bG e,Option.map_some,if_pos (e.symm.trans h)]
   ·rw[bw (p:=(p.1,y)) e,bw e,ih]
  ·rw[if_neg h]
   by_cases e:p.1=j
   ·rw[bG (p:=p) e,bG e,Option.map_some,if_neg (fun z=>h (e.trans z))]
   ·rw[bw (p:=p) e,bw e,ih]
theorem tR (k j:κ) (y:V):∀kvs:List (κ×V),aR kvs k=none→aR (kvs++[(k,y)]) j=if j=k then some y else aR kvs j
 | [],_=>by
  by_cases e:k=j
  ·rw[if_pos e.symm];exact bG (p:=(k,y)) e
  ·rw[if_neg (fun z=>e z.symm)];exact bw (p:=(k,y)) e
 | p::r,hn=>by
  rw[List.cons_append]
  have hk:¬p.1=k:=fun z=>by rw[bG z] at hn;cases hn
  rw[bw hk] at hn
  have ih:=tR k j y r hn
  by_cases e:p.1=j
  ·rw[bG e,bG e,if_neg (fun z=>hk (e.trans z))]
  ·rw[bw e,bw e,ih]
theorem lT (kvs:List (κ×V)) (k j:κ) (y:V):aR (putK kvs k y) j=if j=k then some y else aR kvs j:=by
 unfold putK
 by_cases a:(kvs.any fun kv=>decide (kv.1=k))=true
 ·rw[if_pos a,wb]
  rw[jI] at a
  by_cases e:j=k
  ·obtain⟨x,hx⟩:=Option.isSome_iff_exists.mp a
   rw[if_pos e,e,hx,Option.map_some,if_pos rfl]
  ·rw[if_neg e]
   cases aR kvs j with
   | none=>rfl
   | some x=>rw[Option.map_some,if_neg e]
 ·rw[if_neg a]
  refine tR k j y kvs ?_
  rw[jI] at a
  cases q:aR kvs k with
  | none=>rfl
  | some x=>rw[q] at a;exact(a rfl).elim
theorem gj (kvs:List (κ×V)) (k:κ) (v:V):(putK kvs k v).length≤kvs.length+1:=by
 unfold putK
 split
 ·rw[List.length_map];omega
 ·rw[List.length_append,List.length_cons,List.length_nil];omega
theorem jJ {kvs:List (κ×V)} {k:κ} (v:V) (h:aR kvs k=none):putK kvs k v=kvs++[(k,v)]:=by
 unfold putK
 rw[jI,h]
 exact if_neg (by decide)
theorem fm.iX {o:Option V} {u:Option Value} (r:fm o u):o.isSome=u.isSome:=by
 cases o with
 | none=>cases u with
  | none=>rfl
  | some _=>exact(show False from r).elim
 | some _=>cases u with
  | none=>exact(show False from r).elim
  | some _=>rfl
theorem fm.getD {o:Option V} {u:Option Value} {d:V} {d':Value} (r:fm o u) (rd:RelV d d'):RelV (o.getD d) (u.getD d'):=by
 cases o with
 | none=>cases u with
  | none=>exact rd
  | some _=>exact(show False from r).elim
 | some _=>cases u with
  | none=>exact(show False from r).elim
  | some _=>exact r
theorem KV.val {kvs:List (κ×V)} {vs:List (κ×Value)} (r:KV kvs vs) (k:κ):fm (aR kvs k) (valueAt vs k):=by
 unfold KV at r
 induction r with
 | nil=>exact True.intro
 | @cons p q ps qs h t ih=>
  obtain⟨h1,h2⟩:=h
  by_cases e:p.1=k
  ·have e':q.1=k:=h1.symm.trans e
   have b:valueAt (q::qs) k=some q.2:=by simp[valueAt,List.find?_cons,e']
   rw[bG e,b];exact h2
  ·have e':¬q.1=k:=fun z=>e (h1.trans z)
   have b:valueAt (q::qs) k=valueAt qs k:=by simp[valueAt,List.find?_cons,e']
   rw[bw e,b];exact ih
theorem KV.any {kvs:List (κ×V)} {vs:List (κ×Value)} (r:KV kvs vs) (k:κ):(kvs.any fun kv=>decide (kv.1=k))=vs.any fun kv=>decide (kv.1=k):=by
 unfold KV at r
 induction r with
 | nil=>rfl
 | cons h t ih=>rw[List.any_cons,List.any_cons,ih,h.1]
theorem KV.repl {kvs:List (κ×V)} {vs:List (κ×Value)} (r:KV kvs vs) (k:κ) {y:V} {u:Value} (ry:RelV y u):
  KV (kvs.map fun kv=>if kv.1=k then(kv.1,y) else kv) (vs.map fun kv=>if kv.1=k then(kv.1,u) else kv):=by
 unfold KV at r ⊢
 induction r with
 | nil=>exact .nil
 | @cons p q ps qs h t ih=>
  rw[List.map_cons,List.map_cons]
  refine .cons ?_ ih
  obtain⟨h1,h2⟩:=h
  by_cases e:p.1=k
  ·rw[if_pos e,if_pos (h1.symm.trans e)];exact⟨h1,ry⟩
  ·rw[if_neg e,if_neg (fun z=>e (h1.trans z))];exact⟨h1,h2⟩
theorem KV.put {kvs:List (κ×V)} {vs:List (κ×Value)} (r:KV kvs vs) (k:κ) {y:V} {u:Value} (ry:RelV y u):KV (putK kvs k y) (stored vs k u):=by
 unfold putK stored
 rw[r.any k]
 by_cases e:(vs.any fun kv=>decide (kv.1=k))=true
 ·rw[if_pos e,if_pos e];exact r.repl k ry
 ·rw[if_neg e,if_neg e];exact Paired.snoc r ⟨rfl,ry⟩
theorem KV.length {kvs:List (κ×V)} {vs:List (κ×Value)} (r:KV kvs vs):kvs.length=vs.length:=Paired.length r
end
theorem j4 {P:Program} {w:World} {k:Key} {u:Value} (r:RelV (kV k) u):(aV P w).is k u=true:=by
 cases k with
 | inl i=>obtain⟨t,e⟩:=(show ∃t,u=Value.int i t from r);subst e;exact yv P w i t
 | inr x=>obtain⟨t,e⟩:=(show ∃t,u=Value.str x t from r);subst e;exact yw P w x t
theorem tS {P:Program} {w:World}:∀{ks:List Key} {us:List Value},Vals (ks.map kV) us→ItemsAre (aV P w) ks us
 | [],_,r=>by rw[List.map_nil] at r;cases r;exact .nil
 | k::ks,_,r=>by
  rw[List.map_cons] at r
  cases r with
  | cons h t=>exact .cons (j4 h) (tS t)
abbrev KT (H:Hp):List (List Key×V)→List (List Key×Addr×Value)→Prop:=Paired fun p q=>p.1=q.1∧H q.2.1=some (.tup (p.1.map kV))∧RelV p.2 q.2.2
theorem KT.val {H:Hp} {kvs:List (List Key×V)} {xs:List (List Key×Addr×Value)} (r:KT H kvs xs) (k:List Key):fm (aR kvs k) ((atKey xs k).map (·.2)):=by
 induction r with
 | nil=>exact True.intro
 | @cons p q ps qs h t ih=>
  obtain⟨h1,_,h2⟩:=h
  by_cases e:p.1=k
  ·have e':q.1=k:=h1.symm.trans e
   have b:atKey (q::qs) k=some q.2:=by simp[atKey,List.find?_cons,e']
   rw[bG e,b];exact h2
  ·have e':¬q.1=k:=fun z=>e (h1.trans z)
   have b:atKey (q::qs) k=atKey qs k:=by simp[atKey,List.find?_cons,e']
   rw[bw e,b];exact ih
theorem KT.repl {H:Hp} {kvs:List (List Key×V)} {xs:List (List Key×Addr×Value)} (r:KT H kvs xs) (k:List Key) {y:V} {u:Value} (ry:RelV y u):
  KT H (kvs.map fun kv=>if kv.1=k then(kv.1,y) else kv) (xs.map (putAt k u)):=by
 induction r with
 | nil=>exact .nil
 | @cons p q ps qs h t ih=>
  rw[List.map_cons,List.map_cons]
  refine .cons ?_ ih
  obtain⟨h1,h2,h3⟩:=h
  unfold putAt
  by_cases e:p.1=k
  ·rw[if_pos e,if_pos (h1.symm.trans e)];exact⟨h1,h2,ry⟩
  ·rw[if_neg e,if_neg (fun z=>e (h1.trans z))];exact⟨h1,h2,h3⟩
theorem KT.put {H:Hp} {kvs:List (List Key×V)} {xs:List (List Key×Addr×Value)} (r:KT H kvs xs) (k:List Key) {b:Addr} {y:V} {u:Value} (hb:H b=some (.tup (k.map kV))) (ry:RelV y u):
  KT H (putK kvs k y) (storedH xs k b u):=by
 have e:(kvs.any fun kv=>decide (kv.1=k))=(atKey xs k).isSome:=by
  rw[jI,(r.val k).iX,Option.isSome_map]
 unfold putK storedH
 rw[e]
 by_cases q:(atKey xs k).isSome=true
 ·rw[if_pos q,if_pos q];exact r.repl k ry
 ·rw[if_neg q,if_neg q];exact Paired.snoc r ⟨rfl,hb,ry⟩
theorem KT.keeps {H H':Hp} {kvs:List (List Key×V)} {xs:List (List Key×Addr×Value)} (r:KT H kvs xs) (ht:∀b ys,H b=some (.tup ys)→H' b=some (.tup ys)):KT H' kvs xs:=
 Paired.nr r fun _ _ z=>⟨z.1,ht _ _ z.2.1,z.2.2⟩
section
variable {P:Program} {w:World} {H:Hp} {h:Heap} {a:Addr}
theorem F' {u:HO} (ok:cG P w H h) (e:Rd H a u):bb P w H h a u:=e.ok ok
theorem lU {kvs:List (Key×V)} (ok:cG P w H h) (e:Rd H a (.dK kvs)):kvs.length≤sizeLine∧(a == sysModules)=false∧∃vs,KV kvs vs∧h.DictOf (aV P w) a vs:=
 show bb P w H h a (.dK kvs) from F' ok e
theorem zW {kvs:List (Key×V)} (ok:cG P w H h) (e:H a=some (.dK kvs)):kvs.length≤sizeLine∧(a == sysModules)=false∧∃vs,KV kvs vs∧h.DictOf (aV P w) a vs:=lU ok (.inl e)
theorem nJ {ks:List Key} (ok:cG P w H h) (e:H a=some (.tup (ks.map kV))):(tupleKind (aV P w)).is h ks a:=by
 obtain⟨_,its,r,o,h1,h2,n,h3⟩:=(show bb P w H h a (.tup (ks.map kV)) from ok a _ e)
 exact⟨o,its.toArray,n,h1,h2,h3,by simpa using tS r⟩
theorem oy {kvs:List (List Key×V)} (ok:cG P w H h) (e:Rd H a (.dT kvs)):kvs.length≤sizeLine∧(a == sysModules)=false∧
  ∃xs,KT H kvs xs∧h.DictOfH (tupleKind (aV P w)) a xs:=by
 obtain⟨z,y,xs,r,o,es,ep,h1,h2,h3,h4,h5⟩:=(show bb P w H h a (.dT kvs) from F' ok e)
 refine⟨z,y,xs,r,o,es,ep,h1,h2,h3,h4,fun x hx=>?_,h5⟩
 have all:∀{l:List (List Key×V)} {m:List (List Key×Addr×Value)},KT H l m→∀x∈m,(tupleKind (aV P w)).is h x.1 x.2.1:=by
  intro l m q
  induction q with
  | nil=>intro x hx;exact nomatch hx
  | @cons p q ps qs hq t ih=>
   intro x hx
   rcases List.mem_cons.mp hx with e | hx
   ·subst e
    exact nJ ok (by rw[←hq.1];exact hq.2.1)
   ·exact ih x hx
 exact all r x hx
theorem Nc {kvs:List (List Key×V)} (ok:cG P w H h) (e:H a=some (.dT kvs)):kvs.length≤sizeLine∧(a == sysModules)=false∧
  ∃xs,KT H kvs xs∧h.DictOfH (tupleKind (aV P w)) a xs:=oy ok (.inl e)
end
def lV (H:Hp) (a:Addr) (y:V) (r:Option V):Prop:=
 (∃kvs k,Rd H a (.dK kvs)∧y=kV k∧r=aR kvs k)∨∃kvs k b,Rd H a (.dT kvs)∧y=.ref b∧H b=some (.tup (k.map kV))∧r=aR kvs k
def kq (H:Hp) (a:Addr) (y v:V) (H':Hp):Prop:=
 (∃kvs k,H a=some (.dK kvs)∧y=kV k∧kvs.length<sizeLine∧H'=upd H a (.dK (putK kvs k v)))∨
 ∃kvs k b,H a=some (.dT kvs)∧y=.ref b∧H b=some (.tup (k.map kV))∧kvs.length<sizeLine∧H'=upd H a (.dT (putK kvs k v))
theorem kq.k {H:Hp} {a:Addr} {kvs:List (Key×V)} {k:Key} {v:V} (e:H a=some (.dK kvs)) (hl:kvs.length<sizeLine):kq H a (kV k) v (upd H a (.dK (putK kvs k v))):=.inl ⟨kvs,k,e,rfl,hl,rfl⟩
theorem kq.t {H:Hp} {a b:Addr} {kvs:List (List Key×V)} {k:List Key} {v:V} (e:H a=some (.dT kvs)) (eb:H b=some (.tup (k.map kV))) (hl:kvs.length<sizeLine):
  kq H a (.ref b) v (upd H a (.dT (putK kvs k v))):=.inr ⟨kvs,k,b,e,rfl,eb,hl,rfl⟩
section
variable {X:Cx} {pins:List (Addr×Obj)} {σ:St} {H:Hp} {s:Shared} {a:Addr} {y v:V} {u r:Value} {o:Option V} {A:Around} {E:Value→Shared→Prop}
theorem Inv.big (I:Inv X pins σ H s):sysModules<s.heap.objs.size:=by
 have h:mainGlobals<s.heap.objs.size:=(I.mod.glob.keeps I.bk).lt
 exact Nat.lt_trans (by decide) h
theorem BD {Q:Value→Shared→Prop} (hu:A.units+1<cLine) (I:Inv X pins σ H s) (g:lV H a y (some v)) (ry:RelV y u) (h:∀w' s',Inv X pins σ H s'→RelV v w'→Q w' s'):
  wpAny (model X.prog X.w) A (getItem (.ref a) u) Q E s:=by
 rcases g with⟨kvs,k,e,ey,l⟩ | ⟨kvs,k,b,e,ey,eb,l⟩
 ·subst ey
  obtain⟨z,hd,vs,rel,dd⟩:=lU I.hok e
  obtain⟨w',hw,jH⟩:=fm.some_of (v:=v) (o:=valueAt vs k) (by rw[l];exact rel.val k)
  exact wpAny_getItem_of (j4 ry) dd.mapOf hw (h w' _ (I.tok _) jH)
 ·subst ey
  cases(show u=Value.ref b from ry)
  obtain⟨z,hd,xs,rel,dd⟩:=oy I.hok e
  obtain⟨w',hw,jH⟩:=fm.some_of (v:=v) (o:=(atKey xs k).map (·.2)) (by rw[l];exact rel.val k)
  obtain⟨p,hp,hp2⟩:=Option.map_eq_some_iff.mp hw
  refine wpAny_getItem_heap (tupleKind_room_in1 hu) (nJ I.hok eb) dd hp ?_
  rw[hp2]
  exact h w' _ (I.tok _) jH
theorem QB {Q:Value→Shared→Prop} (hu:A.units+1<cLine) (I:Inv X pins σ H s) (g:lV H a y o) (ry:RelV y u) (h:∀s',Inv X pins σ H s'→Q (.bool o.isSome) s'):
  wpAny (model X.prog X.w) A (compareOp .In u (.ref a)) Q E s:=by
 rcases g with⟨kvs,k,e,ey,l⟩ | ⟨kvs,k,b,e,ey,eb,l⟩
 ·subst ey
  obtain⟨z,hd,vs,rel,dd⟩:=lU I.hok e
  refine wpAny_in_of (j4 ry) hd dd.mapOf ?_
  rw[←(rel.val k).iX,←l]
  exact h _ (I.tok _)
 ·subst ey
  cases(show u=Value.ref b from ry)
  obtain⟨z,hd,xs,rel,dd⟩:=oy I.hok e
  refine wpAny_in_heap (tupleKind_room_in1 hu) (nJ I.hok eb) hd dd ?_
  have q:=(rel.val k).iX
  rw[Option.isSome_map] at q
  rw[←q,←l]
  exact h _ (I.tok _)
theorem kU {h':Heap} {t':Nat} {ob:HO} (I:Inv X pins σ H s) (mu:Bf (H a)) (hs:Heap.SameBut a s.heap h') (he:∃q,h'.get? a=some q) (new:bb X.prog X.w (upd H a ob) h' a ob):
  Inv X pins σ (upd H a ob) {s with heap:=h',toks:=t'}:=
 I.write (x:=a) (e:=a) mu (.inl rfl) (fun b q hb z=>(hs.2 b hb).trans z) he new
theorem BE {P:Program} {w:World} {H':Hp} {h':Heap} {kvs:List (Key×V)} {vs:List (Key×Value)} (z:kvs.length≤sizeLine) (hd:(a == sysModules)=false) (rel:KV kvs vs) (dd:h'.DictOf (aV P w) a vs):
  bb P w H' h' a (.dK kvs):=⟨z,hd,vs,rel,dd⟩
theorem BF {H':Hp} {Q:Unit→Shared→Prop} (hu:A.units+1<cLine) (I:Inv X pins σ H s) (g:kq H a y v H') (ry:RelV y u) (rv:RelV v r) (h:∀s',Inv X pins σ H' s'→Q () s'):
  wpAny (model X.prog X.w) A (setItem (.ref a) u r) Q E s:=by
 rcases g with⟨kvs,k,e,ey,l,eH⟩ | ⟨kvs,k,b,e,ey,eb,l,eH⟩
 ·subst ey eH
  obtain⟨z,hd,vs,rel,dd⟩:=zW I.hok e
  have hz:vs.length≤sizeLine:=by rw[←rel.length];exact z
  have hl:(putK kvs k v).length≤sizeLine:=by have:=gj kvs k v;omega
  refine wpAny_setItem_pairs (hsz:=hz) (j4 ry) dd fun h' kX hs=>h _ ?_
  have he:∃q,h'.get? a=some q:=let ⟨q,_,_,hq,_⟩:=kX;⟨q,hq⟩
  exact kU I (by rw[e];exact True.intro) hs he (BE hl hd (rel.put k rv) kX)
 ·subst ey eH
  cases(show u=Value.ref b from ry)
  obtain⟨z,hd,xs,rel,dd⟩:=Nc I.hok e
  have hz:xs.length≤sizeLine:=by rw[←Paired.length rel];exact z
  have hl:(putK kvs k v).length≤sizeLine:=by have:=gj kvs k v;omega
  refine wpAny_setItem_heap (hsz:=hz) (tupleKind_room_in1 hu) (nJ I.hok eb) dd fun h' kX hs=>h _ ?_
  obtain⟨q,es,ep,hq,h2,h3,h4,_,h5⟩:=kX
  refine kU I (by rw[e];exact True.intro) hs ⟨q,hq⟩ ⟨hl,hd,_,(rel.put k eb rv).keeps fun c ys ec=>?_,q,es,ep,hq,h2,h3,h4,h5⟩
  rw[au (dR ec e (fun z=>nomatch z))]
  exact ec
end
def Ek (i:Expr):Prop:=∀ov iv,subscripted i false ov iv=operate [ov,iv] (getItem ov iv)
theorem yV {prog:Program} {w:World} {A:Around} {E:Value→Shared→Prop} {s:Shared} {env:Env} {value slice:Expr} {pos:Pos} {T id:String} {Q:Value→Shared→Prop}
  (hl:typeLookup (.type T) "__getitem__"=pure (some (.builtin id))) (hs:Ek slice)
  (h:wpAny (model prog w) A (eval value env) (fun o s₁=>wpAny (model prog w) A (eval slice env) (fun i s₂=>s₂.TypeIs o T∧wpAny (model prog w) A (getItem o i) Q E s₂) E s₁) E s):
  wpAny (model prog w) A (eval (.Subscript value slice pos) env) Q E s:=by
 refine Subscript_ (wpAny_mono h (fun o s₁ h₁=>wpAny_mono h₁ (fun i s₂ h₂=>?_) fun _ _ x=>x) fun _ _ x=>x)
 obtain⟨hT,h₂⟩:=h₂
 unfold subscriptTail
 refine wpAny_bind ?_
 rw[getitemInPython_of_ne hT.not_modules]
 refine wpAny_bind (wpAny_specialOf hT hl ?_)
 have fin:wpAny (model prog w) A (subscripted slice false o i) (fun r s₃=>wpAny (model prog w) A (letTemporaryGo value o r >>= fun _=>pure r) Q E s₃) E s₂:=by
  rw[hs o i]
  exact wpAny_operating (wpAny_mono h₂ (fun r s₃ h₃=>wpAny_bind (wpAny_letTemporaryGo (wpAny_pure h₃))) fun _ _ x=>x)
 first
  | exact wpAny_pure (wpAny_bind fin)
  | exact wpAny_bind (wpAny_pure (wpAny_bind fin))
  | exact wpAny_bind fin
theorem yz {X:Cx} {pins:List (Addr×Obj)} {σ:St} {H:Hp} {s:Shared} {a:Addr} {y:V} {o:Option V} (I:Inv X pins σ H s) (g:lV H a y o):s.TypeIs (.ref a) "dict":=by
 rcases g with⟨kvs,k,e,_,_⟩ | ⟨kvs,k,b,e,_,_,_⟩
 ·obtain⟨_,_,vs,_,dd⟩:=lU I.hok e
  exact dd.typeIs
 ·obtain⟨_,_,xs,_,dd⟩:=oy I.hok e
  exact dd.typeIs
def Nd (td ty:TE):TE:=fun σ H Q=>td σ H fun x H1=>ty σ H1 fun y H2=>∃a v,x=.ref a∧lV H2 a y (some v)∧Q v H2
def QC (ty td:TE):TE:=fun σ H Q=>ty σ H fun y H1=>td σ H1 fun x H2=>∃a o,x=.ref a∧lV H2 a y o∧Q (.bl o.isSome) H2
def Nf (td ty tv:TE):TS:=fun D σ H=>tv σ H fun v H1=>td σ H1 fun x H2=>ty σ H2 fun y H3=>∃a H4,x=.ref a∧kq H3 a y v H4∧D.nx σ H4
section
variable {X:Cx} {o i e value:Expr} {pos pos' tpos:Pos} {td ty tv:TE}
theorem cH (hu:X.A.units+1<cLine) (ho:PE X o td) (hi:PE X i ty) (hs:Ek i):PE X (.Subscript o i pos) (Nd td ty):=by
 intro pins s σ H Q I h
 refine yV PySem.F.slot_dict_getitem.lookup hs (aE (ho pins s σ H _ I h) fun u s1 ⟨x,H1,I1,rx,q1⟩=>aE (hi pins s1 σ H1 _ I1 q1) fun iv s2 ⟨y,H2,I2,ry,a,v,ex,g,q2⟩=>?_)
 subst ex
 obtain rfl:u=Value.ref a:=rx
 exact⟨yz I2 g,BD hu I2 g ry fun w' s3 I3 jH=>⟨v,H2,I3,jH,q2⟩⟩
theorem Jc (hu:X.A.units+1<cLine) (hi:PE X i ty) (ho:PE X o td):PC X .In i o (QC ty td):=by
 intro pins s σ H Q I h
 refine aE (hi pins s σ H _ I h) fun iv s1 ⟨y,H1,I1,ry,q1⟩=>aE (ho pins s1 σ H1 _ I1 q1) fun u s2 ⟨x,H2,I2,rx,a,ov,ex,g,q2⟩=>?_
 subst ex
 obtain rfl:u=Value.ref a:=rx
 exact QB hu I2 g ry fun s3 I3=>⟨.bl ov.isSome,H2,I3,rfl,q2⟩
theorem kY (hu:X.A.units+1<cLine) (ho:PE X o td) (hi:PE X i ty) (hv:PE X value tv) (hs:swapsWith value (some (.Subscript o i pos')) pos.line X.env=pure false):
  PS X (.Assign [.Subscript o i pos'] value pos) (Nf td ty tv):=by
 intro pins s σ H D I h
 refine wpAny_Assign_Subscript (aE (hv pins s σ H _ I h) fun r s1 ⟨v,H1,I1,rv,q1⟩=>aE (ho pins s1 σ H1 _ I1 q1) fun u s2 ⟨x,H2,I2,rx,q2⟩=>aE (hi pins s2 σ H2 _ I2 q2) fun iv s3 ⟨y,H3,I3,ry,a,H4,ex,g,q3⟩=>?_) hs
 subst ex
 obtain rfl:u=Value.ref a:=rx
 exact BF hu I3 g ry rv fun s4 I4=>⟨σ,H4,I4,q3⟩
end
theorem wc {P:Program} {w:World} {H:Hp} (h:Heap) (hb:sysModules<h.objs.size):bb P w H (h.push {cls:=.type "dict",data:=.dict #[]}) h.objs.size (.dK []):=
 ⟨Nat.zero_le _,beq_eq_false_iff_ne.mpr (Ne.symm (Nat.ne_of_lt hb)),[],.nil,Heap.DictOf.new h⟩
theorem El {P:Program} {w:World} {H:Hp} (h:Heap) (hb:sysModules<h.objs.size):bb P w H (h.push {cls:=.type "dict",data:=.dict #[]}) h.objs.size (.dT []):=
 ⟨Nat.zero_le _,beq_eq_false_iff_ne.mpr (Ne.symm (Nat.ne_of_lt hb)),[],.nil,_, #[],0,Heap.get?_push_size _ rfl,⟨rfl,rfl,rfl⟩,rfl,rfl,List.nodup_nil⟩
def Jd:TE:=fun _ H Q=>∀p,H p=none→Q (.ref p) (upd H p (.dK []))
def Je:TE:=fun _ H Q=>∀p,H p=none→Q (.ref p) (upd H p (.dT []))
section
variable {X:Cx} {pos:Pos}
theorem Em:PE X (.Dict [] [] pos) Jd:=fun pins s σ H Q I h=>
 wpAny_Dict_empty ⟨.ref s.heap.objs.size,_,I.laid (a:=s.heap.objs.size) (o:=.dK []) (t':=s.toks) (fun _ _ q=>Heap.get?_push_of_some _ q) (Nat.le_refl _) (wc s.heap I.big),rfl,h _ (I.hok.fresh (Nat.le_refl _))⟩
theorem En:PE X (.Dict [] [] pos) Je:=fun pins s σ H Q I h=>
 wpAny_Dict_empty ⟨.ref s.heap.objs.size,_,I.laid (a:=s.heap.objs.size) (o:=.dT []) (t':=s.toks) (fun _ _ q=>Heap.get?_push_of_some _ q) (Nat.le_refl _) (El s.heap I.big),rfl,h _ (I.hok.fresh (Nat.le_refl _))⟩
end
def wg:List (TE×TE)→St→Hp→(List (V×V)→Hp→Prop)→Prop
 | [],_,H,Q=>Q [] H
 | (tk,tv)::r,σ,H,Q=>tk σ H fun x H1=>tv σ H1 fun y H2=>wg r σ H2 fun ps H3=>Q ((x,y)::ps) H3
abbrev VV:List (V×V)→List (Value×Value)→Prop:=Paired fun p q=>RelV p.1 q.1∧RelV p.2 q.2
def BG (X:Cx) (pos:Pos) (keys:List (Option Expr)) (values:List Expr) (qh:List (TE×TE)):Prop:=
 ∀(pins:List (Addr×Obj)) (s:Shared) (σ:St) (H:Hp) (Q:List (V×V)→Hp→Prop),Inv X pins σ H s→wg qh σ H Q→
  wpAny (model X.prog X.w) X.A (evalPairs (pairTrees keys values X.env pos)) (fun vs s'=>∃ps H',Inv X pins σ H' s'∧VV ps vs∧Q ps H') X.xe s
theorem yW {X:Cx} {pos:Pos}:BG X pos [] [] []:=fun pins s σ H Q I h=>pairTrees_nil_walk ⟨[],H,I,.nil,h⟩
theorem lW {X:Cx} {pos:Pos} {k v:Expr} {ks:List (Option Expr)} {vs:List Expr} {tk tv:TE} {qh:List (TE×TE)} (hk:PE X k tk) (hv:PE X v tv) (hr:BG X pos ks vs qh):
  BG X pos (some k::ks) (v::vs) ((tk,tv)::qh):=fun pins s σ H Q I h=>
 pairTrees_cons_walk (aE (hk pins s σ H _ I h) fun u s1 ⟨x,H1,I1,rx,q1⟩=>aE (hv pins s1 σ H1 _ I1 q1) fun w2 s2 ⟨y,H2,I2,ry,q2⟩=>
  aE (hr pins s2 σ H2 _ I2 q2) fun ws s3 ⟨ps,H3,I3,rel,q3⟩=>⟨(x,y)::ps,H3,I3,.cons ⟨rx,ry⟩ rel,q3⟩)
def br (kvs more:List (Key×V)):List (Key×V):=more.foldl (fun acc kv=>putK acc kv.1 kv.2) kvs
theorem KV.merge:∀{more:List (Key×V)} {rs:List (Key×Value)} {kvs:List (Key×V)} {vs:List (Key×Value)},KV more rs→KV kvs vs→KV (br kvs more) (merged vs rs):=by
 intro more rs kvs vs r
 unfold KV at r
 induction r generalizing kvs vs with
 | nil=>intro q;exact q
 | @cons p q ps qs h t ih=>
  intro r0
  have e:KV (putK kvs p.1 p.2) (stored vs q.1 q.2):=by
   have:=r0.put p.1 h.2
   rw[←h.1];exact this
  exact ih e
theorem gy:∀(more kvs:List (Key×V)),(br kvs more).length≤kvs.length+more.length
 | [],kvs=>by show kvs.length≤kvs.length+0;omega
 | p::r,kvs=>by
  have h1:=gy r (putK kvs p.1 p.2)
  have h2:=gj kvs p.1 p.2
  show(br (putK kvs p.1 p.2) r).length≤_
  rw[List.length_cons];omega
theorem qi {P:Program} {w:World}:∀{kvs:List (Key×V)} {ws:List (Value×Value)},VV (kvs.map fun kv=>(kV kv.1,kv.2)) ws→∃rs,Carries (aV P w) ws rs∧KV kvs rs
 | [],_,r=>by rw[List.map_nil] at r;cases r;exact⟨[],True.intro,.nil⟩
 | p::kvs,_,r=>by
  rw[List.map_cons] at r
  cases r with
  | @cons a b as bs h t=>
   obtain⟨rs,c,q⟩:=qi (P:=P) (w:=w) t
   obtain⟨b1,b2⟩:=b
   exact⟨(p.1,b2)::rs,⟨j4 h.1,rfl,c⟩,.cons ⟨rfl,h.2⟩ q⟩
def Ng (qh:List (TE×TE)):TE:=fun σ H Q=>∀p,H p=none→wg qh σ (upd H p (.dK [])) fun ps H2=>H2 p=some (.dK [])∧∃kvs:List (Key×V),ps=kvs.map (fun kv=>(kV kv.1,kv.2))∧kvs.length≤15∧Q (.ref p) (upd H2 p (.dK (br [] kvs)))
theorem HA {X:Cx} {pos:Pos} {keys:List (Option Expr)} {values:List Expr} {qh:List (TE×TE)} (h:BG X pos keys values qh) (hall:keys.all (·.isSome)=true) (hl:keys.length=values.length) (h0:keys≠[])
  (h15:keys.length≤15):PE X (.Dict keys values pos) (Ng qh):=by
 intro pins s σ H Q I q
 have hn:=I.hok.fresh (Nat.le_refl s.heap.objs.size)
 have I1:=I.laid (a:=s.heap.objs.size) (o:=.dK []) (h':=s.heap.push {cls:=.type "dict",data:=.dict #[]}) (t':=s.toks) (fun _ _ q=>Heap.get?_push_of_some _ q) (Nat.le_refl _) (wc s.heap I.big)
 refine wpAny_Dict_walk (knd:=aV X.prog X.w) hall hl h0 h15 (aE (h pins _ σ _ _ I1 (q _ hn)) fun ws s2 ⟨ps,H2,I2,rel,e,kvs,ep,lk,q2⟩=>?_)
 subst ep
 obtain⟨rs,c,rk⟩:=qi (P:=X.prog) (w:=X.w) rel
 obtain⟨z,hd,UW,r0,dd⟩:=zW I2.hok e
 cases r0
 refine⟨rs,c,dd,fun h' kX hs=>⟨.ref s.heap.objs.size,_,?_,rfl,q2⟩⟩
 have hz:(br [] kvs).length≤sizeLine:=by
  have h1:=gy kvs []
  rw[List.length_nil] at h1
  rw[sizeLine_eq];omega
 have he:∃q,h'.get? s.heap.objs.size=some q:=let ⟨q,_,_,hq,_⟩:=kX;⟨q,hq⟩
 exact kU I2 (by rw[e];exact True.intro) hs he (BE hz hd (rk.merge .nil) kX)
structure M2 (X:Cx) (o:Expr) (m:Str) (apos:Pos) (e f:Expr) (cpos:Pos):Prop where
 base:attributeBase o m X.env (eval o X.env)=eval o X.env
 few:((backTo cpos (starEach [e,f] X.env)).all (fun x=> !x.1)&&(backToKw cpos (keywordEach [] X.env)).all (fun x=>x.1.isSome)
  &&decide (([e,f]:List Expr).length+([]:List Keyword).length+(if([]:List Keyword).isEmpty then 0 else 1)<30))=true
 line:(apos.endLine == cpos.line)=true
 trees:backTo cpos (starEach [e,f] X.env)=[(false,eval e X.env),(false,eval f X.env)]
def Oa (H:Hp) (a:Addr):Prop:=(∃kvs,Rd H a (.dK kvs))∨∃kvs,Rd H a (.dT kvs)
theorem Jf {X:Cx} {pins:List (Addr×Obj)} {σ:St} {H:Hp} {s:Shared} {a:Addr} (I:Inv X pins σ H s) (d:Oa H a):
  s.TypeIs (.ref a) "dict"∧(∀b,Value.ref a=.ref b→∃ob,s.heap.get? b=some ob∧ob.dict=none)∧(a == sysModules)=false:=by
 rcases d with⟨kvs,e⟩ | ⟨kvs,e⟩
 ·obtain⟨_,hd,vs,_,dd⟩:=lU I.hok e
  refine⟨dd.typeIs,fun b q=>?_,hd⟩
  cases q
  obtain⟨ob,_,_,h1,h2,_⟩:=dd
  exact⟨ob,h1,h2.2.1⟩
 ·obtain⟨_,hd,xs,_,dd⟩:=oy I.hok e
  refine⟨dd.typeIs,fun b q=>?_,hd⟩
  cases q
  obtain⟨ob,_,_,h1,h2,_⟩:=dd
  exact⟨ob,h1,h2.2.1⟩
section
variable {X:Cx} {pins:List (Addr×Obj)} {σ:St} {H:Hp} {s:Shared} {a:Addr} {y d:V} {u r:Value} {o:Option V} {A:Around} {E:Value→Shared→Prop}
theorem Jg {Q:Value→Shared→Prop} (hu:A.units+1<cLine) (I:Inv X pins σ H s) (g:lV H a y o) (ry:RelV y u) (rd:RelV d r) (h:∀w' s',Inv X pins σ H s'→RelV (o.getD d) w'→Q w' s'):
  wpAny (model X.prog X.w) A (call (.builtin "dict.get") [.ref a,u,r]) Q E s:=by
 rcases g with⟨kvs,k,e,ey,l⟩ | ⟨kvs,k,b,e,ey,eb,l⟩
 ·subst ey
  obtain⟨z,hd,vs,rel,dd⟩:=lU I.hok e
  refine call_meetsIn PySem.F.slot_dict_get dd.typeIs PySem.F.entry_dict_get (PySem.F.args_dict_get_3 _ _ _) (meets_dict_get_default (aV X.prog X.w) a (j4 ry) hd r) ⟨_,dd.mapOf,h _ _ (I.tok _) ?_⟩
  rw[l]
  exact(rel.val k).getD rd
 ·subst ey
  cases(show u=Value.ref b from ry)
  obtain⟨z,hd,xs,rel,dd⟩:=oy I.hok e
  refine call_meetsIn PySem.F.slot_dict_get dd.typeIs PySem.F.entry_dict_get (PySem.F.args_dict_get_3 _ _ _) (meetsH_dict_get_default (tupleKind (aV X.prog X.w)) a b hd r) ⟨tupleKind_room_in1 hu,k,xs,nJ I.hok eb,dd,h _ _ (I.tok _) ?_⟩
  rw[l]
  exact(rel.val k).getD rd
end
def Jh (td ty tx:TE):TE:=fun σ H Q=>td σ H fun x H1=>∃a,x=.ref a∧Oa H1 a∧ty σ H1 fun y H2=>tx σ H2 fun z H3=>∃o,lV H3 a y o∧Q (o.getD z) H3
section
variable {X:Cx} {o e f:Expr} {apos cpos:Pos} {td ty tx:TE}
theorem pz (hu:X.A.units+1<cLine) (ho:PE X o td) (he:PE X e ty) (hf:PE X f tx) (m:M2 X o "get" apos e f cpos):PE X (.Call (.Attribute o "get" apos) [e,f] [] cpos) (Jh td ty tx):=by
 intro pins s σ H Q I h
 refine wpAny_Call_method m.base m.few m.line PySem.F.plainAttrs_dict PySem.F.slot_dict_get PySem.F.type_dict_get (aE (ho pins s σ H _ I h) fun u s1 ⟨x,H1,I1,rx,a,ex,d,q1⟩=>?_)
 subst ex
 obtain rfl:u=Value.ref a:=rx
 obtain⟨t1,t2,_⟩:=Jf I1 d
 refine⟨t1,t2,?_⟩
 rw[m.trees]
 refine Calls.callWith_builtin rfl (Calls.evalArgs_plain (Calls.spliced_cons (aE (he pins s1 σ H1 _ I1 q1) fun iv s2 ⟨y,H2,I2,ry,q2⟩=>
  Calls.spliced_cons (aE (hf pins s2 σ H2 _ I2 q2) fun fv s3 ⟨z,H3,I3,rz,ov,g,q3⟩=>Calls.spliced_nil ?_))))
 exact Jg hu I3 g ry rz fun w' s4 I4 jH=>⟨_,H3,I4,jH,q3⟩
end
section
variable {X:Cx} {pins:List (Addr×Obj)} {σ:List (Option V)} {H H':Hp} {s:Shared} {h':Heap}
theorem Inv.lX {t':Nat} {ch:List Addr} {p:Addr} {o:HO} (I:Inv X pins σ H s) (hf:∀b∈ch,fi X pins H b)
  (k:∀b u,b ∉ ch→s.heap.get? b=some u→h'.get? b=some u) (hp:s.heap.objs.size≤p) (new:bb X.prog X.w (upd H p o) h' p o):
  Inv X pins σ (upd H p o) {s with heap:=h',toks:=t'}:=by
 have hn:H p=none:=I.hok.fresh hp
 have nz:∀b u,H b=some u→b ∉ ch:=fun b u e z=>by have q:=(hf b z).1;rw[e] at q;cases q
 have old:∀b u,s.heap.get? b=some u→b≠p:=fun b u e=>Nat.ne_of_lt (Nat.lt_of_lt_of_le (Heap.lt_size e) hp)
 have qj:∀b u,H b=some u→upd H p o b=some u:=fun b u e=>by rw[au (av e hn)];exact e
 refine I.step (g':=s.gens) (d':=s.drawn) (ch:=ch) (fun b hb=>?_) (fun b o _ _ hc e _=>k b o hc e) (fun b o _ _ hc e _=>⟨o.slots,k b o hc e⟩) (fun b o _ e n=>by rw[au (old b o e)];exact n)
  (fun b o hc e=>⟨o,k b o hc e⟩) (fun b xs e=>qj b _ e) (fun b _ _ e=>qj b _ e) (fun b ps e=>⟨#[],by rw[qj b _ e];simp⟩) (fun m hm=>?_) (fun b u e=>?_) I.bare
 ·obtain⟨f0,f1,f2,f3,f4,f5⟩:=hf b hb
  exact⟨f3,f1,f4,f5⟩
 ·obtain⟨ob,es,ep,ho,r⟩:=hm
  exact⟨ob,es,ep,k _ ob (fun z=>(hf _ z).2.1 rfl) ho,r⟩
 ·by_cases hb:b=p
  ·subst hb;rw[af] at e;cases e;exact new
  ·rw[au hb] at e
   refine(I.hok b u e).stay (fun c v hc q=>k c v ?_ q) (fun c q=>qj c _ q) fun c xs q=>qj c _ q
   rcases hc with z | z
   ·rw[z];exact nz b u e
   ·exact nz c _ z
end
def BH (K:PySem.W.Frag) (a:Addr):It:=
 ⟨fun i H=>∃xs x,a_ K H a xs∧xs[i]? =some x,
  fun i H x H'=>∃y p,(∀xs,a_ K H a xs→xs[i]? =some y)∧H p=none∧x=.ref p∧H'=upd H p (.tup [.int i,y]),
  fun i H=>∃xs,a_ K H a xs∧xs.length≤i⟩
theorem BI {P:Program} {w:World} {K:PySem.W.Frag} {elts:List Expr} {x1} {tpos:Pos} (a e it:Addr) (hne:e≠it):
  Turn P w K (.Tuple elts x1 tpos) (BH K a) [e,it] e (fun i h=>(∃old,IsEnum h e it i old)∧h.IsListIter it a i) where
 mem:=by simp
 obj:=fun i h st b hb=>by
  obtain⟨⟨old,st1⟩,st2⟩:=st
  rcases List.mem_cons.mp hb with z | z
  ·subst z;exact⟨_,st1,fun v z=>by cases z⟩
  ·have z':b=it:=by simpa using z
   subst z'
   obtain⟨o,e,c,d⟩:=st2
   exact⟨o,e,fun v z=>by rw[d] at z;cases z⟩
 keep:=fun i h h' st k=>by
  obtain⟨⟨old,st1⟩,st2⟩:=st
  exact⟨⟨old,k e (by simp) _ st1⟩,st2.at fun o q=>k it (by simp) o q⟩
 item:=by
  intro X hP hw hK hc i pins s σ H E I hf st hg
  subst hP hw hK
  obtain⟨⟨old,st1⟩,st2⟩:=st
  obtain⟨xs,x,hq,hx⟩:=hg
  obtain⟨its,rv,p,hz⟩:=I.list hq
  obtain⟨u,hu,ru⟩:=rv.get hx
  refine wpAny_pyNext_enum_item st1 st2 p.isList (x:=u) (by simpa using hu) hne fun h1 eo UX ht hsz kk=>?_
  have nn:H s.heap.objs.size=none:=I.hok.fresh (Nat.le_refl _)
  have I1:Inv X pins σ (upd H s.heap.objs.size (.tup [.int i,x])) {s with heap:=h1,toks:=s.toks+1}:=
   I.lX (ch:=[e,it]) hf (fun b o hb q=>kk b o (fun z=>hb (by simp[z])) (fun z=>hb (by simp[z])) q) (Nat.le_refl _)
    ⟨⟨by show 2≤sizeLine;decide,_,ht,rfl⟩,[.int i s.toks,u],.cons ⟨_,rfl⟩ (.cons ru .nil),⟨_,ht,rfl,_,rfl⟩⟩
  have le:e<s.heap.objs.size:=Heap.lt_size st1
  have li:it<s.heap.objs.size:=by obtain⟨o,q,_⟩:=id st2;exact Heap.lt_size q
  refine⟨_,rfl,wpAny_letOwnedTupleGo_enum eo fun h2 e2 sb=>?_⟩
  obtain⟨f0,f1,f2,f3,f4,f5⟩:=hf e (by simp)
  have I2:=I1.turned (h':=h2) (t':=s.toks+1) (it:=e) (fun b o hb q=>(sb.2 b hb).trans q) (by rw[au (Nat.ne_of_lt le)];exact f0) f1 f3 f4 f5
  refine⟨.ref s.heap.objs.size,_,I2,rfl,⟨x,s.heap.objs.size,fun ys hy=>by rw[I.ie hy hq];exact hx,nn,rfl,rfl⟩,⟨⟨u,by simpa using e2⟩,UX.at fun o q=>(sb.2 it (Ne.symm hne)).trans q⟩,fun b hb=>?_⟩
  rcases List.mem_cons.mp hb with z | z
  ·subst z;rw[au (Nat.ne_of_lt le)];exact f0
  ·have z':b=it:=by simpa using z
   subst z';rw[au (Nat.ne_of_lt li)];exact(hf b (by simp)).1
 done:=by
  intro X hP hw hK hc i pins s σ H E I hf st hg
  subst hP hw hK
  obtain⟨⟨old,st1⟩,st2⟩:=st
  obtain⟨xs,hq,hx⟩:=hg
  obtain⟨its,rv,p,hz⟩:=I.list hq
  obtain⟨f0,f1,f2,f3,f4,f5⟩:=hf it (by simp)
  have hl:=rv.length
  exact wpAny_pyNext_enum_end (I.ok.hd hc) st1 st2 p.isList (by simp;omega) fun h' eb=>⟨rfl,I.turned (t':=s.toks) (fun b o hb e=>eb b o hb e) f0 f1 f3 f4 f5⟩
 self:=fun _ _ _ _ _ st h=>by
  obtain⟨⟨old,st1⟩,st2⟩:=st
  exact wpAny_pyIter_enum st1 h
def Nh (K:PySem.W.Frag) (ta:TA):TI:=fun σ H R=>ta σ H fun vs H1=>∃a,vs=[.ref a]∧(∃xs,a_ K H1 a xs)∧R (BH K a) H1
theorem HB {X:Cx} {elts:List Expr} {x1} {tpos:Pos} {a:Expr} {ta:TA} {p pos:Pos} (hg:Gl X "enumerate") (hm:X.mg "enumerate"=none) (ha:PA X [a] ta) (hs:starEach [a] X.env=[(false,eval a X.env)]:=by rfl):
  PI X (.Tuple elts x1 tpos) (.Call (.Name "enumerate" p) [a] [] pos) (Nh X.K ta):=by
 intro pins s σ H R I h
 refine Call_ (gi I hg hm boot_enumerate (PyProof.Rows.callWith_type1 (aE (ha pos pins s σ H _ I h) fun us s1 ⟨vs,H1,I1,r1,q1⟩=>?_) hs rfl))
 obtain⟨l,e,⟨xs,hq⟩,q⟩:=q1
 subst e
 cases r1 with
 | cons r rr=>
  cases rr
  cases r
  obtain⟨its,rv,pl,hz⟩:=I1.list hq
  refine call_enumerate_list pl.isList fun h' he hit hsz kk=>?_
  have I2:Inv X pins σ H1 {s1 with heap:=h'}:=I1.kept (t':=s1.toks) kk
  refine wpAny_pyIter_enum he ?_
  refine⟨s1.heap.objs.size+1,[s1.heap.objs.size+1,s1.heap.objs.size],_,_,H1,rfl,I2,BI l _ _ (Nat.succ_ne_self _),⟨⟨_,by simpa using he⟩,hit⟩,fun b hb=>?_,q⟩
  rcases List.mem_cons.mp hb with z | z
  ·subst z;exact I1.jc (Nat.le_succ _) (I1.hok.fresh (Nat.le_succ _))
  ·have z':b=s1.heap.objs.size:=by simpa using z
   subst z';exact I1.jc (Nat.le_refl _) (I1.hok.fresh (Nat.le_refl _))
theorem Eo {K:PySem.W.Frag} {a:Addr} {xs:List V} {g:TG} {tb:TS} {D:Ends} {σ:St} {H:Hp} (Pv:Nat→St→Hp→Prop) (h0:Pv 0 σ H) (hl:∀i σ H,i≤xs.length→Pv i σ H→a_ K H a xs)
  (hs:∀i x p σ H,xs[i]? =some x→Pv i σ H→H p=none→g (.ref p) σ (upd H p (.tup [.int i,x])) fun σ2 H2=>tb {D with nx:=Pv (i+1),ct:=Pv (i+1),bk:=D.nx} σ2 H2) (hd:∀σ H,Pv xs.length σ H→D.nx σ H):
  ∃W:Nat→Nat→St→Hp→Prop,(∃m,W 0 m σ H)∧∀i m σ H,W i m σ H→
   ((BH K a).stop i H∧D.nx σ H)∨((BH K a).go i H∧∃N:St→Hp→Prop,(∀σ' H',N σ' H'→∃m',m'<m∧W (i+1) m' σ' H')∧∀x H',(BH K a).nF i H x H'→g x σ H' fun σ2 H2=>tb {D with nx:=N,ct:=N,bk:=D.nx} σ2 H2):=by
 refine⟨fun i m σ H=>m=xs.length-i∧i≤xs.length∧Pv i σ H,⟨xs.length,by simp,Nat.zero_le _,h0⟩,?_⟩
 rintro i m σ H ⟨rfl,hi,p⟩
 have q:=hl i σ H hi p
 by_cases hlt:i<xs.length
 ·refine .inr ⟨⟨xs,xs[i],q,by simp[hlt]⟩,Pv (i+1),fun σ' H' p'=>⟨xs.length-(i+1),by omega,rfl,hlt,p'⟩,fun x H' y=>?_⟩
  obtain⟨z,pa,hz,hn,e1,e2⟩:=y
  subst e1 e2
  exact hs i z pa σ H (hz xs q) p hn
 ·have e:i=xs.length:=by omega
  subst e
  exact .inl ⟨⟨xs,q,Nat.le_refl _⟩,hd σ H p⟩
def gc (env:Env):List (Str×NameKind)→List (Str×Addr)→List (Str×Addr)
 | [],cs=>cs
 | (n,k)::r,cs=>gc env r (if k == .free then(n,(env.cells.lookup n).getD 0)::cs else cs)
theorem qk {env:Env}:∀(names:List (Str×NameKind)) (cs:List (Str×Addr)),(∀y∈names,y.2=.free→∃c,env.cells.lookup y.1=some c)→
  (forIn names cs fun(x:Str×NameKind) (r:List (Str×Addr))=>(match x with
   | (name,kind)=>if(kind == NameKind.free)=true then(cellOf env name >>= fun a=>pure (ForInStep.yield ((name,a)::r)):Sem (ForInStep (List (Str×Addr)))) else pure (ForInStep.yield r)))=pure (gc env names cs)
 | [],cs,_=>rfl
 | (n,k)::r,cs,h=>by
  have ih:=fun cs'=>qk r cs' fun y hy=>h y (List.mem_cons_of_mem _ hy)
  rw[List.forIn_cons]
  by_cases hk:k=.free
  ·subst hk
   obtain⟨c,hc⟩:=h (n,.free) List.mem_cons_self rfl
   have e:cellOf env n=pure c:=by unfold cellOf;rw[hc]
   simp only[beq_self_eq_true,if_true,e,pure_bind]
   rw[ih]
   show _=pure (gc env r (if(NameKind.free == NameKind.free)=true then _ else _))
   rw[hc];rfl
  ·have hb:(k == NameKind.free)=false:=by simpa using hk
   simp only[hb,Bool.false_eq_true,if_false,pure_bind]
   rw[ih]
   show _=pure (gc env r (if(k == NameKind.free)=true then _ else _))
   rw[hb];rfl
theorem j5 {env:Env} {scope:Scope} (h:∀y∈scope.names,y.2=.free→∃c,env.cells.lookup y.1=some c):closureFor scope env=pure (gc env scope.names []):=by
 unfold closureFor
 have e:=qk (env:=env) scope.names [] h
 show((forIn scope.names [] _:Sem (List (Str×Addr))) >>= fun cs=>pure cs)=_
 rw[bind_pure]
 refine Eq.trans ?_ e
 first
  | rfl
  | (congr 1;funext x r;obtain⟨n,k⟩:=x;dsimp only;split<;>simp)
theorem wj {env:Env} {x:Str} {c:Addr}:∀(names:List (Str×NameKind)) (cs:List (Str×Addr)),(x,c)∈gc env names cs→(x,c)∈cs∨((x,NameKind.free)∈names∧c=(env.cells.lookup x).getD 0)
 | [],cs,h=>.inl h
 | (n,k)::r,cs,h=>by
  have h':(x,c)∈gc env r (if(k == NameKind.free)=true then(n,(env.cells.lookup n).getD 0)::cs else cs):=h
  rcases wj r _ h' with z | ⟨z1,z2⟩
  ·by_cases hk:k=.free
   ·subst hk
    simp only[beq_self_eq_true,if_true,List.mem_cons] at z
    rcases z with z | z
    ·cases z;exact .inr ⟨List.mem_cons_self,rfl⟩
    ·exact .inl z
   ·have hb:(k == NameKind.free)=false:=by simpa using hk
    rw[hb] at z
    exact .inl z
  ·exact .inr ⟨List.mem_cons_of_mem _ z1,z2⟩
theorem tT {env:Env} {p:Str×Addr}:∀(names:List (Str×NameKind)) (cs:List (Str×Addr)),p∈cs→p∈gc env names cs
 | [],cs,h=>h
 | (n,k)::r,cs,h=>by
  show p∈gc env r (if(k == NameKind.free)=true then(n,(env.cells.lookup n).getD 0)::cs else cs)
  refine tT r _ ?_
  split
  ·exact List.mem_cons_of_mem _ h
  ·exact h
theorem wk {env:Env} {x:Str}:∀(names:List (Str×NameKind)) (cs:List (Str×Addr)),(x,NameKind.free)∈names→(x,(env.cells.lookup x).getD 0)∈gc env names cs
 | [],_,h=>by cases h
 | (n,k)::r,cs,h=>by
  show _∈gc env r (if(k == NameKind.free)=true then(n,(env.cells.lookup n).getD 0)::cs else cs)
  rcases List.mem_cons.mp h with z | z
  ·cases z
   exact tT r _ (by simp)
  ·exact wk r _ z
theorem kZ {α β:Type} [BEq α] [LawfulBEq α] {x:α} {c:β}:∀{l:List (α×β)},l.lookup x=some c→(x,c)∈l
 | [],h=>by simp at h
 | (n,k)::r,h=>by
  rw[List.lookup_cons] at h
  by_cases e:x=n
  ·subst e;simp at h;subst h;exact List.mem_cons_self
  ·have:(x == n)=false:=by simpa using e
   rw[this] at h
   exact List.mem_cons_of_mem _ (kZ h)
theorem k_ {α β:Type} [BEq α] [LawfulBEq α] {x:α} {c:β}:∀{l:List (α×β)},(x,c)∈l→∃c',l.lookup x=some c'
 | [],h=>by cases h
 | (n,k)::r,h=>by
  rw[List.lookup_cons]
  by_cases e:x=n
  ·subst e;simp
  ·have q:(x == n)=false:=by simpa using e
   rw[q]
   rcases List.mem_cons.mp h with z | z
   ·cases z;exact absurd rfl e
   ·exact k_ z
theorem dE {env:Env} {x:Str} {k':NameKind}:∀{names:List (Str×NameKind)},
  (names.map fun(n,k)=>if(k == NameKind.free&&env.scope.kind == .function&&env.kindOf n == some .cell) then(n,NameKind.cell) else(n,k)).lookup x=some k'→
  (x,k')∈names∨(k'=.cell∧(x,NameKind.free)∈names)
 | [],h=>by simp at h
 | (n,k)::r,h=>by
  rw[List.map_cons,List.lookup_cons] at h
  dsimp only at h
  by_cases e:x=n
  ·subst e
   by_cases hc:(k == NameKind.free&&env.scope.kind == .function&&env.kindOf x == some .cell)=true
   ·rw[if_pos hc] at h
    simp at h
    have hk:k=.free:=by
     simp only[Bool.and_eq_true,beq_iff_eq] at hc
     exact hc.1.1
    subst hk
    exact .inr ⟨h.symm,List.mem_cons_self⟩
   ·rw[if_neg hc] at h
    simp at h
    subst h
    exact .inl List.mem_cons_self
  ·have q:(x == (if(k == NameKind.free&&env.scope.kind == .function&&env.kindOf n == some .cell)=true then(n,NameKind.cell) else(n,k)).1)=false:=by
    split<;>simpa using e
   rw[q] at h
   rcases dE h with z | ⟨z1,z2⟩
   ·exact .inl (List.mem_cons_of_mem _ z)
   ·exact .inr ⟨z1,List.mem_cons_of_mem _ z2⟩
structure aI (X:Cx) (scope:Scope) (own aM:List Str) (bH:List Nat):Prop where
 cell:∀y∈scope.names,y.2≠.cell
 kind:scope.kind=.function
 names:∀y∈scope.names,y.2=.local→scope.names.lookup y.1=some .local
 free:∀y∈scope.names,y.2=.free→X.env.scope.names.lookup y.1=some .cell∨X.env.scope.names.lookup y.1=some .free
 UY:bH.length=aM.length
 UZ:∀(i j:Nat),bH[i]? =some j→X.N[j]? =aM[i]?
 U_:∀x∈aM,(x,NameKind.free)∈scope.names∧scope.names.lookup x=some .free
def fw (X:Cx) (own aM:List Str) (scope:Scope) (C:Addr) (s₃:Shared) (H₃:Hp) (fp:List Addr):Cx:=
 {X with N:=own++aM,s₀:=s₃,H₀:=H₃,env:=compEnvC scope (gc X.env scope.names []) C X.env,outer:=X.stack,stack:=X.stack,ex:=fp,fn:=fun _=>false,pn:=[],xe:=fun _ _=>False}
def wm (own:List Str) (bH:List Nat) (σ:St):St:=List.replicate own.length none++bH.map fun j=>(σ[j]?).join
section
variable {X:Cx} {pins:List (Addr×Obj)} {σ:List (Option V)} {H:Hp} {s:Shared} {scope:Scope} {own aM:List Str} {bH:List Nat}
theorem aI.cells (sc:aI X scope own aM bH) (ok:X.Ok):∀y∈scope.names,y.2=.free→∃c,X.env.cells.lookup y.1=some c:=fun y hy hf=>by
 rcases sc.free y hy hf with z | z
 ·exact ok.has y.1 (.inl z)
 ·exact ok.has y.1 (.inr z)
theorem aI.look (sc:aI X scope own aM bH) (ok:X.Ok) {x:Str} {c:Addr} (h:(gc X.env scope.names []).lookup x=some c):X.env.cells.lookup x=some c∧(x,NameKind.free)∈scope.names:=by
 rcases wj _ _ (kZ h) with z | ⟨z1,z2⟩
 ·cases z
 ·obtain⟨c',hc⟩:=sc.cells ok (x,.free) z1 rfl
  have hc':X.env.cells.lookup x=some c':=hc
  rw[hc'] at z2
  have z3:c=c':=z2
  subst z3
  exact⟨hc',z1⟩
theorem aI.Ga (sc:aI X scope own aM bH) (ok:X.Ok) {x:Str} (h:(x,NameKind.free)∈scope.names):∃c,(gc X.env scope.names []).lookup x=some c∧X.env.cells.lookup x=some c:=by
 obtain⟨c,hc⟩:=k_ (wk (env:=X.env) scope.names [] h)
 exact⟨c,hc,(sc.look ok hc).1⟩
theorem Inv.block {fp:List Addr} {h₄:Heap} {tk:Nat} (I:Inv X pins σ H s) (sc:aI X scope own aM bH) (hfp:∀b∈fp,fi X pins H b) (hfl:∀b∈fp,b<s.heap.objs.size)
  (k:∀b o,s.heap.get? b=some o→h₄.get? b=some o) (hn:h₄.Ns s.heap.objs.size fun _=>none):
  Inv (fw X own aM scope s.heap.objs.size s H fp) [] (wm own bH σ) H {s with heap:=h₄,toks:=tk}:=by
 have ok:=I.ok
 refine⟨⟨ok.mod,by show(relabel scope X.env).kind=_;exact sc.kind,ok.glob,ok.blt,Nat.le_refl _,?_,?_,fun x c h=>(nomatch h),ok.hd,ok.frames,.inl rfl,?_,fun b o e=>I.bs b o e,Nat.le_trans ok.oQ I.sz,?_,?_,I.stack,I.kO⟩,rfl,I.bare,Un.kept k,?_,?_,I.fresh,?_,fun p hp=>(nomatch hp),I.hok.kept k,?_⟩
 ·intro x y c e1 e2
  exact ok.inj x y c (sc.look ok e1).1 (sc.look ok e2).1
 ·intro x h
  have mem:(x,NameKind.free)∈scope.names:=by
   rcases h with h | h
   ·rcases dE h with z | ⟨_,z⟩
    ·exact absurd rfl (sc.cell _ z)
    ·exact z
   ·rcases dE h with z | ⟨z,_⟩
    ·exact z
    ·cases z
  obtain⟨c,hc,_⟩:=sc.Ga ok mem
  exact⟨c,hc⟩
 ·intro b hb
  obtain⟨f0,f1,f2,f3,f4,f5⟩:=hfp b hb
  exact⟨Nat.ne_of_lt (hfl b hb),fun x c e=>f4 x c (sc.look ok e).1⟩
 ·intro b o e hb
  rcases(hfp b hb).2.2.2.1 with z | z
  ·exact ok.vO b o e z
  ·exact absurd (Nat.lt_of_lt_of_le (Heap.lt_size e) (Nat.le_trans ok.oQ z)) (Nat.lt_irrefl _)
 ·intro b hb hfs
  obtain⟨f0,f1,f2,_⟩:=hfp b hb
  rcases List.mem_cons.mp (I.ny b hfs) with z | z
  ·exact f1 z
  ·exact f2 z
 ·refine⟨_,hn,fun i x v e1 e2 e3=>?_⟩
  have e1':(own++aM)[i]? =some x:=e1
  have e2':(List.replicate own.length none++bH.map fun j=>(σ[j]?).join)[i]? =some (some v):=e2
  by_cases hi:i<own.length
  ·rw[List.getElem?_append_left (by simpa using hi)] at e2'
   rw[List.getElem?_replicate] at e2'
   split at e2'<;>cases e2'
  ·rw[List.getElem?_append_right (by simp;omega),List.length_replicate] at e2'
   rw[List.getElem?_append_right (by omega)] at e1'
   rw[List.getElem?_map] at e2'
   cases ej:bH[i-own.length]? with
   | none=>rw[ej] at e2';cases e2'
   | some j=>
    rw[ej] at e2'
    have zX:(σ[j]?).join=some v:=by simpa using e2'
    have e4:σ[j]? =some (some v):=by
     cases q:σ[j]? with
     | none=>rw[q] at zX;cases zX
     | some o=>rw[q] at zX;simpa using zX
    have e5:=(sc.UZ _ j ej).trans e1'
    obtain⟨hm,hlk⟩:=sc.U_ x (List.mem_of_getElem? e1')
    obtain⟨m,YE,hl⟩:=I.loc
    have hv:yK X.env.scope x:=by
     rcases sc.free (x,.free) hm rfl with z | z
     ·exact .inr (.inl z)
     ·exact .inr (.inr z)
    obtain⟨u,r,lk⟩:=hl j x v e5 e4 hv
    refine⟨u,r,.inr ?_⟩
    obtain⟨c,hc,hc'⟩:=sc.Ga ok hm
    have Ji:h₄.IsCell c (some u):=by
     rcases lk with⟨z,_⟩ | ⟨_,c',hx,⟨o,ho,hd⟩⟩
     ·exfalso
      have z':X.env.scope.names.lookup x=some .local:=z
      rcases sc.free (x,.free) hm rfl with q | q
      ·rw[show X.env.scope.names.lookup x=some .cell from q] at z';cases z'
      ·rw[show X.env.scope.names.lookup x=some .free from q] at z';cases z'
     ·rw[hc'] at hx;cases hx
      exact⟨o,k _ o ho,hd⟩
    refine⟨?_,c,hc,Ji⟩
    have e3':yK (relabel scope X.env) x:=e3
    rcases e3' with z | z | z
    ·exfalso
     rcases dE z with q | ⟨q,_⟩
     ·have:=sc.names _ q rfl
      rw[show scope.names.lookup x=some .local from this] at hlk
      cases hlk
     ·cases q
    ·exact .inl z
    ·exact .inr z
 ·intro x c e
  obtain⟨v,o,ho,hd⟩:=I.cell x c (sc.look ok e).1
  exact⟨v,o,k _ o ho,hd⟩
 ·intro x c e
  exact I.fN x c (sc.look ok e).1
 ·show(List.replicate own.length none++bH.map fun j=>(σ[j]?).join).length=(own++aM).length
  simp[sc.UY]
end
theorem lY {prog:Program} {w:World} {A:Around} {R:Result→Shared→Prop} {s:Shared} {elt target iter:Expr} {ifs:List Expr} {scope:Scope} {pos:Pos} {it acc:Value} {env:Env} (I:Nat→Shared→Prop)
  (turn:∀n s,I n s→wpAny (model prog w) A (pyNext it) (fun r s₁=>match r with
   | none=>R (.ok .next) s₁
   | some v=>wpAny (model prog w) A (letOwnedTupleGo target it v) (fun _ s₁'=>wpAny (model prog w) A (assign target env v) (fun _ s₂=>
     wpAny (model prog w) A (forIn ifs true fun c r=>if r=true then do let ok ←isTrue c env (eval c env);pure (ForInStep.yield ok) else pure (ForInStep.yield r)) (fun ok s₃=>
      if ok=true then wpAny (model prog w) A (eval elt env) (fun x s₄=>
       wpAny (model prog w) A (call (.builtin "list.append") [acc,x]) (fun _ s₅=>∃m,m<n∧I m s₅) (fun _ _=>False) s₄) (fun _ _=>False) s₃
      else ∃m,m<n∧I m s₃) (fun _ _=>False) s₂) (fun _ _=>False) s₁') (fun _ _=>False) s₁) (fun _ _=>False) s)
  (n:Nat) (h:I n s):
  codeAny (model prog w) A (.compLoop (.ListComp elt [⟨target,iter,ifs,0⟩] scope pos) 0 it acc env) R s:=by
 refine codeAny_loop rfl I (fun n s hI=>?_) n h
 show wpAny _ A ((compTurn (.ListComp elt [⟨target,iter,ifs,0⟩] scope pos) 0 it acc env).onRaise (fun x=>do noteFrame x env;theTreesLotGoes x)) _ _ s
 refine wpAny_noted ?_
 rw[compTurn_list]
 refine wpAny_bind (wpAny_standAt (wpAny_bind (wpAny_mono (turn n s hI) (fun r s₁ h₁=>?_) fun _ _ h'=>h'.elim)))
 cases r with
 | none=>exact wpAny_pure h₁
 | some v=>
  refine wpAny_bind (wpAny_mono h₁ (fun _ s₁' h₁'=>?_) fun _ _ h'=>h'.elim)
  refine wpAny_bind (wpAny_mono h₁' (fun _ s₂ h₂=>wpAny_bind (wpAny_mono h₂ (fun ok s₃ h₃=>?_) fun _ _ h'=>h'.elim)) fun _ _ h'=>h'.elim)
  cases ok with
  | false=>exact wpAny_pure ⟨rfl,h₃⟩
  | true=>
   exact wpAny_bind (wpAny_bind (wpAny_mono h₃ (fun x s₄ h₄=>wpAny_bind (wpAny_mono h₄ (fun _ s₅ h₅=>wpAny_pure (wpAny_pure ⟨rfl,h₅⟩)) fun _ _ h'=>h'.elim)) fun _ _ h'=>h'.elim))
def rG (X:Cx) (ifs:List Expr) (t:TT):Prop:=
 ∀(pins:List (Addr×Obj)) (s:Shared) (σ:St) (H:Hp) (Q:Bool→Hp→Prop),Inv X pins σ H s→t σ H Q→
  wpAny (model X.prog X.w) X.A (forIn ifs true fun c r=>if r=true then do let ok ←isTrue c X.env (eval c X.env);pure (ForInStep.yield ok) else pure (ForInStep.yield r)) (TP X pins σ Q) X.xe s
def Ni:TT:=fun _ H Q=>Q true H
theorem bM {X:Cx}:rG X [] Ni:=fun _ _ _ H _ I h=>wpAny_tests_nil ⟨H,I,h⟩
theorem lZ {X:Cx} {c:Expr} {t:TT} (h:PT X c t):rG X [c] t:=fun pins s σ H Q I hq=>wpAny_tests_one (h pins s σ H Q I hq)
def md (J:It) (g:TG) (tt:TT) (te:TE) (D:Addr) (σ:St) (H:Hp) (R:Hp→Prop):Prop:=
 ∃W:Nat→Nat→St→Hp→Prop,(∃m,W 0 m σ H)∧∀i m σ H,W i m σ H→(J.stop i H∧R H)∨(J.go i H∧∃N:St→Hp→Prop,(∀σ' H',N σ' H'→∃m',m'<m∧W (i+1) m' σ' H')∧
  ∀x H',J.nF i H x H'→g x σ H' fun σ2 H2=>tt σ2 H2 fun b H3=>if b=true then te σ2 H3 fun y H4=>∃ys,H4 D=some (.lst ys)∧ys.length<sizeLine∧N σ2 (upd H4 D (.lst (ys++[y]))) else N σ2 H3)
section
variable {X:Cx} {scope:Scope} {own aM:List Str} {bH:List Nat} {elt tg iter:Expr} {ifs:List Expr} {pos:Pos} {g:TG} {tt:TT} {te:TE}
theorem ql {pins:List (Addr×Obj)} {σ:St} {H:Hp} {s:Shared} {J:It} {fp:List Addr} {it:Addr} {tn:Nat→Heap→Prop} {R:Addr→Hp→Prop} {RR:Value→Addr→Result→Shared→Prop} {E:Value→Shared→Prop}
  (sc:aI X scope own aM bH) (hc:X.calm=true)
  (hg:∀C s₃ H₃ fp,PG (fw X own aM scope C s₃ H₃ fp) tg g) (ht:∀C s₃ H₃ fp,rG (fw X own aM scope C s₃ H₃ fp) ifs tt) (he:∀C s₃ H₃ fp,PE (fw X own aM scope C s₃ H₃ fp) elt te)
  (I:Inv X pins σ H s) (T:Turn X.prog X.w X.K tg J fp it tn) (st:tn 0 s.heap) (hfp:∀b∈fp,fi X pins H b)
  (h:∀D,H D=none→md J g tt te D (wm own bH σ) (upd H D (.lst [])) (R D))
  (hRR:∀D C H' s' m,Inv X pins σ H' s'→s.heap.objs.size≤C→s'.heap.Ns C m→H' C=none→R D H'→RR (.ref D) C (.ok .next) s'):
  wpAny (model X.prog X.w) X.A (newList []) (fun acc s₃=>wpAny (model X.prog X.w) X.A (newFunctionEnv scope X.env.globals (gc X.env scope.names []) [] X.env.qual none .none (some X.env)) (fun cenv s₄=>
   codeAny (model X.prog X.w) X.A (.compStart (.ListComp elt [⟨tg,iter,ifs,0⟩] scope pos) 0 (.ref it) acc {cenv with scope:=relabel scope X.env}) (RR acc cenv.locals) s₄) E s₃) E s:=by
 refine wpAny_newObj_type (wpAny_newFunctionEnv sc.cell (by intro y hy;simp at hy) (fun h₁ hns₁ hsb₁=>?_) sc.kind)
 dsimp only at hns₁ hsb₁ ⊢
 have hD:=I.fresh
 have I3:Inv X pins σ (upd H s.heap.objs.size (.lst [])) {s with heap:=s.heap.push {cls:=.type "list",dict:=none,data:=.seq ([]:List Value).toArray}}:=I.Qz (its:=[]) (t':=s.toks) .nil (Nat.zero_le _)
 have hsz:(s.heap.push {cls:=.type "list",dict:=none,data:=.seq ([]:List Value).toArray}).objs.size=s.heap.objs.size+1:=Heap.size_push ..
 generalize hs3:({s with heap:=s.heap.push {cls:=.type "list",dict:=none,data:=.seq ([]:List Value).toArray}}:Shared)=s₃ at I3
 have hh3:s.heap.push {cls:=.type "list",dict:=none,data:=.seq ([]:List Value).toArray}=s₃.heap:=by rw[←hs3]
 rw[hh3] at hns₁ hsb₁ hsz ⊢
 have hfl:∀b∈fp,b<s.heap.objs.size:=fun b hb=>by
  obtain⟨o,e,_⟩:=T.obj 0 _ st b hb
  exact Heap.lt_size e
 have Ep:∀b∈fp,fi X pins (upd H s.heap.objs.size (.lst [])) b:=fun b hb=>by
  obtain⟨f0,f⟩:=hfp b hb
  exact⟨by rw[au (Nat.ne_of_lt (hfl b hb))];exact f0,f⟩
 have QD:∀b∈fp,b<s₃.heap.objs.size:=fun b hb=>by rw[hsz];exact Nat.lt_succ_of_lt (hfl b hb)
 have k4:∀b o,s₃.heap.get? b=some o→h₁.get? b=some o:=fun b o e=>(hsb₁.2 b (Nat.ne_of_lt (Heap.lt_size e))).trans (Heap.get?_push_of_some _ e)
 have k3:∀b o,s.heap.get? b=some o→s₃.heap.get? b=some o:=fun b o e=>by rw[←hh3];exact Heap.get?_push_of_some _ e
 have hnone:(fun x:Str=>List.lookup x ([]:List (Str×Value)).reverse)=fun _=>none:=by funext x;rfl
 have Nj:h₁.Ns s₃.heap.objs.size fun _=>none:=by
  have q:=hns₁
  first
   | exact q
   | (rw[hnone] at q;exact q)
 have I4:=I3.block (own:=own) (tk:=s.toks+([]:List (Str×Value)).length) sc Ep QD k4 Nj
 have Gb:tn 0 h₁:=T.keep _ _ _ st fun b hb o e=>k4 b o (k3 b o e)
 generalize hX:fw X own aM scope s₃.heap.objs.size s₃ (upd H s.heap.objs.size (.lst [])) fp=X' at I4
 have Ob:X'.prog=X.prog:=by rw[←hX];rfl
 have Oc:X'.w=X.w:=by rw[←hX];rfl
 have U0:X'.K=X.K:=by rw[←hX];rfl
 have U1:X'.A=X.A:=by rw[←hX];rfl
 have Od:X'.calm=true:=by rw[←hX];exact hc
 have U2:X'.xe=fun _ _=>False:=by rw[←hX];rfl
 have U3:X'.env=compEnvC scope (gc X.env scope.names []) s₃.heap.objs.size X.env:=by rw[←hX];rfl
 have hg':PG X' tg g:=by rw[←hX];exact hg _ _ _ _
 have ht':rG X' ifs tt:=by rw[←hX];exact ht _ _ _ _
 have he':PE X' elt te:=by rw[←hX];exact he _ _ _ _
 have U4:∀{H':Hp} {s':Shared} {σ':St},Inv X' [] σ' H' s'→Inv X pins σ H' s'∧(∃m,s'.heap.Ns s₃.heap.objs.size m)∧H' s₃.heap.objs.size=none:=by
  intro H' s' σ' I'
  subst hX
  refine⟨I3.call' (ch:=fp) I'.os I'.base I'.hok I'.bare fun b hb=>?_,let ⟨m,hn,_⟩:=I'.loc;⟨m,hn⟩,I'.free⟩
  obtain⟨f0,f1,f2,f3,f4,f5⟩:=Ep b hb
  exact⟨f3,f1,f4,f5⟩
 have stat:∀{H':Hp},(∀b∈fp,H' b=none)→∀b∈fp,fi X' [] H' b:=by
  intro H' hn b hb
  subst hX
  obtain⟨a1,a2⟩:=I4.ok.IG b hb
  exact⟨hn b hb,a1,I4.ok.vP b hb,.inl hb,a2,fun p hp=>by cases hp⟩
 obtain⟨W,⟨m0,w0⟩,turn⟩:=h s.heap.objs.size hD
 have loop:codeAny (model X.prog X.w) X.A (.compLoop (.ListComp elt [⟨tg,iter,ifs,0⟩] scope pos) 0 (.ref it) (.ref s.heap.objs.size) X'.env) (RR (.ref s.heap.objs.size) s₃.heap.objs.size)
   {s₃ with heap:=h₁,toks:=s.toks+([]:List (Str×Value)).length}:=by
  refine lY (fun n s'=>∃i σ' H',Inv X' [] σ' H' s'∧tn i s'.heap∧(∀b∈fp,H' b=none)∧W i n σ' H') ?_ m0 ⟨0,_,_,I4,Gb,fun b hb=>(Ep b hb).1,w0⟩
  rintro n s5 ⟨i,σ5,H5,I5,yM,FR,w5⟩
  rw[←Ob,←Oc,←U1]
  have Gd:∀{α:Type} {t:Sem α} {Q:α→Shared→Prop} {s:Shared},wpAny (model X'.prog X'.w) X'.A t Q X'.xe s→wpAny (model X'.prog X'.w) X'.A t Q (fun _ _=>False) s:=fun h=>by rw[U2] at h;exact h
  have T':Turn X'.prog X'.w X'.K tg J fp it tn:=by rw[Ob,Oc,U0];exact T
  rcases turn i n σ5 H5 w5 with⟨stop,q⟩ | ⟨go,N,hN,step⟩
  ·refine aE (T'.done X' rfl rfl rfl Od i [] s5 σ5 H5 _ I5 (stat FR) yM stop) fun r s6 ⟨hr,I6⟩=>?_
   subst hr
   obtain⟨J1,⟨m,J2⟩,J3⟩:=U4 I6
   exact hRR _ _ H5 s6 m J1 (by rw[hsz];exact Nat.le_succ _) J2 J3 q
  ·refine aE (T'.item X' rfl rfl rfl Od i [] s5 σ5 H5 _ I5 (stat FR) yM go) fun r s6 ⟨u,hr,h6⟩=>?_
   subst hr
   refine aE h6 fun _ s7 ⟨x,H7,I7,r7,y7,Jj,U5⟩=>?_
   have U6:=I7.pinned (stat U5) (T'.obj _ _ Jj)
   have again:∀{s9:Shared} {σ9:St} {H9:Hp},Inv X' ([]++nG fp s7.heap) σ9 H9 s9→N σ9 H9→∃m,m<n∧∃i σ' H',Inv X' [] σ' H' s9∧tn i s9.heap∧(∀b∈fp,H' b=none)∧W i m σ' H':=fun {s9 σ9 H9} I9 n9=>by
    obtain⟨m',hm,w9⟩:=hN σ9 H9 n9
    refine⟨m',hm,i+1,σ9,H9,I9.lQ,T'.keep _ _ _ Jj fun b hb o e=>(I9.pin (b,o) (List.mem_append_right _ (List.mem_append_right _ (js hb e)))).1,fun b hb=>?_,w9⟩
    obtain⟨o,e,d⟩:=T'.obj _ _ Jj b hb
    exact(I9.pin (b,o) (List.mem_append_right _ (List.mem_append_right _ (js hb e)))).2.1
   refine aE (Gd (hg' _ s7 σ5 H7 x u _ U6 r7 (step x H7 y7))) fun _ s8 ⟨σ8,H8,I8,q8⟩=>?_
   refine aE (Gd (ht' _ s8 σ8 H8 _ I8 q8)) fun b s9 ⟨H9,I9,q9⟩=>?_
   cases b with
   | false=>exact again I9 (by simpa using q9)
   | true=>
    rw[if_pos rfl] at q9
    refine aE (Gd (he' _ s9 σ8 H9 _ I9 q9)) fun y U7 ⟨v,BJ,U8,r10,U9⟩=>?_
    obtain⟨ys,e10,z10,n10⟩:=U9
    refine aE (Gd (fu _ U7 σ8 BJ (.ref s.heap.objs.size) [v] (.ref s.heap.objs.size) [y] (fun _ H'=>H'=upd BJ s.heap.objs.size (.lst (ys++[v]))) U8 rfl (.cons r10 .nil) ⟨_,ys,v,rfl,rfl,e10,z10,rfl⟩)) fun u YF ⟨v',Jk,U',_,Jl⟩=>?_
    subst Jl
    exact again U' n10
 rw[U3] at loop
 have e4:({s with heap:=h₁,toks:=s.toks+([]:List (Str×Value)).length}:Shared)={s₃ with heap:=h₁,toks:=s.toks+([]:List (Str×Value)).length}:=by rw[←hs3]
 rw[e4]
 exact codeAny_compStart_list loop (T.self _ 0 _ _ _ Gb loop)
end
def Ge (own:List Str) (bH:List Nat) (wi:TI) (g:TG) (tt:TT) (te:TE):TE:=fun σ H Q=>wi σ H fun J H1=>∀D,H1 D=none→md J g tt te D (wm own bH σ) (upd H1 D (.lst [])) fun H'=>Q (.ref D) H'
section
variable {X:Cx} {scope:Scope} {own aM:List Str} {bH:List Nat} {elt tg iter:Expr} {ifs:List Expr} {pos:Pos} {wi:TI} {g:TG} {tt:TT} {te:TE}
theorem cz (sc:aI X scope own aM bH) (hc:X.calm=true) (hi:PI X tg iter wi)
  (hg:∀C s₃ H₃ fp,PG (fw X own aM scope C s₃ H₃ fp) tg g) (ht:∀C s₃ H₃ fp,rG (fw X own aM scope C s₃ H₃ fp) ifs tt) (he:∀C s₃ H₃ fp,PE (fw X own aM scope C s₃ H₃ fp) elt te)
  (hs:∀x,foldedSetIterable iter X.env x=pure x:=by intro _;rfl):PE X (.ListComp elt [⟨tg,iter,ifs,0⟩] scope pos) (Ge own bH wi g tt te):=by
 intro pins s σ H Q I h
 rw[eval_ListComp]
 refine wpAny_comprehension_free (use:=none) rfl hs (j5 (sc.cells I.ok)) sc.kind sc.names (aE (hi pins s σ H _ I h) fun v s1 h1=>aE h1 fun itv s2 h2=>?_)
 obtain⟨it,fp,tn,J,H2,e,I2,T,st2,f2,q⟩:=h2
 subst e
 refine ql (RR:=fun acc C=>compPost (model X.prog X.w) X.A X.xe none (EP X pins σ Q) acc C) (R:=fun D H'=>Q (.ref D) H') sc hc hg ht he I2 T st2 f2 q ?_
 intro D C H' s' m I' hC hn hf hq
 refine⟨m,hn,fun h' sb=>?_⟩
 obtain⟨f0,f1,f2,f3,f4,f5⟩:=I2.jc (H':=H') hC hf
 exact⟨.ref D,H',I'.turned (t':=s'.toks) (it:=C) (fun b o hb e=>(sb.2 b hb).trans e) f0 f1 f3 f4 f5,rfl,hq⟩
theorem fO {i:Nat} {y:Str} {py spos:Pos} (sc:aI X scope own aM bH) (hc:X.calm=true) (hi:PI X tg iter wi)
  (hg:∀C s₃ H₃ fp,PG (fw X own aM scope C s₃ H₃ fp) tg g) (ht:∀C s₃ H₃ fp,rG (fw X own aM scope C s₃ H₃ fp) ifs tt) (he:∀C s₃ H₃ fp,PE (fw X own aM scope C s₃ H₃ fp) elt te)
  (hN:X.N.Nodup) (hi':X.N[i]? =some y) (hx:X.env.scope.names.lookup y=some .local)
  (hsw:swapsWith (.ListComp elt [⟨tg,iter,ifs,0⟩] scope pos) (some (.Name y py)) spos.line X.env=pure true:=by rfl)
  (hs:∀x,foldedSetIterable iter X.env x=pure x:=by intro _;rfl):PS X (.Assign [.Name y py] (.ListComp elt [⟨tg,iter,ifs,0⟩] scope pos) spos) (rB (Ge own bH wi g tt te) (aL i)):=by
 intro pins s σ H D I h
 rw[exec_Assign_Name_used _ _ _ _ hsw]
 refine wpAny_bind (wpAny_standAt (wpAny_bind ?_))
 show wpAny _ X.A (do let _ ←comprehension (.ListComp elt [⟨tg,iter,ifs,0⟩] scope pos) scope X.env _ (newList []) false (eval iter X.env) (some (assign (.Name y py) X.env))) _ _ s
 refine wpAny_bind (wpAny_mono (wpAny_comprehension_free (use:=some (assign (.Name y py) X.env)) (Q:=fun _ s'=>SP X pins D .next s') rfl hs (j5 (sc.cells I.ok)) sc.kind sc.names
  (aE (hi pins s σ H _ I h) fun v s1 h1=>aE h1 fun itv s2 h2=>?_)) (fun _ s' hq=>wpAny_pure (wpAny_pure hq)) fun _ _ e=>e)
 obtain⟨it,fp,tn,J,H2,e,I2,T,st2,f2,q⟩:=h2
 subst e
 refine ql (RR:=fun acc C=>compPost (model X.prog X.w) X.A X.xe (some (assign (.Name y py) X.env)) (fun _ s'=>SP X pins D .next s') acc C) (R:=fun E H'=>D.nx (σ.set i (some (.ref E))) H') sc hc hg ht he I2 T st2 f2 q ?_
 intro E C H' s' m I' hC hn hf hq
 show wpAny _ X.A (assign (.Name y py) X.env (.ref E)) _ _ _
 obtain⟨f0,f1,f2,f3,f4,f5⟩:=I2.jc (H':=H') hC hf
 refine wpAny_assign_Name (tH I' hN hi' (.inl hx) (v:=.ref E) (u:=.ref E) rfl (fun s3 I3 ⟨a,sb,ha⟩=>?_) (.inr hx))
 have Vb:C≠a:=by
  rcases ha with z | z
  ·rw[z];exact f1
  ·exact(f4 y a z).symm
 refine⟨m,hn.sameBut sb Vb,fun h' Vc=>?_⟩
 exact⟨_,H',I3.turned (t':=s3.toks) (it:=C) (fun b o hb e=>(Vc.2 b hb).trans e) f0 f1 f3 f4 f5,hq⟩
end
theorem me {lo:Int} {n:Nat} {g:TG} {tt:TT} {te:TE} {D:Addr} {σ:St} {H:Hp} {R:Hp→Prop} (Pv:Nat→St→Hp→Prop) (h0:Pv 0 σ H)
  (hs:∀i σ H,i<n→Pv i σ H→g (.int (lo+i)) σ H fun σ2 H2=>tt σ2 H2 fun b H3=>if b=true then te σ2 H3 fun y H4=>∃ys,H4 D=some (.lst ys)∧ys.length<sizeLine∧Pv (i+1) σ2 (upd H4 D (.lst (ys++[y]))) else Pv (i+1) σ2 H3)
  (hd:∀σ H,Pv n σ H→R H):md (tJ lo n) g tt te D σ H R:=by
 refine⟨fun i m σ H=>m=n-i∧i≤n∧Pv i σ H,⟨n,by simp,Nat.zero_le _,h0⟩,?_⟩
 rintro i m σ H ⟨rfl,hi,p⟩
 by_cases hlt:i<n
 ·refine .inr ⟨hlt,Pv (i+1),fun σ' H' p'=>⟨n-(i+1),by omega,rfl,hlt,p'⟩,fun x H' y=>?_⟩
  obtain⟨e,y⟩:=y
  subst e y
  exact hs i σ _ hlt p
 ·have e:i=n:=by omega
  subst e
  exact .inl ⟨Nat.le_refl _,hd σ H p⟩
theorem gX {K:PySem.W.Frag} {a:Addr} {xs:List V} {g:TG} {tt:TT} {te:TE} {D:Addr} {σ:St} {H:Hp} {R:Hp→Prop} (Pv:Nat→St→Hp→Prop) (h0:Pv 0 σ H) (hl:∀i σ H,i≤xs.length→Pv i σ H→a_ K H a xs)
  (hs:∀i x σ H,xs[i]? =some x→Pv i σ H→g x σ H fun σ2 H2=>tt σ2 H2 fun b H3=>if b=true then te σ2 H3 fun y H4=>∃ys,H4 D=some (.lst ys)∧ys.length<sizeLine∧Pv (i+1) σ2 (upd H4 D (.lst (ys++[y]))) else Pv (i+1) σ2 H3)
  (hd:∀σ H,Pv xs.length σ H→R H):md (vT K a) g tt te D σ H R:=by
 refine⟨fun i m σ H=>m=xs.length-i∧i≤xs.length∧Pv i σ H,⟨xs.length,by simp,Nat.zero_le _,h0⟩,?_⟩
 rintro i m σ H ⟨rfl,hi,p⟩
 have q:=hl i σ H hi p
 by_cases hlt:i<xs.length
 ·refine .inr ⟨⟨xs,xs[i],q,by simp[hlt]⟩,Pv (i+1),fun σ' H' p'=>⟨xs.length-(i+1),by omega,rfl,hlt,p'⟩,fun x H' y=>?_⟩
  obtain⟨e,y⟩:=y
  subst e
  exact hs i x σ _ (y xs q) p
 ·have e:i=xs.length:=by omega
  subst e
  exact .inl ⟨⟨xs,q,Nat.le_refl _⟩,hd σ H p⟩
theorem dM {K:PySem.W.Frag} {a:Addr} {xs:List V} {g:TG} {tt:TT} {te:TE} {D:Addr} {σ:St} {H:Hp} {R:Hp→Prop} (Pv:Nat→St→Hp→Prop) (h0:Pv 0 σ H) (hl:∀i σ H,i≤xs.length→Pv i σ H→aW K H a xs)
  (hs:∀i x σ H,xs[i]? =some x→Pv i σ H→g x σ H fun σ2 H2=>tt σ2 H2 fun b H3=>if b=true then te σ2 H3 fun y H4=>∃ys,H4 D=some (.lst ys)∧ys.length<sizeLine∧Pv (i+1) σ2 (upd H4 D (.lst (ys++[y]))) else Pv (i+1) σ2 H3)
  (hd:∀σ H,Pv xs.length σ H→R H):md (vU K a) g tt te D σ H R:=by
 refine⟨fun i m σ H=>m=xs.length-i∧i≤xs.length∧Pv i σ H,⟨xs.length,by simp,Nat.zero_le _,h0⟩,?_⟩
 rintro i m σ H ⟨rfl,hi,p⟩
 have q:=hl i σ H hi p
 by_cases hlt:i<xs.length
 ·refine .inr ⟨⟨xs,xs[i],q,by simp[hlt]⟩,Pv (i+1),fun σ' H' p'=>⟨xs.length-(i+1),by omega,rfl,hlt,p'⟩,fun x H' y=>?_⟩
  obtain⟨e,y⟩:=y
  subst e
  exact hs i x σ _ (y xs q) p
 ·have e:i=xs.length:=by omega
  subst e
  exact .inl ⟨⟨xs,q,Nat.le_refl _⟩,hd σ H p⟩
section
variable {X:Cx}
def Nk (i j:Int):Prop:=0<j∧j.natAbs.log2<9000
theorem il:cC X (binaryOp .FloorDiv) (rI Nk fun i j=>.int (i / j)):=Bk fun i j _ _ _ _ _ hc q=>by
 obtain⟨h0,h1⟩:=hc
 refine floordiv_int (by omega) ?_ (.inl (PyProof.noPylong_of_log2 h1))
 rw[Int.fdiv_eq_ediv_of_nonneg _ (by omega)]
 exact q
theorem BK (hc:X.calm=true):cv X (.builtin "sum") (fun xs H Q=>∃(a:Addr) (ns:List Int),xs=[.ref a]∧a_ X.K H a (ns.map V.int)∧Q (.int ns.sum) H):=by
 intro pins s σ H xs us Q I r h
 obtain⟨a,ns,rfl,hq,q⟩:=h
 obtain⟨u,rfl,ru⟩:=vals1 r
 cases ru
 obtain⟨its,rv,p,_⟩:=I.list hq
 have hi:IntsAre its ns:=intsAre_of rv
 have all:=hi.allInts
 obtain⟨ys,hy⟩:=all.items
 have e:(numsOf its.toArray.toList).sum=ns.sum:=by rw[show its.toArray.toList=its from rfl,hi.numsOf]
 have hl:=p.isList
 rw[hy] at hl e
 rw[nums_intItems] at e
 refine sum_intListG (I.ok.hd hc) hl fun h' tk t' k=>⟨.int (preSum (numAt ys) ys.size),H,I.kept k,⟨t',rfl⟩,?_⟩
 rw[preSum_eq,List.take_of_length_le (by simp)]
 first
  | (rw[e];exact q)
  | (simp only[e];exact q)
theorem yA:cv X (.builtin "isinstance") (fun xs H Q=>∃(x:V) (t:Value) (T:String) (b:Bool),xs=[x,.ty T]∧gM X.K H x t∧PySem.W.kitOne X.K t (.type T)=some b∧Q (.bl b) H):=by
 intro pins s σ H xs us Q I r h
 obtain⟨x,t,T,b,rfl,ty,e,q⟩:=h
 obtain⟨u,w',rfl,rx,rT⟩:=vals2 r
 cases(show w'=Value.type T from rT)
 exact Br I rx ty e fun tk=>⟨.bl b,H,I.tok tk,rfl,q⟩
theorem qm {K:PySem.W.Frag}:PySem.W.kitOne K (.type "tuple") (.type "tuple")=some true:=by rfl
theorem yX:cC X (binaryOp .Add) (fun x y H Q=>∃(a b:Addr) (ys:List V),x=.ref a∧y=.ref b∧aW X.K H a []∧aW X.K H b ys∧Q (.ref b) H):=by
 intro pins s σ H x y v u Q I rx ry h
 obtain⟨a,b,ys,rfl,rfl,ha,hb,q⟩:=h
 cases rx
 cases ry
 obtain⟨its,r1,p1,_⟩:=I.tuple ha
 obtain⟨its2,r2,p2,_⟩:=I.tuple hb
 cases r1
 obtain⟨⟨cls,dd,data,sl⟩,ho,hc,n,hd⟩:=id p1
 obtain⟨⟨cls2,dd2,data2,sl2⟩,ho2,hc2,n2,hd2⟩:=id p2
 simp only at hc hd hc2 hd2
 subst hc hd hc2 hd2
 exact concat_meets ⟨_,ho,rfl⟩ ⟨_,ho2,rfl⟩ noFill_tuple_add seq_tuple_add PySem.F.slot_tuple_add PySem.F.entry_tuple_add (PySem.F.args_tuple_add_2 _ _)
  (tuple_addW0 a b #[] its2.toArray n n2 dd dd2 sl sl2 rfl) ⟨ho,ho2,⟨.ref b,H,I,rfl,q⟩⟩
def Gf (K:PySem.W.Frag):R2:=fun x y H Q=>∃(a b:Addr) (xs ys:List V),x=.ref a∧y=.ref b∧aW K H a xs∧aW K H b ys∧ys≠[]∧xs.length+ys.length≤sizeLine∧
 (xs=[]→Q (.ref b) H)∧(xs≠[]→∀p,H p=none→Q (.ref p) (upd H p (.tup (xs++ys))))
theorem HC:cC X (binaryOp .Add) (Gf X.K):=by
 intro pins s σ H x y v u Q I rx ry h
 obtain⟨a,b,xs,ys,rfl,rfl,ha,hb,hy,hz,q1,q2⟩:=h
 by_cases hx:xs=[]
 ·subst hx
  exact yX pins s σ H _ _ v u Q I rx ry ⟨a,b,ys,rfl,rfl,ha,hb,q1 rfl⟩
 ·exact yR pins s σ H _ _ v u Q I rx ry ⟨a,b,xs,ys,rfl,rfl,ha,hb,hx,hz,fun z=>absurd z hy,fun _=>q2 hx⟩
end
def tU (scope esc:Scope) (N own aM:List Str) (bH:List Nat):Bool:=
 scope.names.all (fun y=>y.2 != .cell)&&scope.kind == .function&&scope.names.all (fun y=>y.2 != .local||scope.names.lookup y.1 == some .local)
 &&scope.names.all (fun y=>y.2 != .free||(esc.names.lookup y.1 == some .cell||esc.names.lookup y.1 == some .free))
 &&bH.length == aM.length&&(List.range bH.length).all (fun i=>(bH[i]?).bind (fun j=>N[j]?) == aM[i]?)
 &&aM.all (fun x=>scope.names.contains (x,NameKind.free)&&scope.names.lookup x == some .free)
theorem aI.mk' {X:Cx} {scope esc:Scope} {N own aM:List Str} {bH:List Nat} (hs:X.env.scope=esc) (hN:X.N=N) (h:tU scope esc N own aM bH=true):aI X scope own aM bH:=by
 unfold tU at h
 simp only[Bool.and_eq_true,List.all_eq_true,bne_iff_ne,beq_iff_eq,Bool.or_eq_true,List.contains_iff_mem] at h
 obtain⟨⟨⟨⟨⟨⟨h1,h2⟩,h3⟩,h4⟩,h5⟩,h6⟩,h7⟩:=h
 refine⟨h1,h2,fun y hy hl=>?_,fun y hy hf=>?_,h5,fun i j e=>?_,fun x hx=>h7 x hx⟩
 ·rcases h3 y hy with z | z
  ·exact absurd hl z
  ·exact z
 ·rw[hs]
  rcases h4 y hy with z | z
  ·exact absurd hf z
  ·exact z
 ·have hi:i<bH.length:=(List.getElem?_eq_some_iff.mp e).1
  have q:=h6 i (List.mem_range.mpr hi)
  rw[e] at q
  rw[hN]
  exact q
def KB (d:Addr) (H H':Hp):Prop:=∀b o,H b=some o→b≠d→H' b=some o
theorem KB.refl (d:Addr) (H:Hp):KB d H H:=fun _ _ h _=>h
theorem KB.trans {d:Addr} {H H1 H2:Hp} (a:KB d H H1) (b:KB d H1 H2):KB d H H2:=fun c o h n=>b c o (a c o h n) n
theorem KB.write {d:Addr} {H:Hp} {o:HO}:KB d H (upd H d o):=fun b o h n=>by rw[au n];exact h
theorem Same.kb {d:Addr} {H H':Hp} (s:Same H H'):KB d H H':=fun b o h _=>s b o h
theorem Same.new {H:Hp} {p:Addr} {o:HO} (h:H p=none):Same H (upd H p o):=fun b u e=>by rw[au (av e h)];exact e
theorem Same.kbn {d:Addr} {H H1 H2:Hp} (s:Same H H1) (h:H d=none) (k:KB d H1 H2):Same H H2:=fun b o e=>k b o (s b o e) (av e h)
theorem Same.pA {K:PySem.W.Frag} {H H':Hp} {a:Addr} {xs:List V} (e:Same H H') (h:aW K H a xs):aW K H' a xs:=by
 rcases h with(h | ⟨o,h⟩) | h
 ·exact .inl (.inl (e _ _ h))
 ·exact .inl (.inr ⟨o,e _ _ h⟩)
 ·exact .inr h
def bt (H H':Hp):Prop:=∀b xs,H b=some (.tup xs)→H' b=some (.tup xs)
theorem bt.trans {H H1 H2:Hp} (a:bt H H1) (b:bt H1 H2):bt H H2:=fun c o h=>b c o (a c o h)
theorem Same.kt {H H':Hp} (s:Same H H'):bt H H':=fun b xs h=>s b _ h
theorem bt.lst {H:Hp} {d:Addr} {xs:List V} {o:HO} (h:H d=some (.lst xs)):bt H (upd H d o):=fun b ys e=>by
 rw[au (dR e h (fun z=>nomatch z))];exact e
theorem bt.kb {d:Addr} {xs:List V} {H H':Hp} (h:H d=some (.lst xs)) (k:KB d H H'):bt H H':=fun b ys e=>k b _ e (dR e h (fun z=>nomatch z))
def gf (H:Hp) (ps:List Addr) (ls:List (List Int)):Prop:=Paired (fun p (l:List Int)=>H p=some (.tup (l.map V.int))) ps ls
theorem gf.keep {H H':Hp} {ps:List Addr} {ls:List (List Int)} (t:gf H ps ls) (k:bt H H'):gf H' ps ls:=Paired.nr t fun _ _ h=>k _ _ h
theorem gf.get {H:Hp}:∀{ps:List Addr} {ls:List (List Int)} {i:Nat} {p:Addr},gf H ps ls→ps[i]? =some p→∃l,ls[i]? =some l∧H p=some (.tup (l.map V.int))
 | _,_,_,_,.nil,e=>by simp at e
 | _,_,0,_,.cons r _,e=>by simp at e;subst e;exact⟨_,rfl,r⟩
 | _,_,i+1,p,.cons _ t,e=>by
  obtain⟨u,h1,h2⟩:=gf.get (i:=i) (p:=p) t (by simpa using e)
  exact⟨u,by simpa using h1,h2⟩
theorem bJ {α β:Type} {F:α→β→Prop}:∀{xs ys:List α} {us ws:List β},Paired F xs us→Paired F ys ws→Paired F (xs++ys) (us++ws)
 | _,_,_,_,.nil,s=>s
 | _,_,_,_,.cons r t,s=>.cons r (bJ t s)
end L2
namespace L2
open PySem
theorem dF:bootBuiltins "len"=some (.builtin "len"):=by decide+kernel
theorem BL:bootBuiltins "abs"=some (.builtin "abs"):=by decide+kernel
theorem wq:bootBuiltins "sum"=some (.builtin "sum"):=by decide+kernel
theorem Jm:bootBuiltins "max"=some (.builtin "max"):=by decide+kernel
theorem eU:bootBuiltins "isinstance"=some (.builtin "isinstance"):=by decide+kernel
theorem tV:bootBuiltins "sorted"=some (.builtin "sorted"):=by decide+kernel
theorem Jn:bootBuiltins "all"=some (.builtin "all"):=by decide+kernel
theorem yY:bootBuiltins "list"=some (.type "list"):=by decide+kernel
theorem de:bootBuiltins "tuple"=some (.type "tuple"):=by decide+kernel
theorem yZ:bootBuiltins "bool"=some (.type "bool"):=by decide+kernel
theorem ip:bootBuiltins "dict"=some (.type "dict"):=by decide+kernel
theorem Jo:bootBuiltins "set"=some (.type "set"):=by decide+kernel
theorem yB:bootBuiltins "reversed"=some (.type "reversed"):=by decide+kernel
end L2
namespace L2
open PySem PySem.Spec PyProof.Rows
def QE (K:PySem.W.Frag):List V→Hp→VK→Prop:=fun xs H Q=>∃x n,xs=[x]∧IW K x H n∧Q (.int n) H
def QF (K:PySem.W.Frag):List V→Hp→VK→Prop:=fun xs H Q=>∃(a:Addr) (ns:List Int),xs=[.ref a]∧a_ K H a (ns.map V.int)∧Q (.int ns.sum) H
def QG (K:PySem.W.Frag):List V→Hp→VK→Prop:=fun xs H Q=>∃(x:V) (t:Value) (T:String) (b:Bool),xs=[x,.ty T]∧gM K H x t∧PySem.W.kitOne K t (.type T)=some b∧Q (.bl b) H
section
variable {X:Cx}
theorem bW (K:PySem.W.Frag) (hK:X.K=K:=by rfl):cv X (.builtin "len") (QE K):=by subst hK;exact Ei
theorem nK (K:PySem.W.Frag) (hc:X.calm=true:=by rfl) (hK:X.K=K:=by rfl):cv X (.builtin "sum") (QF K):=by subst hK;exact BK hc
theorem iY (K:PySem.W.Frag) (hK:X.K=K:=by rfl):cv X (.builtin "isinstance") (QG K):=by subst hK;exact yA
theorem iq (K:PySem.W.Frag) (hK:X.K=K:=by rfl):yT X (IY K):=by subst hK;exact Hw
theorem aC (K:PySem.W.Frag) (hK:X.K=K:=by rfl):yT X (IZ K):=by subst hK;exact I_
theorem wt (K:PySem.W.Frag) (hK:X.K=K:=by rfl):F_ X (Ja K):=by subst hK;exact Hx
theorem pB (K:PySem.W.Frag) (hK:X.K=K:=by rfl):cC X (binaryOp .Add) (Gf K):=by subst hK;exact HC
theorem wu (K:PySem.W.Frag) (hK:X.K=K:=by rfl):cC X (compareOp .In) (N9 K false):=by subst hK;exact Bw
def Jp (_ j:Int):Prop:=0<j
theorem cpos {i j:Int} (h:0<j):Jp i j:=h
theorem fg:cC X (binaryOp .Mod) (rI Jp fun i j=>.int (i % j)):=IQ
end
end L2
namespace L2
theorem Er {t u:TS} {D:Ends} {σ:St} {H:Hp} (Pv:St→Hp→Prop) (h1:∀σ H,Pv σ H→u D σ H) (h2:(∀σ H,Pv σ H→u D σ H)→t {D with nx:=u D} σ H):nB t u D σ H:=h2 h1
end L2
namespace L2
open PySem PySem.Spec PyProof.Rows
inductive Dt where
 | non | bl (b:Bool) | int (i:Int) | str (x:Str) | tup (xs:List Dt) | lst (xs:List Dt)
mutual
def Dt.beq:Dt→Dt→Bool
 | .non,.non=>true
 | .bl a,.bl b=>a == b
 | .bl a,.int b=>(if a then 1 else 0) == b
 | .int a,.bl b=>a == (if b then 1 else 0)
 | .int a,.int b=>a == b
 | .str a,.str b=>a == b
 | .tup xs,.tup ys=>Dt.eE xs ys
 | .lst xs,.lst ys=>Dt.eE xs ys
 | _,_=>false
def Dt.eE:List Dt→List Dt→Bool
 | [],[]=>true
 | x::xs,y::ys=>x.beq y&&Dt.eE xs ys
 | _,_=>false
end
mutual
def Dt.dep:Dt→Nat
 | .tup xs=>Dt.deps xs+1
 | .lst xs=>Dt.deps xs+1
 | _=>0
def Dt.deps:List Dt→Nat
 | []=>0
 | x::xs=>max x.dep (Dt.deps xs)
end
mutual
def ak (K:PySem.W.Frag) (H:Hp):V→Dt→Prop
 | x,.non=>x=.non
 | x,.bl b=>x=.bl b
 | x,.int i=>x=.int i
 | x,.str z=>x=.str z
 | x,.tup ds=>∃a xs,x=.ref a∧aW K H a xs∧aA K H xs ds
 | x,.lst ds=>∃a xs,x=.ref a∧a_ K H a xs∧aA K H xs ds
def aA (K:PySem.W.Frag) (H:Hp):List V→List Dt→Prop
 | [],[]=>True
 | x::xs,d::ds=>ak K H x d∧aA K H xs ds
 | _,_=>False
end
theorem Dt.beq_refl (d:Dt):d.beq d=true:=by
 induction d using Dt.rec (motive_2:=fun xs=>Dt.eE xs xs=true) with
 | non=>simp[Dt.beq]
 | bl b=>simp[Dt.beq]
 | int b=>simp[Dt.beq]
 | str b=>simp[Dt.beq]
 | tup xs ih=>simp[Dt.beq,ih]
 | lst xs ih=>simp[Dt.beq,ih]
 | nil=>simp[Dt.eE]
 | cons x xs h1 h2=>simp[Dt.eE,h1,h2]
theorem aA.length {K:PySem.W.Frag} {H:Hp}:∀{xs:List V} {ds:List Dt},aA K H xs ds→xs.length=ds.length
 | [],[],_=>rfl
 | [],_::_,h=>by simp[aA] at h
 | _::_,[],h=>by simp[aA] at h
 | x::xs,d::ds,h=>by
  rw[aA] at h
  rw[List.length_cons,List.length_cons,aA.length h.2]
theorem aA.get {K:PySem.W.Frag} {H:Hp}:∀{xs:List V} {ds:List Dt} {i:Nat} {x:V},aA K H xs ds→xs[i]? =some x→∃d,ds[i]? =some d∧ak K H x d
 | [],_,_,_,_,e=>by simp at e
 | _::_,[],_,_,h,_=>by simp[aA] at h
 | x::xs,d::ds,0,y,h,e=>by
  rw[aA] at h
  simp at e;subst e
  exact⟨d,rfl,h.1⟩
 | x::xs,d::ds,i+1,y,h,e=>by
  rw[aA] at h
  obtain⟨d',h1,h2⟩:=aA.get (i:=i) (x:=y) h.2 (by simpa using e)
  exact⟨d',by simpa using h1,h2⟩
theorem Dt.jK {d:Dt}:∀{ds:List Dt},d∈ds→d.dep≤Dt.deps ds
 | [],h=>by cases h
 | x::xs,h=>by
  rw[Dt.deps]
  rcases List.mem_cons.mp h with rfl | h
  ·exact Nat.le_max_left ..
  ·exact Nat.le_trans (Dt.jK h) (Nat.le_max_right ..)
def vI (xs ys:List Dt) (j:Nat):Bool:=match xs[j]?,ys[j]? with
 | some x,some y=>x.beq y
 | _,_=>false
theorem rH (n:Nat) (e:Nat→Bool):(List.range (n+1)).all e=(e 0&&(List.range n).all fun j=>e (j+1)):=by
 rw[List.range_succ_eq_map,List.all_cons,List.all_map];rfl
theorem jL:∀(xs ys:List Dt),xs.length=ys.length→(List.range xs.length).all (vI xs ys)=Dt.eE xs ys
 | [],[],_=>by simp[Dt.eE]
 | x::xs,y::ys,h=>by
  have h':xs.length=ys.length:=by simpa using h
  rw[List.length_cons,rH,Dt.eE,←jL xs ys h']
  rfl
theorem jM:∀(xs ys:List Dt),xs.length≠ys.length→Dt.eE xs ys=false
 | [],[],h=>absurd rfl h
 | [],_::_,_=>by simp[Dt.eE]
 | _::_,[],_=>by simp[Dt.eE]
 | x::xs,y::ys,h=>by
  have h':xs.length≠ys.length:=fun z=>h (by simp[z])
  rw[Dt.eE,jM xs ys h',Bool.and_false]
section
variable {X:Cx} {pins:List (Addr×Obj)} {σ:St} {H:Hp} {s:Shared}
theorem lh {a:Addr} {xs ys:List V} (I:Inv X pins σ H s) (h1:a_ X.K H a xs) (h2:aW X.K H a ys):False:=by
 obtain⟨its,_,p,_⟩:=I.list h1
 obtain⟨its2,_,q,_⟩:=I.tuple h2
 exact SeqAt.ne_of_list_tuple p.isList (show s.heap.IsTuple a its2.toArray from q) rfl
theorem rJ (I:Inv X pins σ H s) (d:Dt):∀(x:V) (d':Dt),ak X.K H x d→ak X.K H x d'→d=d':=by
 induction d using Dt.rec (motive_2:=fun ds=>∀(xs:List V) (ds':List Dt),aA X.K H xs ds→aA X.K H xs ds'→ds=ds') with
 | non=>intro x d' h h';cases d'<;>simp_all [ak]
 | bl b=>intro x d' h h';cases d'<;>simp_all [ak]
 | int b=>intro x d' h h';cases d'<;>simp_all [ak]
 | str b=>intro x d' h h';cases d'<;>simp_all [ak]
 | tup ds ih=>
  intro x d' h h'
  rw[ak] at h
  obtain⟨a,xs,rfl,hq,hd⟩:=h
  cases d' with
  | tup ds'=>
   rw[ak] at h'
   obtain⟨a',xs',e,hq',hd'⟩:=h'
   cases e
   rw[I.iU hq' hq] at hd'
   rw[ih xs ds' hd hd']
  | lst ds'=>
   rw[ak] at h'
   obtain⟨a',xs',e,hq',hd'⟩:=h'
   cases e
   exact(lh I hq' hq).elim
  | _=>simp[ak] at h'
 | lst ds ih=>
  intro x d' h h'
  rw[ak] at h
  obtain⟨a,xs,rfl,hq,hd⟩:=h
  cases d' with
  | lst ds'=>
   rw[ak] at h'
   obtain⟨a',xs',e,hq',hd'⟩:=h'
   cases e
   rw[I.ie hq' hq] at hd'
   rw[ih xs ds' hd hd']
  | tup ds'=>
   rw[ak] at h'
   obtain⟨a',xs',e,hq',hd'⟩:=h'
   cases e
   exact(lh I hq hq').elim
  | _=>simp[ak] at h'
 | nil=>
  rename_i xs ds' h h'
  cases xs with
  | nil=>cases ds' with
   | nil=>rfl
   | cons _ _=>simp[aA] at h'
  | cons _ _=>simp[aA] at h
 | cons d ds h1 h2=>
  rename_i xs ds' h h'
  cases xs with
  | nil=>simp[aA] at h
  | cons x xs=>cases ds' with
   | nil=>simp[aA] at h'
   | cons d' ds'=>
    rw[aA] at h h'
    rw[h1 x d' h.1 h'.1,h2 xs ds' h.2 h'.2]
theorem mf {A:Around} {xs ys:List V} {ds ds':List Dt} {its its2:List Value} (r1:Vals xs its) (r2:Vals ys its2) (h1:aA X.K H xs ds) (h2:aA X.K H ys ds')
  (ih:∀d∈ds,∀(d':Dt) (x y:V) (u v:Value),ak X.K H x d→ak X.K H y d'→RelV x u→RelV y v→SeqAt.EqAt A s u v (d.beq d')):
  ∀j (a:j<its.toArray.size) (b:j<its2.toArray.size),SeqAt.EqAt A s its.toArray[j] its2.toArray[j] (vI ds ds' j):=fun j a b=>by
 have a':j<its.length:=by simpa using a
 have b':j<its2.length:=by simpa using b
 have la:=r1.length
 have lb:=r2.length
 have ex:xs[j]? =some (xs[j]'(by omega)):=List.getElem?_eq_getElem (by omega)
 have ey:ys[j]? =some (ys[j]'(by omega)):=List.getElem?_eq_getElem (by omega)
 obtain⟨u,eu,ru⟩:=r1.get ex
 obtain⟨v,ev,rv⟩:=r2.get ey
 obtain⟨d,ed,hd⟩:=h1.get ex
 obtain⟨d',ed',hd'⟩:=h2.get ey
 have e1:its.toArray[j]=u:=by
  rw[List.getElem?_eq_getElem a'] at eu
  simpa using Option.some.inj eu
 have e2:its2.toArray[j]=v:=by
  rw[List.getElem?_eq_getElem b'] at ev
  simpa using Option.some.inj ev
 rw[e1,e2]
 have e3:vI ds ds' j=d.beq d':=by unfold vI;rw[ed,ed']
 rw[e3]
 exact ih d (List.mem_of_getElem? ed) d' _ _ u v hd hd' ru rv
theorem Es {A:Around} {a b:Addr} {xs ys:List V} {ds ds':List Dt} (I:Inv X pins σ H s) (q1:a_ X.K H a xs) (q2:a_ X.K H b ys) (h1:aA X.K H xs ds) (h2:aA X.K H ys ds') (hu:A.units<cLine)
  (ih:∀d∈ds,∀(d':Dt) (x y:V) (u v:Value),ak X.K H x d→ak X.K H y d'→RelV x u→RelV y v→SeqAt.EqAt A.in1 s u v (d.beq d')):SeqAt.RcAt A s (.ref a) (.ref b) (Dt.eE ds ds'):=by
 obtain⟨its,r1,p1,_⟩:=I.list q1
 obtain⟨its2,r2,p2,_⟩:=I.list q2
 have l1:=r1.length
 have l2:=r2.length
 have l3:=h1.length
 have l4:=h2.length
 by_cases hl:ds.length=ds'.length
 ·have:=SeqAt.RcAt.lists p1.isList p2.isList (by simp;omega) hu (mf r1 r2 h1 h2 ih)
  rw[show its.toArray.size=ds.length by simp;omega,jL ds ds' hl] at this
  exact this
 ·rw[jM ds ds' hl]
  exact SeqAt.RcAt.lists_lengths p1.isList p2.isList (by simp;omega) hu
theorem BM {A:Around} {a b:Addr} {xs ys:List V} {ds ds':List Dt} (I:Inv X pins σ H s) (q1:aW X.K H a xs) (q2:aW X.K H b ys) (h1:aA X.K H xs ds) (h2:aA X.K H ys ds') (hu:A.units<cLine)
  (ih:∀d∈ds,∀(d':Dt) (x y:V) (u v:Value),ak X.K H x d→ak X.K H y d'→RelV x u→RelV y v→SeqAt.EqAt A.in1 s u v (d.beq d')):SeqAt.RcAt A s (.ref a) (.ref b) (Dt.eE ds ds'):=by
 obtain⟨its,r1,p1,_⟩:=I.tuple q1
 obtain⟨its2,r2,p2,_⟩:=I.tuple q2
 have l1:=r1.length
 have l2:=r2.length
 have l3:=h1.length
 have l4:=h2.length
 have:=SeqAt.RcAt.tuples (show s.heap.IsTuple a its.toArray from p1) (show s.heap.IsTuple b its2.toArray from p2) hu (mf r1 r2 h1 h2 ih)
 by_cases hl:ds.length=ds'.length
 ·rw[show min its.toArray.size its2.toArray.size=ds.length by simp;omega,jL ds ds' hl,show(its.toArray.size == its2.toArray.size)=true by simp;omega,Bool.and_true] at this
  exact this
 ·rw[show(its.toArray.size == its2.toArray.size)=false by simp;omega,Bool.and_false] at this
  rw[jM ds ds' hl]
  exact this
theorem wx (I:Inv X pins σ H s) (d:Dt):∀(A:Around) (d':Dt) (x y:V) (u v:Value),A.units+d.dep<cLine→ak X.K H x d→ak X.K H y d'→RelV x u→RelV y v→SeqAt.EqAt A s u v (d.beq d'):=by
 have flat:∀{A:Around} {d d':Dt} {x y:V} {u v:Value},g8 x=true→g8 y=true→kT x y=d.beq d'→RelV x u→RelV y v→SeqAt.EqAt A s u v (d.beq d'):=fun fx fy e ru rv=>e▸Bu ru rv fx fy
 have y_:∀{a:Addr} {xs:List V},a_ X.K H a xs→∃its:Array Value,s.heap.IsList a its:=fun q=>let ⟨its,_,p,_⟩:=I.list q;⟨_,p.isList⟩
 have y6:∀{a:Addr} {xs:List V},aW X.K H a xs→∃its:Array Value,s.heap.IsTuple a its:=fun q=>let ⟨its,_,p,_⟩:=I.tuple q;⟨_,p⟩
 have refs:∀{A:Around} {a b:Addr} {d d':Dt},ak X.K H (.ref a) d→ak X.K H (.ref b) d'→SeqAt.RcAt A s (.ref a) (.ref b) (d.beq d')→SeqAt.EqAt A s (.ref a) (.ref b) (d.beq d'):=by
  intro A a b d d' h h' r
  by_cases e:a=b
  ·subst e
   rw[←rJ I d _ _ h h',Dt.beq_refl]
   exact SeqAt.EqAt.same _
  ·exact SeqAt.EqAt.of_refs e r
 induction d using Dt.rec (motive_2:=fun ds=>∀d∈ds,∀(A:Around) (d':Dt) (x y:V) (u v:Value),A.units+d.dep<cLine→ak X.K H x d→ak X.K H y d'→RelV x u→RelV y v→SeqAt.EqAt A s u v (d.beq d')) with
 | non=>
  intro A d' x y u v hu h h' ru rv
  rw[ak] at h
  subst h
  have hu':A.units<cLine:=by omega
  cases d' with
  | tup ds'=>
   rw[ak] at h';obtain⟨b,ys,rfl,q,_⟩:=h'
   cases ru;cases rv
   obtain⟨its,p⟩:=y6 q
   exact SeqAt.EqAt.none_tuple p hu'
  | lst ds'=>
   rw[ak] at h';obtain⟨b,ys,rfl,q,_⟩:=h'
   cases ru;cases rv
   obtain⟨its,p⟩:=y_ q
   exact SeqAt.EqAt.none_list p hu'
  | _=>rw[ak] at h';subst h';exact flat rfl rfl (by simp[Dt.beq,kT]) ru rv
 | bl b0=>
  intro A d' x y u v hu h h' ru rv
  rw[ak] at h
  subst h
  have hu':A.units<cLine:=by omega
  cases d' with
  | tup ds'=>
   rw[ak] at h';obtain⟨b,ys,rfl,q,_⟩:=h'
   cases ru;cases rv
   obtain⟨its,p⟩:=y6 q
   exact SeqAt.EqAt.bool_tuple _ p hu'
  | lst ds'=>
   rw[ak] at h';obtain⟨b,ys,rfl,q,_⟩:=h'
   cases ru;cases rv
   obtain⟨its,p⟩:=y_ q
   exact SeqAt.EqAt.bool_list _ p hu'
  | _=>rw[ak] at h';subst h';exact flat rfl rfl (by simp[Dt.beq,kT]) ru rv
 | int i0=>
  intro A d' x y u v hu h h' ru rv
  rw[ak] at h
  subst h
  have hu':A.units<cLine:=by omega
  cases d' with
  | tup ds'=>
   rw[ak] at h';obtain⟨b,ys,rfl,q,_⟩:=h'
   obtain⟨t,rfl⟩:=ru;cases rv
   obtain⟨its,p⟩:=y6 q
   exact SeqAt.EqAt.int_tuple _ _ p hu'
  | lst ds'=>
   rw[ak] at h';obtain⟨b,ys,rfl,q,_⟩:=h'
   obtain⟨t,rfl⟩:=ru;cases rv
   obtain⟨its,p⟩:=y_ q
   exact SeqAt.EqAt.int_list _ _ p hu'
  | _=>rw[ak] at h';subst h';exact flat rfl rfl (by simp[Dt.beq,kT]) ru rv
 | str z0=>
  intro A d' x y u v hu h h' ru rv
  rw[ak] at h
  subst h
  have hu':A.units<cLine:=by omega
  cases d' with
  | tup ds'=>
   rw[ak] at h';obtain⟨b,ys,rfl,q,_⟩:=h'
   obtain⟨t,rfl⟩:=ru;cases rv
   obtain⟨its,p⟩:=y6 q
   exact SeqAt.EqAt.str_tuple _ _ p hu'
  | lst ds'=>
   rw[ak] at h';obtain⟨b,ys,rfl,q,_⟩:=h'
   obtain⟨t,rfl⟩:=ru;cases rv
   obtain⟨its,p⟩:=y_ q
   exact SeqAt.EqAt.str_list _ _ p hu'
  | _=>rw[ak] at h';subst h';exact flat rfl rfl (by simp[Dt.beq,kT]) ru rv
 | tup ds ih=>
  intro A d' x y u v hu h h' ru rv
  have hD:=h
  have hD':=h'
  rw[ak] at h
  obtain⟨a,xs,rfl,q,hd⟩:=h
  cases ru
  obtain⟨its,p⟩:=y6 q
  have hu':A.units<cLine:=by omega
  cases d' with
  | non=>rw[ak] at h';subst h';cases rv;exact SeqAt.EqAt.tuple_none p hu'
  | bl b=>rw[ak] at h';subst h';cases rv;exact SeqAt.EqAt.tuple_bool _ p hu'
  | int b=>rw[ak] at h';subst h';obtain⟨t,rfl⟩:=rv;exact SeqAt.EqAt.tuple_int _ _ p hu'
  | str b=>rw[ak] at h';subst h';obtain⟨t,rfl⟩:=rv;exact SeqAt.EqAt.tuple_str _ _ p hu'
  | lst ds'=>
   rw[ak] at h';obtain⟨b,ys,rfl,q',_⟩:=h'
   cases rv
   obtain⟨its2,p2⟩:=y_ q'
   exact SeqAt.EqAt.tuple_list p p2 hu'
  | tup ds'=>
   rw[ak] at h';obtain⟨b,ys,rfl,q',hd'⟩:=h'
   cases rv
   refine refs hD hD' ?_
   have:=BM (A:=A) I q q' hd hd' hu' fun d hm d' x y u v h1 h2 r1 r2=>ih d hm A.in1 d' x y u v (by
    have:=Dt.jK hm
    rw[Dt.dep] at hu
    show A.units+1+d.dep<cLine
    omega) h1 h2 r1 r2
   simpa[Dt.beq] using this
 | lst ds ih=>
  intro A d' x y u v hu h h' ru rv
  have hD:=h
  have hD':=h'
  rw[ak] at h
  obtain⟨a,xs,rfl,q,hd⟩:=h
  cases ru
  obtain⟨its,p⟩:=y_ q
  have hu':A.units<cLine:=by omega
  cases d' with
  | non=>rw[ak] at h';subst h';cases rv;exact SeqAt.EqAt.list_none p hu'
  | bl b=>rw[ak] at h';subst h';cases rv;exact SeqAt.EqAt.list_bool _ p hu'
  | int b=>rw[ak] at h';subst h';obtain⟨t,rfl⟩:=rv;exact SeqAt.EqAt.list_int _ _ p hu'
  | str b=>rw[ak] at h';subst h';obtain⟨t,rfl⟩:=rv;exact SeqAt.EqAt.list_str _ _ p hu'
  | tup ds'=>
   rw[ak] at h';obtain⟨b,ys,rfl,q',_⟩:=h'
   cases rv
   obtain⟨its2,p2⟩:=y6 q'
   exact SeqAt.EqAt.list_tuple p p2 hu'
  | lst ds'=>
   rw[ak] at h';obtain⟨b,ys,rfl,q',hd'⟩:=h'
   cases rv
   refine refs hD hD' ?_
   have:=Es (A:=A) I q q' hd hd' hu' fun d hm d' x y u v h1 h2 r1 r2=>ih d hm A.in1 d' x y u v (by
    have:=Dt.jK hm
    rw[Dt.dep] at hu
    show A.units+1+d.dep<cLine
    omega) h1 h2 r1 r2
   simpa[Dt.beq] using this
 | nil=>
  rename_i d hd A d' x y u v a1 a2 a3 a4 a5
  cases hd
 | cons d ds h1 h2=>
  rename_i d0 hd A d' x y u v a1 a2 a3 a4 a5
  rcases List.mem_cons.mp hd with e | hd
  ·subst e;exact h1 A d' x y u v a1 a2 a3 a4 a5
  ·exact h2 d0 hd A d' x y u v a1 a2 a3 a4 a5
def Dt.Jq:Dt→Bool
 | .tup _=>true
 | .lst _=>true
 | _=>false
def QH (K:PySem.W.Frag) (neg:Bool):R2:=fun x y H Q=>∃d d':Dt,ak K H x d∧ak K H y d'∧d.Jq=true∧d'.Jq=true∧d.dep≤40∧Q (.bl (if neg then !d.beq d' else d.beq d')) H
theorem BN (K:PySem.W.Frag) (hu:X.A.units+64<cLine) (hK:X.K=K:=by rfl):cC X (compareOp .NotEq) (fun x y H Q=>QH K true x y H Q∧∃d d':Dt,ak K H x d∧ak K H y d'∧((∃ds ds',d=.tup ds∧d'=.tup ds')∨∃ds ds',d=.lst ds∧d'=.lst ds')):=by
 subst hK
 intro pins s σ H x y v u Q I rx ry h
 obtain⟨⟨d,d',h,h',sq,YG,hd,q⟩,e,e',g,g',hk⟩:=h
 have e1:=rJ I d x e h g
 have e2:=rJ I d' y e' h' g'
 subst e1 e2
 have hA:∀e:Dt,e.dep≤40→X.A.in1.units+e.dep<cLine:=fun e he=>by show X.A.units+1+e.dep<cLine;omega
 have hu':X.A.units<cLine:=by omega
 rcases hk with⟨ds,ds',rfl,rfl⟩ | ⟨ds,ds',rfl,rfl⟩
 ·rw[ak] at h h'
  obtain⟨a,xs,rfl,q1,h1⟩:=h
  obtain⟨b,ys,rfl,q2,h2⟩:=h'
  cases rx
  cases ry
  have ih:∀d∈ds,∀(d':Dt) (x y:V) (u v:Value),ak X.K H x d→ak X.K H y d'→RelV x u→RelV y v→SeqAt.EqAt X.A.in1 s u v (d.beq d'):=fun d hm d' x y u v h1 h2 r1 r2=>
   wx I d X.A.in1 d' x y u v (hA d (by have:=Dt.jK hm;rw[Dt.dep] at hd;omega)) h1 h2 r1 r2
  obtain⟨its,r1,p1,_⟩:=I.tuple q1
  obtain⟨its2,r2,p2,_⟩:=I.tuple q2
  have l1:=r1.length
  have l2:=r2.length
  have l3:=h1.length
  have l4:=h2.length
  have z:=SeqAt.RcNeAt.tuples (show s.heap.IsTuple a its.toArray from p1) (show s.heap.IsTuple b its2.toArray from p2) hu' (mf r1 r2 h1 h2 ih)
  have fin:SeqAt.RcNeAt X.A s (.ref a) (.ref b) (!Dt.eE ds ds'):=by
   by_cases hl:ds.length=ds'.length
   ·rw[show min its.toArray.size its2.toArray.size=ds.length by simp;omega,jL ds ds' hl,show(its.toArray.size == its2.toArray.size)=true by simp;omega,Bool.and_true] at z
    exact z
   ·rw[show(its.toArray.size == its2.toArray.size)=false by simp;omega,Bool.and_false] at z
    rw[jM ds ds' hl]
    exact z
  exact fin _ _ _ _ ⟨.bl _,H,I,rfl,by simpa[Dt.beq] using q⟩
 ·rw[ak] at h h'
  obtain⟨a,xs,rfl,q1,h1⟩:=h
  obtain⟨b,ys,rfl,q2,h2⟩:=h'
  cases rx
  cases ry
  have ih:∀d∈ds,∀(d':Dt) (x y:V) (u v:Value),ak X.K H x d→ak X.K H y d'→RelV x u→RelV y v→SeqAt.EqAt X.A.in1 s u v (d.beq d'):=fun d hm d' x y u v h1 h2 r1 r2=>
   wx I d X.A.in1 d' x y u v (hA d (by have:=Dt.jK hm;rw[Dt.dep] at hd;omega)) h1 h2 r1 r2
  obtain⟨its,r1,p1,_⟩:=I.list q1
  obtain⟨its2,r2,p2,_⟩:=I.list q2
  have l1:=r1.length
  have l2:=r2.length
  have l3:=h1.length
  have l4:=h2.length
  have fin:SeqAt.RcNeAt X.A s (.ref a) (.ref b) (!Dt.eE ds ds'):=by
   by_cases hl:ds.length=ds'.length
   ·have z:=SeqAt.RcNeAt.lists p1.isList p2.isList (by simp;omega) hu' (mf r1 r2 h1 h2 ih)
    rw[show its.toArray.size=ds.length by simp;omega,jL ds ds' hl] at z
    exact z
   ·rw[jM ds ds' hl]
    exact SeqAt.RcNeAt.lists_lengths p1.isList p2.isList (by simp;omega) hu'
  exact fin _ _ _ _ ⟨.bl _,H,I,rfl,by simpa[Dt.beq] using q⟩
end
theorem nL {K:PySem.W.Frag} {H:Hp}:∀(ns:List Int),aA K H (ns.map V.int) (ns.map Dt.int)
 | []=>by simp[aA]
 | n::ns=>by rw[List.map_cons,List.map_cons,aA];exact⟨by rw[ak],nL ns⟩
theorem tW:∀(ns:List Int),Dt.deps (ns.map Dt.int)=0
 | []=>by simp[Dt.deps]
 | n::ns=>by rw[List.map_cons,Dt.deps,tW ns];simp[Dt.dep]
section
variable {X:Cx}
def Nl (K:PySem.W.Frag):List V→Hp→VK→Prop:=fun xs H Q=>∃(p:Addr) (ys:List V),xs=[.ref p]∧(a_ K H p ys∨aW K H p ys)∧∀l,H l=none→Q (.ref l) (upd H l (.lst ys))
theorem zY (K:PySem.W.Frag) (hK:X.K=K:=by rfl):cv X (.type "list") (Nl K):=by subst hK;exact vY
def Jr (K:PySem.W.Frag):List V→Hp→VK→Prop:=fun xs H Q=>∃(p:Addr) (ys:List V),xs=[.ref p]∧((a_ K H p ys∧∀l,H l=none→Q (.ref l) (upd H l (.tup ys)))∨(aW K H p ys∧Q (.ref p) H))
theorem dN (K:PySem.W.Frag) (hK:X.K=K:=by rfl):cv X (.type "tuple") (Jr K):=by subst hK;exact uN
end
end L2
namespace L2
open PySem
theorem iu {ns:List Int} {i:Nat} {x:V} (h:(ns.map V.int)[i]? =some x):∃f,x=.int f∧ns[i]? =some f:=by
 rw[List.getElem?_map] at h
 cases e:ns[i]? with
 | none=>rw[e] at h;cases h
 | some f=>rw[e] at h;exact⟨f,(Option.some.inj h).symm,rfl⟩
end L2
namespace L2
open PySem PySem.Spec PyProof.Rows
theorem mh {ys:List Str}:∀{us:List Value},Vals (ys.map V.str) us→StrsAre us ys:=by
 induction ys with
 | nil=>intro us r;cases r;exact .nil
 | cons y ys ih=>
  intro us r
  rw[List.map_cons] at r
  cases r with
  | cons a b=>
   obtain⟨t,rfl⟩:=a
   exact .cons y t (ih b)
theorem nM:∀{us:List Value} {ys:List Str},StrsAre us ys→Vals (ys.map V.str) us
 | _,_,.nil=>.nil
 | _,_,.cons y t r=>.cons ⟨t,rfl⟩ (nM r)
theorem Et (sep:Str) (ys:List Str) (h:(ys.map (·.length)).sum+ys.length*sep.length≤16777216):(Txt.join sep ys).length≤sizeLine:=by
 have hok:=joinOk_of h
 unfold JoinOk at hok
 rw[Bool.not_eq_true'] at hok
 have e:ys=(ys.map fun y=>(y,(0:Tok))).map (·.1):=by rw[List.map_map];exact(List.map_id ys).symm
 rw[e] at hok ⊢
 exact joinFit_length hok
section
variable {X:Cx}
def rJoin (K:PySem.W.Frag):V→List V→Hp→VK→Prop:=fun x vs H Q=>∃(sep:Str) (a:Addr) (ys:List Str),x=.str sep∧vs=[.ref a]∧a_ K H a (ys.map V.str)∧(ys.map (·.length)).sum+ys.length*sep.length≤16777216∧∀z:Str,z.length≤sizeLine→z=Txt.join sep ys→Q (.str z) H
theorem Eu (K:PySem.W.Frag) (hK:X.K=K:=by rfl):yU X "str.join" (rJoin K):=by
 subst hK
 intro pins s σ H x vs v us Q I rx rv h
 obtain⟨sep,a,ys,rfl,rfl,hq,hz,q⟩:=h
 obtain⟨t,rfl⟩:=rx
 obtain⟨u,rfl,ru⟩:=rv.one
 cases ru
 obtain⟨its,r,p,_⟩:=I.list hq
 exact join_list p.isList (show StrsAre its.toArray.toList ys from mh r) hz fun t' k=>⟨.str _,H,I.tok k,⟨t',rfl⟩,q _ (Et sep ys hz) rfl⟩
def Js (K:PySem.W.Frag):List V→Hp→VK→Prop:=fun xs H Q=>∃(a:Addr) (ss:List Str),xs=[.ref a]∧a_ K H a (ss.map V.str)∧ss.length<64∧
 ∀(p:Addr) (ss':List Str),H p=none→ss'.Perm ss→PyProof.Rows.sortedS ss'=true→Q (.ref p) (upd H p (.lst (ss'.map V.str)))
theorem yC (K:PySem.W.Frag) (hK:X.K=K:=by rfl):cv X (.builtin "sorted") (Js K):=by
 subst hK
 intro pins s σ H xs us Q I r h
 obtain⟨a,ss,rfl,hq,hl,q⟩:=h
 obtain⟨u,rfl,ru⟩:=vals1 r
 cases ru
 obtain⟨its,rv,p,hz⟩:=I.list hq
 have hlen:=rv.length
 rw[List.length_map] at hlen
 refine sorted_strs p.isList (mh rv) (by omega) fun out ss' a1 a2 a3=>?_
 obtain⟨e,he⟩:=sortedAll_at s.heap its out
 have hp:s.heap.objs.size≤s.heap.objs.size+1:=Nat.le_succ _
 refine⟨.ref (s.heap.objs.size+1),upd H (s.heap.objs.size+1) (.lst (ss'.map V.str)),?_,rfl,q _ ss' (I.hok.fresh hp) a2 a3⟩
 refine I.laid (t':=s.toks) (h':=sortedAll s.heap its out) (fun _ _=>sortedAll_old) hp ⟨?_,out.toList,e,nM a1,?_⟩
 ·rw[List.length_map,a2.length_eq]
  rw[List.length_map] at hz
  exact hz
 ·rw[he]
  first
   | done
   | rfl
def QI:V→Option Int→Option Int→Hp→VK→Prop:=fun x lo hi H Q=>∃z:Str,x=.str z∧z.length≤sizeLine∧Q (.str (Txt.slice z lo hi)) H
theorem oU {v:Value} {o:Option Int} (p:IsPart v o):∃l:Option (Int×Tok),v=partValue l∧l.map (·.1)=o:=by
 cases p with
 | none=>exact⟨none,rfl,rfl⟩
 | int i t=>exact⟨some (i,t),rfl,rfl⟩
theorem Jt:F_ X QI:=by
 intro pins s σ H x v vl vu lo hi sl Q I rx hs pl pu h
 obtain⟨z,rfl,hz,q⟩:=h
 obtain⟨t,rfl⟩:=rx
 obtain⟨l,rfl,hl⟩:=oU pl
 obtain⟨u,rfl,hu⟩:=oU pu
 subst hl hu
 obtain⟨o,ho,hc,hd⟩:=hs
 refine⟨"str",_,PySem.F.slot_str_getitem.lookup,typeIs_str _ _ _,wpAny_getItem_str_slice (l:=l) (u:=u) (st:=none) ⟨o,ho,hc,hd⟩ rfl ?_⟩
 exact post_val_or_str ⟨Nat.le_trans (Txt.slice_le z _ _) hz,fun t' k=>⟨.str _,H,I.tok k,⟨t',rfl⟩,q⟩⟩
structure lj (K:PySem.W.Frag) (P:Params) (a:Addr) (tab:List (Str×Option V)):Prop where
 ex:∃(es:Array DictEntry) (n:Nat),K.lookup a=some ⟨.type "dict",none,.dict es n, #[]⟩∧PySem.W.KeysLit P es.toList∧∀x r,(x,r)∈tab→fm r (findBy Value.isStrOf es x)
 lo:(a == sysModules)=false
def HD (tab:List (Str×Option V)) (ty tx:TE):TE:=fun σ H Q=>ty σ H fun y H1=>tx σ H1 fun z H2=>∃x r,y=.str x∧(x,r)∈tab∧Q (r.getD z) H2
theorem tX {x:Str} {p apos cpos:Pos} {e f:Expr} {ty tx:TE} {a:Addr} {tab:List (Str×Option V)} (D:lj X.K X.w.params a tab) (hg:Gl X x) (hm:X.mg x=some (.ref a)) (he:PE X e ty) (hf:PE X f tx)
  (m:M2 X (.Name x p) "get" apos e f cpos:=by exact⟨rfl,rfl,rfl,rfl⟩) (hdb:(x == ("__debug__":Str))=false:=by decide):PE X (.Call (.Attribute (.Name x p) "get" apos) [e,f] [] cpos) (HD tab ty tx):=by
 intro pins s σ H Q I h
 obtain⟨es,n,hl,hk,ht⟩:=D.ex
 refine wpAny_Call_method m.base m.few m.line PySem.F.plainAttrs_dict PySem.F.slot_dict_get PySem.F.type_dict_get (rA I hg hm ?_ hdb)
 have hm0:=PySem.W.mapOf_K (prog:=X.prog) I.gg hl hk
 refine⟨hm0.typeIs,hm0.noDict,?_⟩
 rw[m.trees]
 refine Calls.callWith_builtin rfl (Calls.evalArgs_plain (Calls.spliced_cons (aE (he pins s σ H _ I h) fun iv s2 ⟨y,H2,I2,ry,q2⟩=>
  Calls.spliced_cons (aE (hf pins s2 σ H2 _ I2 q2) fun fv s3 ⟨z,H3,I3,rz,x',r,ey,hmem,q3⟩=>Calls.spliced_nil ?_))))
 subst ey
 obtain⟨t,rfl⟩:=ry
 have Oe:=PySem.W.mapOf_K (prog:=X.prog) I3.gg hl hk
 refine call_meetsIn PySem.F.slot_dict_get Oe.typeIs PySem.F.entry_dict_get (PySem.F.args_dict_get_3 _ _ _) (meets_dict_get_default (strKind X.prog X.w) a (strKind_is X.prog X.w x' t) D.lo fv) ⟨_,Oe,?_⟩
 refine⟨r.getD z,H3,I3.tok _,?_,q3⟩
 have:=ht x' r hmem
 cases r with
 | none=>
  rw[this.none_of]
  exact rz
 | some v=>
  obtain⟨u,eu,ru⟩:=this.some_of
  rw[eu]
  exact ru
theorem fP {K:PySem.W.Frag} {H:Hp} {a:Addr} {xs:List V} {us:List Value} {n:Nat} (h:K.lookup a=some ⟨.type "tuple",none,.seq us.toArray n, #[]⟩) (r:Vals xs us) (hz:xs.length≤sizeLine):aW K H a xs:=
 .inr ⟨_,us.toArray,n,h,rfl,rfl,by rw[List.size_toArray,←r.length];exact hz,by simpa using r⟩
theorem rK (K:PySem.W.Frag) {es:List Expr} {k:Nat} {t:tI} {n:Nat} {pos:Pos} (hc:X.calm=true) (h:Bh X es t)
  (hn:(assignEach es X.env).length=n:=by rfl) (hst:(assignEach es X.env).findIdx? (·.1)=none:=by rfl) (hK:X.K=K:=by rfl):PG X (.Tuple es k pos) (IL K n t):=by
 subst hK;exact p8 hc h hn hst
end
mutual
def Dt.gk:Dt→Bool
 | .lst _=>false
 | .tup xs=>Dt.gN xs
 | _=>true
def Dt.gN:List Dt→Bool
 | []=>true
 | x::xs=>x.gk&&Dt.gN xs
end
def ia (K:PySem.W.Frag) (H H':Hp):Prop:=∀a xs,aW K H a xs→aW K H' a xs
theorem ia.trans {K:PySem.W.Frag} {H H1 H2:Hp} (a:ia K H H1) (b:ia K H1 H2):ia K H H2:=fun c o h=>b c o (a c o h)
theorem Same.kts {K:PySem.W.Frag} {H H':Hp} (s:Same H H'):ia K H H':=fun _ _ h=>s.pA h
theorem KB.kts {K:PySem.W.Frag} {d:Addr} {xs:List V} {H H':Hp} (h:H d=some (.lst xs)) (k:KB d H H'):ia K H H':=fun a ys e=>by
 rcases e with(e | ⟨o,e⟩) | e
 ·exact .inl (.inl (k _ _ e (dR e h (fun z=>nomatch z))))
 ·exact .inl (.inr ⟨o,k _ _ e (dR e h (fun z=>nomatch z))⟩)
 ·exact .inr e
theorem eG {K:PySem.W.Frag} {H H':Hp} (k:ia K H H') (d:Dt):∀x:V,d.gk=true→ak K H x d→ak K H' x d:=by
 induction d using Dt.rec (motive_2:=fun ds=>∀xs:List V,Dt.gN ds=true→aA K H xs ds→aA K H' xs ds) with
 | non=>intro x _ h;simpa[ak] using h
 | bl b=>intro x _ h;simpa[ak] using h
 | int b=>intro x _ h;simpa[ak] using h
 | str b=>intro x _ h;simpa[ak] using h
 | tup ds ih=>
  intro x hn h
  rw[ak] at h ⊢
  rw[Dt.gk] at hn
  obtain⟨a,xs,e,q,hd⟩:=h
  exact⟨a,xs,e,k _ _ q,ih xs hn hd⟩
 | lst ds ih=>intro x hn;simp[Dt.gk] at hn
 | nil=>
  rename_i xs hn h
  cases xs with
  | nil=>simp[aA]
  | cons _ _=>simp[aA] at h
 | cons d ds h1 h2=>
  rename_i xs hn h
  rw[Dt.gN,Bool.and_eq_true] at hn
  cases xs with
  | nil=>simp[aA] at h
  | cons x xs=>
   rw[aA] at h ⊢
   exact⟨h1 x hn.1 h.1,h2 xs hn.2 h.2⟩
theorem tY {K:PySem.W.Frag} {H H':Hp} (k:ia K H H'):∀(ds:List Dt) (xs:List V),Dt.gN ds=true→aA K H xs ds→aA K H' xs ds
 | [],xs,_,h=>by
  cases xs with
  | nil=>simp[aA]
  | cons _ _=>simp[aA] at h
 | d::ds,xs,hn,h=>by
  rw[Dt.gN,Bool.and_eq_true] at hn
  cases xs with
  | nil=>simp[aA] at h
  | cons x xs=>
   rw[aA] at h ⊢
   exact⟨eG k d x hn.1 h.1,tY k ds xs hn.2 h.2⟩
theorem y8 {K:PySem.W.Frag} {H:Hp} {i:Int}:ak K H (.int i) (.int i):=by rw[ak]
theorem oz {K:PySem.W.Frag} {H:Hp} {z:Str}:ak K H (.str z) (.str z):=by rw[ak]
theorem iw {K:PySem.W.Frag} {H:Hp} {a:Addr} {xs:List V} {ds:List Dt} (h:aW K H a xs) (d:aA K H xs ds):ak K H (.ref a) (.tup ds):=by rw[ak];exact⟨a,xs,rfl,h,d⟩
theorem oA {K:PySem.W.Frag} {H:Hp} {a:Addr} {xs:List V} {ds:List Dt} (h:a_ K H a xs) (d:aA K H xs ds):ak K H (.ref a) (.lst ds):=by rw[ak];exact⟨a,xs,rfl,h,d⟩
theorem dP {K:PySem.W.Frag} {H:Hp}:aA K H [] []:=by simp[aA]
theorem bX {K:PySem.W.Frag} {H:Hp} {x:V} {xs:List V} {d:Dt} {ds:List Dt} (h:ak K H x d) (t:aA K H xs ds):aA K H (x::xs) (d::ds):=by rw[aA];exact⟨h,t⟩
theorem wy {K:PySem.W.Frag} {H:Hp}:∀{xs ys:List V} {ds es:List Dt},aA K H xs ds→aA K H ys es→aA K H (xs++ys) (ds++es)
 | [],_,[],_,_,h=>h
 | [],_,_::_,_,h,_=>by simp[aA] at h
 | _::_,_,[],_,h,_=>by simp[aA] at h
 | x::xs,_,d::ds,_,h,g=>by
  rw[aA] at h
  exact bX h.1 (wy h.2 g)
theorem nO {K:PySem.W.Frag} {H:Hp}:∀(ys:List Str),aA K H (ys.map V.str) (ys.map Dt.str)
 | []=>dP
 | y::ys=>bX oz (nO ys)
theorem ix {ns:List Str} {i:Nat} {x:V} (h:(ns.map V.str)[i]? =some x):∃f,x=.str f∧ns[i]? =some f:=by
 rw[List.getElem?_map] at h
 cases e:ns[i]? with
 | none=>rw[e] at h;cases h
 | some f=>rw[e] at h;exact⟨f,(Option.some.inj h).symm,rfl⟩
end L2
namespace L2
open PySem
def cW (d e:Addr) (H H':Hp):Prop:=∀b o,H b=some o→b≠d→b≠e→H' b=some o
theorem cW.trans {d e:Addr} {H H1 H2:Hp} (a:cW d e H H1) (b:cW d e H1 H2):cW d e H H2:=fun c o h n m=>b c o (a c o h n m) n m
theorem KB.l {d e:Addr} {H H':Hp} (k:KB d H H'):cW d e H H':=fun b o h n _=>k b o h n
theorem KB.r {d e:Addr} {H H':Hp} (k:KB e H H'):cW d e H H':=fun b o h _ n=>k b o h n
theorem Same.kb2 {d e:Addr} {H H':Hp} (s:Same H H'):cW d e H H':=fun b o h _ _=>s b o h
end L2
namespace L2
open PySem PySem.Spec PyProof.Rows
theorem Ew:typeLookup (.type "list_reverseiterator") "__len__"=pure none:=by rw[typeLookup_type,builtinLookup_eq_fast];kernel_rfl
theorem HE:typeLookup (.type "list_reverseiterator") "__length_hint__"=pure (some (.builtin "list_reverseiterator.__length_hint__")):=by rw[typeLookup_type,builtinLookup_eq_fast];kernel_rfl
section
variable {prog:Program} {w:World} {A:Around} {s:Shared} {R:Result→Shared→Prop}
theorem zZ {I l S:Addr} {its:Array Value} {res:Value} {c0:Nat} (hh:A.handled=none) (hlI:l≠I) (hSI:S≠I) (hSl:S≠l) (hit:s.heap.IsRevIter I l ((its.size:Int)-1)) (hl:s.heap.IsList l its) (hz:its.size≤sizeLine)
  (hS:s.heap.get? S=some {cls:=.type "list",data:=.seq #[] c0})
  (hR:∀h' tk acc c,(∀b o,b≠S→b≠I→s.heap.get? b=some o→h'.get? b=some o)→h'.get? S=some {cls:=.type "list",dict:=none,data:=.seq acc c,slots:= #[]}→ItemsOf (fun i v=>its[its.size-1-i]? =some v) acc its.size→
   R (.ok (.ret res)) {s with heap:=h',toks:=tk}):
  wpAny (model prog w) A.in1 (Builtin.List.listExtendWith (.ref S) (.ref I) res) (fun fin s'=>match fin with | .done f=>R (.ok f) s' | .again c'=>c'.quiet=true∧codeAny (model prog w) A c' R s') (fun e s'=>R (.error e) s') s:=by
 have hSf:S ∉ [I,l]:=fun hm=>by
  rcases List.mem_cons.mp hm with z | z
  ·exact hSI z
  ·exact hSl (List.mem_singleton.mp z)
 have W:=(Walks.listRev (prog:=prog) (w:=w) (A:=A.in1) hh I l hlI its).toS
 unfold Builtin.List.listExtendWith
 (refine wpAny_bind (wpAny_typeOf hit.typeIs ?_))
 have g1:Builtin.List.listSameRef (.ref S) (.ref I)=false:=by simp[Builtin.List.listSameRef,hSI]
 rw[if_neg (by rw[g1];decide)];refine wpAny_bind (wpAny_pyIter_revIter hit ?_)
 (refine wpAny_bind (wpAny_holding ?_));unfold Builtin.List.listLengthHint
 refine wpAny_bind (wpAny_specialOf hit.typeIs Ew ?_)
 show wpAny _ A.in1 (specialOf (Value.ref I) (Str.ofString "__length_hint__") >>= _) _ _ s
 refine wpAny_bind (wpAny_specialOf hit.typeIs HE ?_)
 generalize hid:("list_reverseiterator.__length_hint__":String)=id0
 wp_delta
 rw[show splitId id0=some ("list_reverseiterator","__length_hint__") from by subst hid;decide+kernel];subst hid
 refine wpAny_bind (wpAny_isInstance (T:="list_reverseiterator") (b:=true) hit.typeIs (by rw[isSubtype_type];kernel_rfl) ?_)
 (refine wpAny_pure ?_);rw[if_neg (by decide)]
 refine wpAny_pure ⟨plainId_quiet F.plain_extend_loop _,codeAny_extend_loopS W hz S hSf res its.size 0 s _ c0 rfl (Nat.zero_le _) ⟨Nat.zero_le _,by simpa using hit,hl⟩ hS (ItemsOf.nil _) fun s' acc c hm hS' ha=>?_⟩
 rw[Moved.eq_with hm]
 refine hR s'.heap s'.toks acc c (fun b o hb hb' e=>hm.heap b o (fun z=>?_) e) hS' ha
 rcases List.mem_cons.mp z with z | z
 ·exact hb z
 ·exact hb' (List.mem_singleton.mp z)
end
section
variable {prog:Program} {w:World} {A:Around} {E:Value→Shared→Prop} {s:Shared}
theorem uO {Q:Value→Shared→Prop} {I l:Addr} {its:Array Value} (hh:A.handled=none) (hlI:l≠I) (hit:s.heap.IsRevIter I l ((its.size:Int)-1)) (hl:s.heap.IsList l its) (hz:its.size≤sizeLine)
  (hQ:∀h' tk acc c,(∀b o,b≠I→s.heap.get? b=some o→h'.get? b=some o)→h'.get? s.heap.objs.size=some {cls:=.type "list",dict:=none,data:=.seq acc c,slots:= #[]}→ItemsOf (fun i v=>its[its.size-1-i]? =some v) acc its.size→
   Q (.ref s.heap.objs.size) {s with heap:=h',toks:=tk}):wpAny (model prog w) A (call (.type "list") [.ref I]) Q E s:=by
 have bI:I<s.heap.objs.size:=by obtain⟨o,e,_⟩:=hit;exact Heap.lt_size e
 have bl:l<s.heap.objs.size:=by obtain⟨o,e,_⟩:=hl;exact Heap.lt_size e
 refine callType_codes (Q₁:=fun obj s1=>obj=.ref s.heap.objs.size∧s1={s with heap:=s.heap.push {cls:=.type "list",data:=.seq #[]}}) F.called_list (F.typeCall_list_1 _) F.entry_list_init (code_list_new _ ⟨rfl,rfl⟩) fun obj s1 e1=>?_
 obtain⟨rfl,rfl⟩:=e1
 have hS:(s.heap.push {cls:=.type "list",data:=.seq #[]}).get? s.heap.objs.size=some {cls:=.type "list",data:=.seq #[]}:=Heap.get?_push_size _ rfl
 have old:∀b o,s.heap.get? b=some o→b≠s.heap.objs.size:=fun b o e=>Nat.ne_of_lt (Heap.lt_size e)
 refine⟨⟨_,hS,rfl⟩,F.args_list_init_2 _ _,?_⟩
 show wpAny _ _ (do let old ←Builtin.List.listItems (.ref s.heap.objs.size);Builtin.List.listUpdate (.ref s.heap.objs.size) (fun _=> #[]);letGo old.toList.reverse;Builtin.List.listExtendWith (.ref s.heap.objs.size) (.ref I) .none) _ _ _
 (refine wpAny_bind ?_);unfold Builtin.List.listItems;refine wpAny_bind (wpAny_seqItems hS rfl (wpAny_pure ?_))
 show wpAny _ _ (updateSeq s.heap.objs.size (fun _=> #[]) >>= fun _=>letGo (#[]:Array Value).toList.reverse >>= fun _=>Builtin.List.listExtendWith (.ref s.heap.objs.size) (.ref I) .none) _ _ _
 refine wpAny_bind (wpAny_updateSeq hS rfl ?_)
 have hS2:=Heap.get?_update_self (Obj.mapSeq (fun _=>(#[]:Array Value))) hS rfl
 have oth:∀b o,s.heap.get? b=some o→((s.heap.push {cls:=.type "list",data:=.seq #[]}).update s.heap.objs.size (Obj.mapSeq (fun _=>(#[]:Array Value)))).get? b=some o:=
  fun b o e=>(Heap.get?_update_other _ _ (Ne.symm (old b o e))).trans (Heap.get?_push_of_some _ e)
 (refine wpAny_bind (wpAny_letGo ?_));refine zZ (A:=A.in1) hh hlI (Nat.ne_of_gt bI) (Nat.ne_of_gt bl) (hit.at fun o e=>oth _ o e) (hl.at fun o e=>oth _ o e) hz hS2 fun h' tk acc c k e a=>?_
 exact⟨rfl,hQ h' tk acc c (fun b o hb e=>k b o (old b o e) hb (oth b o e)) e a⟩
end
theorem lA {α β:Type} {r:α→β→Prop} {xs:List α} {ys:List β} (h:Paired r xs ys):Paired r xs.reverse ys.reverse:=by
 induction h with
 | nil=>exact .nil
 | cons a _ ih=>rw[List.reverse_cons,List.reverse_cons];exact bJ ih (.cons a .nil)
theorem BO {its:List Value} {acc:Array Value} (h:ItemsOf (fun i v=>its.toArray[its.toArray.size-1-i]? =some v) acc its.toArray.size):acc.toList=its.reverse:=by
 obtain⟨hs,hv⟩:=h
 simp only[List.size_toArray,List.getElem?_toArray] at hs hv
 apply List.ext_getElem?
 intro j
 by_cases hj:j<its.length
 ·have e1:acc[j]? =some acc[j]:=Array.getElem?_eq_getElem (by omega)
  have e2:=hv j _ e1
  rw[List.getElem?_reverse hj,e2,Array.getElem?_toList,e1]
 ·rw[List.getElem?_eq_none (by rw[Array.length_toList];omega),List.getElem?_eq_none (by rw[List.length_reverse];omega)]
section
variable {X:Cx}
def Vd (K:PySem.W.Frag) (ta:TA):TE:=fun σ H Q=>ta σ H fun vs H1=>∃(a:Addr) (xs:List V),vs=[.ref a]∧a_ K H1 a xs∧∀l,H1 l=none→Q (.ref l) (upd H1 l (.lst xs.reverse))
theorem z_ (K:PySem.W.Frag) {a:Expr} {ta:TA} {p p' pos pos':Pos} (hc:X.calm=true) (hg:Gl X "list") (hm:X.mg "list"=none) (hg':Gl X "reversed") (hm':X.mg "reversed"=none) (ha:PA X [a] ta) (hK:X.K=K:=by rfl)
  (hs:starEach [a] X.env=[(false,eval a X.env)]:=by rfl):PE X (.Call (.Name "list" p) [.Call (.Name "reversed" p') [a] [] pos'] [] pos) (Vd K ta):=by
 subst hK
 intro pins s σ H Q I h
 refine wpAny_Call_Name_kw (gi I hg hm yY ?_)
 refine PyProof.Rows.callWith_type1 ?_ rfl rfl
 rw[show starEach [.Call (.Name "reversed" p') [a] [] pos'] X.env=[(false,eval (.Call (.Name "reversed" p') [a] [] pos') X.env)] from rfl]
 show wpAny _ _ (spliced [(false,eval (.Call (.Name "reversed" p') [a] [] pos') X.env)]) _ _ s
 refine Calls.spliced_cons ?_
 refine Call_ (gi I hg' hm' yB (PyProof.Rows.callWith_type1 (aE (ha pos' pins s σ H _ I h) fun us s1 ⟨vs,H1,I1,r1,q1⟩=>?_) hs rfl))
 obtain⟨l,xs,e,hq,q⟩:=q1
 subst e
 cases r1 with
 | cons r rr=>
  cases rr
  cases r
  obtain⟨its,rv,pl,hz⟩:=I1.list hq
  have hl:=rv.length
  refine call_reversed_list pl.isList (Calls.spliced_nil ?_)
  have bl:l<s1.heap.objs.size:=by obtain⟨o,e,_⟩:=pl.isList;exact Heap.lt_size e
  refine uO (I1.ok.hd hc) (I:=s1.heap.objs.size) (its:=its.toArray) (Nat.ne_of_lt bl) ⟨_,Heap.get?_push_size _ rfl,rfl,rfl⟩ (pl.isList.push _) (by simp only[List.size_toArray];omega) fun h' tk acc c k e it=>?_
  have ei:=BO it
  have kp:∀b u,s1.heap.get? b=some u→h'.get? b=some u:=fun b u e=>k b u (Nat.ne_of_lt (Heap.lt_size e)) (Heap.get?_push_of_some _ e)
  rw[Heap.size_push] at e
  have hp:s1.heap.objs.size≤s1.heap.objs.size+1:=Nat.le_succ _
  refine⟨.ref (s1.heap.objs.size+1),_,I1.laid (t':=tk) kp hp (show bb X.prog X.w _ h' _ (.lst xs.reverse) from⟨by rw[List.length_reverse];exact hz,acc.toList,c,by rw[ei];exact lA rv,e⟩),?_,q _ (I1.hok.fresh hp)⟩
  show RelV (.ref _) _
  rw[show(s1.heap.push (revObj l ((its.toArray.size:Int)-1))).objs.size=s1.heap.objs.size+1 from Heap.size_push ..]
  rfl
end
end L2
namespace L2
open PySem PySem.Spec PyProof.Rows
open AutoSeq1 (wpAny_loadPart')
section
variable {prog:Program} {w:World} {A:Around} {E:Value→Shared→Prop} {s:Shared}
theorem gm {it t:Addr} {i:Nat} {items:Array Value} {x:Value} {Q:Value→Shared→Prop} (hit:s.heap.IsTupleIter it t i) (ht:s.heap.IsTuple t items) (hx:items[i]? =some x)
  (hQ:∀h',h'.IsTupleIter it t (i+1)→Heap.SameBut it s.heap h'→Q x {s with heap:=h'}):wpAny (model prog w) A (Builtin.SmallTypes.nextOf (.ref it)) Q E s:=by
 obtain⟨o,ho,hc,hd⟩:=id hit
 obtain⟨ol,hol,_,nl,hdl⟩:=ht
 unfold Builtin.SmallTypes.nextOf
 refine wpAny_bind (wpAny_callSpecial?_slot (name:=Str.ofString "__next__") hit.typeIs F.slot_tuple_iterator_next (wpAny_call_entry F.slot_tuple_iterator_next hit.typeIs F.entry_tuple_iterator_next ?_ (F.args_tuple_iterator_next_1 _)))
 (show wpAny _ _ (field (.ref it) 0 >>= _) _ _ s);(refine wpAny_bind (wpAny_field ho hd (x:=.ref t) rfl ?_))
 (show wpAny _ _ (if(Value.ref t == Value.none)=true then _ else _) _ _ s);rw[if_neg (show ¬((Value.ref t == Value.none)=true) from Bool.false_ne_true)]
 (show wpAny _ _ (field (.ref it) 1 >>= _) _ _ s);(refine wpAny_bind (wpAny_field ho hd (x:=.int i 0) rfl ?_))
 (show wpAny _ _ (seqItems? (.ref t) >>= _) _ _ s);(refine wpAny_bind (wpAny_seqItems hol hdl ?_))
 simp only[Int.toNat_natCast,hx];refine wpAny_bind (wpAny_setField ho hd (by simp) (wpAny_pure ⟨x,rfl,wpAny_pure (hQ _ ?_ (Heap.SameBut.update ..))⟩))
 exact⟨_,Heap.get?_update_self _ ho (Obj.isFreed_of_fields (Obj.data_mapFields hd _)),(Obj.cls_mapFields ..).trans hc,(by rw[Obj.data_mapFields hd];simp[rawInt])⟩
theorem kr {it t:Addr} {i:Nat} {items:Array Value} {Q:Value→Shared→Prop} (hh:A.handled=none) (hit:s.heap.IsTupleIter it t i) (ht:s.heap.IsTuple t items) (hx:items[i]? =none)
  (hE:∀h' e,Heap.ExtBut it s.heap h'→(∃o,h'.get? e=some o∧o.cls=.type "StopIteration")→E (.ref e) {s with heap:=h'}):wpAny (model prog w) A (Builtin.SmallTypes.nextOf (.ref it)) Q E s:=by
 obtain⟨o,ho,hc,hd⟩:=id hit
 obtain⟨ol,hol,_,nl,hdl⟩:=ht
 unfold Builtin.SmallTypes.nextOf
 refine wpAny_bind (wpAny_callSpecial?_slot (name:=Str.ofString "__next__") hit.typeIs F.slot_tuple_iterator_next (wpAny_call_entry F.slot_tuple_iterator_next hit.typeIs F.entry_tuple_iterator_next ?_ (F.args_tuple_iterator_next_1 _)))
 (show wpAny _ _ (field (.ref it) 0 >>= _) _ _ s);(refine wpAny_bind (wpAny_field ho hd (x:=.ref t) rfl ?_))
 (show wpAny _ _ (if(Value.ref t == Value.none)=true then _ else _) _ _ s);rw[if_neg (show ¬((Value.ref t == Value.none)=true) from Bool.false_ne_true)]
 (show wpAny _ _ (field (.ref it) 1 >>= _) _ _ s);(refine wpAny_bind (wpAny_field ho hd (x:=.int i 0) rfl ?_))
 (show wpAny _ _ (seqItems? (.ref t) >>= _) _ _ s);(refine wpAny_bind (wpAny_seqItems hol hdl ?_))
 simp only[Int.toNat_natCast,hx];refine wpAny_bind (wpAny_rule (wpAny_bind (wpAny_setField ho hd (by simp) ?_)))
 (show wpAny _ _ (newExc (.type "StopIteration") [] >>= _) _ _ _);(refine wpAny_bind ?_);simp only[newExc,newTuple]
 (refine wpAny_bind (wpAny_newObj_type ?_ (by size_fits)))
 (refine wpAny_bind (m:=firstArgMember _ _) (wpAny_of_eq (a:=Value.none) (by first | rfl | (simp only[firstArgMember];rfl)) ?_));(refine wpAny_newObj_type ?_ (by size_fits))
 simp only[raiseNew];refine wpAny_bind (wpAny_handled ?_)
 (first | rw[show A.in1.handled=none from hh] | rw[hh]);refine wpAny_bind (wpAny_pure (wpAny_throw ?_))
 exact hE _ _ (((Heap.SameBut.update (a:=it) ..).extBut.push _).push _) ⟨_,Heap.get?_push_size _ rfl,rfl⟩
end
end L2
namespace L2
open PySem PySem.Spec PyProof.Rows
section
variable {X:Cx}
def QJ (K:PySem.W.Frag):List V→Hp→VK→Prop:=fun xs H Q=>∃(a:Addr) (bs:List Bool),xs=[.ref a]∧a_ K H a (bs.map V.bl)∧Q (.bl (bs.all id)) H
theorem Aa {bs:List Bool} {its:List Value} (r:Vals (bs.map V.bl) its):its=bs.map Value.bool:=by
 induction bs generalizing its with
 | nil=>cases r;rfl
 | cons b bs ih=>
  cases r with
  | cons r1 r2=>
   rw[List.map_cons,ih r2]
   exact congrArg (· ::_) r1
theorem BP (K:PySem.W.Frag) (hc:X.calm=true) (hK:X.K=K:=by rfl):cv X (.builtin "all") (QJ K):=by
 subst hK
 intro pins s σ H xs us Q I r h
 obtain⟨a,bs,rfl,hq,q⟩:=h
 obtain⟨u,rfl,ru⟩:=vals1 r
 cases ru
 obtain⟨its,rv,p,_⟩:=I.list hq
 have e:=Aa rv
 have bl:a<s.heap.objs.size:=by obtain⟨o,e,_⟩:=p.isList;exact Heap.lt_size e
 refine call_all_walk ?_
 refine wpAny_pyIter_list p.isList ?_
 refine⟨s.heap.objs.size,_,_,_,_,_,fun i=>(bs.getD i false),rfl,Walks.list (A:=X.A.in1) (I.ok.hd hc) _ a (Nat.ne_of_lt bl) its.toArray,⟨⟨_,Heap.get?_push_size _ rfl,rfl,rfl⟩,p.isList.push _⟩,?_,fun h' tk k=>?_⟩
 ·intro i v s' Q' E' hv hQ'
  have:v=.bool (bs.getD i false):=by
   rw[List.getElem?_toArray,e,List.getElem?_map] at hv
   rw[List.getD_eq_getElem?_getD]
   cases eb:bs[i]? with
   | none=>rw[eb] at hv;cases hv
   | some b=>rw[eb] at hv;exact(Option.some.inj hv).symm
  rw[this]
  exact wpAny_truthy_bool hQ'
 ·refine⟨.bl (bs.all id),H,I.kept fun b o eo=>k b o (fun z=>Nat.ne_of_lt (Heap.lt_size eo) (List.mem_singleton.mp z)) (Heap.get?_push_of_some _ eo),?_,q⟩
  have hl:its.toArray.size=bs.length:=by simp[e]
  have ea:∀cs:List Bool,(List.range cs.length).all (fun i=>cs.getD i false)=cs.all id:=fun cs=>by
   induction cs with
   | nil=>rfl
   | cons c cs ih=>
    rw[List.length_cons,List.range_succ_eq_map,List.all_cons,List.all_map,List.all_cons,←ih]
    rfl
  show _=Value.bool _
  rw[hl,ea]
theorem qo:∀{vs:List Value} {ss:List Str},vs.length=ss.length→(∀(i:Nat) (v:Value) (x:Str),vs[i]? =some v→ss[i]? =some x→∃t,v=.str x t)→StrsAre vs ss
 | [],[],_,_=>.nil
 | [],_::_,h,_=>by cases h
 | _::_,[],h,_=>by cases h
 | v::vs,x::ss,h,k=>by
  obtain⟨t,rfl⟩:=k 0 v x rfl rfl
  exact .cons x t (qo (Nat.succ.inj h) fun i v y e1 e2=>k (i+1) v y e1 e2)
end
section
variable {X:Cx} {pins:List (Addr×Obj)} {σ:List (Option V)} {H:Hp} {s:Shared}
theorem Inv.freeze {d:Addr} {kvs:List (Key×V)} (I:Inv X pins σ H s) (e:H d=some (.dK kvs)):∃o,Inv X pins σ (upd H d (.c_ o (.dK kvs))) s:=by
 obtain⟨hz,lo,vs,rel,dd⟩:=zW I.hok e
 obtain⟨o,es,ep,ho,r⟩:=id dd
 exact⟨o,I.write (x:=d) (e:=d) (o:=.c_ o (.dK kvs)) (h':=s.heap) (t':=s.toks) (by rw[e];trivial) (.inl rfl) (fun b u _ q=>q) ⟨o,ho⟩ ⟨ho,hz,lo,vs,rel,dd⟩⟩
theorem Inv.frozen {d:Addr} {kvs:List (Key×V)} {o:Obj} (I:Inv X pins σ H s) (e:H d=some (.c_ o (.dK kvs))):∃vs es ep,KV kvs vs∧o.data=.dict es ep∧s.heap.DictAt (aV X.prog X.w) d vs ep∧(d == sysModules)=false:=by
 obtain⟨ho,hz,lo,vs,rel,dd⟩:=(show bb X.prog X.w H s.heap d (.c_ o (.dK kvs)) from I.hok d _ e)
 obtain⟨o2,es,ep,ho2,r1,r2,r3⟩:=id dd
 have:o2=o:=by rw[ho] at ho2;exact(Option.some.inj ho2).symm
 subst this
 exact⟨vs,es,ep,rel,r2,⟨o2,es,ho2,r1,r2,r3⟩,lo⟩
end
theorem Ju {k:Key} {v:Value} (h:lP k v=true):RelV (kV k) v:=by
 rcases ck h with⟨i,t,rfl,rfl⟩ | ⟨x,t,rfl,rfl⟩
 ·exact⟨t,rfl⟩
 ·exact⟨t,rfl⟩
theorem Nm {kvs:List (Key×V)} {vs:List (Key×Value)} (r:KV kvs vs) {i:Nat} {k:Key} {v:V} (e:kvs[i]? =some (k,v)):∃u,vs[i]? =some (k,u)∧RelV v u:=by
 unfold KV at r
 induction r generalizing i with
 | nil=>simp at e
 | @cons p q ps qs h t ih=>
  cases i with
  | zero=>
   have e':p=(k,v):=by simpa using e
   subst e'
   obtain⟨q1,q2⟩:=q
   obtain⟨h1,h2⟩:=h
   cases(show k=q1 from h1)
   exact⟨q2,rfl,h2⟩
  | succ i=>exact ih (by simpa using e)
def y9 (d:Addr) (o:Obj) (kvs:List (Key×V)):It:=
 ⟨fun i H=>H d=some (.c_ o (.dK kvs))∧i<kvs.length,fun i H x H'=>H'=H∧∃k v,kvs[i]? =some (k,v)∧x=kV k,fun i H=>H d=some (.c_ o (.dK kvs))∧kvs.length≤i⟩
theorem BQ {P:Program} {w:World} {K:PySem.W.Frag} {tg:Expr} (d it:Addr) (o:Obj) (kvs:List (Key×V)):
  Turn P w K tg (y9 d o kvs) [it] it (fun i h=>∃es ep,o.data=.dict es ep∧h.IsKeyIter it d i kvs.length ep) where
 mem:=by simp
 obj:=fun i h st b hb=>by
  have e:b=it:=by simpa using hb
  subst e
  obtain⟨_,_,_,o,e,c,d⟩:=st
  exact⟨o,e,fun v z=>by rw[d] at z;cases z⟩
 keep:=fun i h h' st k=>by
  obtain⟨es,ep,h1,st⟩:=st
  exact⟨es,ep,h1,st.at fun o e=>k it (by simp) o e⟩
 item:=by
  intro X hP hw hK hc i pins s σ H E I hf st hg
  subst hP hw hK
  obtain⟨es,ep,h1,st⟩:=st
  obtain⟨hH,hi⟩:=hg
  obtain⟨vs,es',ep',rel,h2,da,lo⟩:=I.frozen hH
  have ee:ep'=ep:=by rw[h1] at h2;cases h2;rfl
  subst ee
  have hl:kvs.length=vs.length:=rel.length
  obtain⟨⟨k,v⟩,hk⟩:∃p,kvs[i]? =some p:=⟨kvs[i],by simp[hi]⟩
  obtain⟨u,hu,ru⟩:=Nm rel hk
  obtain⟨f0,f1,f2,f3,f4,f5⟩:=hf it (by simp)
  rw[hl] at st
  refine wpAny_pyNext_dict_item st da hu fun key h' hkey st' sb=>?_
  have I1:Inv X pins σ H {s with heap:=h'}:=I.turned (t':=s.toks) (fun b o hb e=>(sb.2 b hb).trans e) f0 f1 f3 f4 f5
  obtain⟨o',e,c,d'⟩:=id st'
  rw[←hl] at st'
  exact⟨key,rfl,p9 (s:={s with heap:=h'}) e c d' (by decide) ⟨kV k,H,I1,Ju hkey,⟨rfl,k,v,hk,rfl⟩,⟨es,ep',h1,st'⟩,fun b hb=>(hf b hb).1⟩⟩
 done:=by
  intro X hP hw hK hc i pins s σ H E I hf st hg
  subst hP hw hK
  obtain⟨es,ep,h1,st⟩:=st
  obtain⟨hH,hi⟩:=hg
  obtain⟨vs,es',ep',rel,h2,da,lo⟩:=I.frozen hH
  have ee:ep'=ep:=by rw[h1] at h2;cases h2;rfl
  subst ee
  have hl:kvs.length=vs.length:=rel.length
  rw[hl] at st
  obtain⟨f0,f1,f2,f3,f4,f5⟩:=hf it (by simp)
  exact wpAny_pyNext_dict_end (I.ok.hd hc) st da (List.getElem?_eq_none (by omega)) fun h' eb=>⟨rfl,I.turned (t':=s.toks) (fun b o hb e=>eb b o hb e) f0 f1 f3 f4 f5⟩
 self:=fun _ _ _ _ _ st h=>by
  obtain⟨_,_,_,st⟩:=st
  exact wpAny_pyIter_keyiter st h
section
variable {X:Cx} {tg:Expr}
def Jv (tl:TE):TI:=fun σ H R=>tl σ H fun x H1=>∃d kvs,x=.ref d∧H1 d=some (.dK kvs)∧∀o,R (y9 d o kvs) (upd H1 d (.c_ o (.dK kvs)))
theorem Ex {l:Expr} {tl:TE} (hl:PE X l tl):PI X tg l (Jv tl):=by
 intro pins s σ H R I h
 refine aE (hl pins s σ H _ I h) fun v s1 ⟨x,H0,I0,r1,q1⟩=>?_
 obtain⟨d,kvs,e,hd0,q0⟩:=q1
 subst e
 cases r1
 obtain⟨o,I1⟩:=I0.freeze hd0
 have q:=q0 o
 have hd:(upd H0 d (.c_ o (.dK kvs))) d=some (.c_ o (.dK kvs)):=af
 generalize upd H0 d (.c_ o (.dK kvs))=H1 at I1 q hd
 obtain⟨vs,es,ep,rel,h2,da,lo⟩:=I1.frozen hd
 have hl':kvs.length=vs.length:=rel.length
 refine wpAny_pyIter_dict lo da ?_
 refine⟨s1.heap.objs.size,[s1.heap.objs.size],_,_,H1,rfl,I1.kept (t':=s1.toks) fun b o e=>Heap.get?_push_of_some _ e,BQ d _ o kvs,⟨es,ep,h2,⟨_,Heap.get?_push_size _ rfl,rfl,by rw[hl'];rfl⟩⟩,fun b hb=>?_,q⟩
 have e:b=s1.heap.objs.size:=by simpa using hb
 subst e
 exact I1.jc (Nat.le_refl _) (I1.hok.fresh (Nat.le_refl _))
end
theorem Ey {d:Addr} {ob:Obj} {kvs:List (Key×V)} {g:TG} {tb:TS} {D:Ends} {σ:St} {H:Hp} (Pv:Nat→St→Hp→Prop) (h0:Pv 0 σ H) (hl:∀i σ H,i≤kvs.length→Pv i σ H→H d=some (.c_ ob (.dK kvs)))
  (hs:∀i k v σ H,kvs[i]? =some (k,v)→Pv i σ H→g (kV k) σ H fun σ2 H2=>tb {D with nx:=Pv (i+1),ct:=Pv (i+1),bk:=D.nx} σ2 H2) (hd:∀σ H,Pv kvs.length σ H→D.nx σ H):
  ∃W:Nat→Nat→St→Hp→Prop,(∃m,W 0 m σ H)∧∀i m σ H,W i m σ H→
   ((y9 d ob kvs).stop i H∧D.nx σ H)∨((y9 d ob kvs).go i H∧∃N:St→Hp→Prop,(∀σ' H',N σ' H'→∃m',m'<m∧W (i+1) m' σ' H')∧∀x H',(y9 d ob kvs).nF i H x H'→g x σ H' fun σ2 H2=>tb {D with nx:=N,ct:=N,bk:=D.nx} σ2 H2):=by
 refine⟨fun i m σ H=>m=kvs.length-i∧i≤kvs.length∧Pv i σ H,⟨kvs.length,by simp,Nat.zero_le _,h0⟩,?_⟩
 rintro i m σ H ⟨rfl,hi,p⟩
 have q:=hl i σ H hi p
 by_cases hlt:i<kvs.length
 ·refine .inr ⟨⟨q,hlt⟩,Pv (i+1),fun σ' H' p'=>⟨kvs.length-(i+1),by omega,rfl,hlt,p'⟩,fun x H' y=>?_⟩
  obtain⟨rfl,k,v,hk,rfl⟩:=y
  exact hs i k v σ H' hk p
 ·have e:i=kvs.length:=by omega
  subst e
  exact .inl ⟨⟨q,Nat.le_refl _⟩,hd σ H p⟩
section
variable {X:Cx}
def Nn:List V→Hp→VK→Prop:=fun xs H Q=>∃(d:Addr) (kvs:List (Key×V)),xs=[.ref d]∧Rd H d (.dK kvs)∧∀p,H p=none→Q (.ref p) (upd H p (.dK kvs))
theorem Ab:cv X (.type "dict") Nn:=by
 intro pins s σ H xs us Q I r h
 obtain⟨d,kvs,rfl,hd,q⟩:=h
 obtain⟨u,rfl,ru⟩:=vals1 r
 cases ru
 obtain⟨hz,lo,vs,rel,dd⟩:=lU I.hok hd
 have hl:kvs.length=vs.length:=rel.length
 refine kt_call_dict lo dd (by omega) fun h' dn sb=>?_
 have kp:∀b u,s.heap.get? b=some u→h'.get? b=some u:=fun b u e=>(sb.2 b (Nat.ne_of_lt (Heap.lt_size e))).trans (Heap.get?_push_of_some _ e)
 have bg:(s.heap.objs.size == sysModules)=false:=beq_eq_false_iff_ne.mpr (Ne.symm (Nat.ne_of_lt I.big))
 exact⟨.ref s.heap.objs.size,_,I.laid (a:=s.heap.objs.size) (o:=.dK kvs) (t':=s.toks) kp (Nat.le_refl _) ⟨hz,bg,vs,rel,dn⟩,rfl,q _ (I.hok.fresh (Nat.le_refl _))⟩
end
section
variable {X:Cx} {pins:List (Addr×Obj)} {σ:List (Option V)} {H:Hp} {s:Shared} {h':Heap}
theorem Inv.rL {t':Nat} {ch:List Addr} (I:Inv X pins σ H s) (hf:∀b∈ch,fi X pins H b) (k:∀b u,b ∉ ch→s.heap.get? b=some u→h'.get? b=some u):Inv X pins σ H {s with heap:=h',toks:=t'}:=by
 have nz:∀b u,H b=some u→b ∉ ch:=fun b u e z=>by have q:=(hf b z).1;rw[e] at q;cases q
 refine I.step (g':=s.gens) (d':=s.drawn) (ch:=ch) (fun b hb=>?_) (fun b o _ _ hc e _=>k b o hc e) (fun b o _ _ hc e _=>⟨o.slots,k b o hc e⟩) (fun _ _ _ _ n=>n)
  (fun b o hc e=>⟨o,k b o hc e⟩) (fun _ _ e=>e) (fun _ _ _ e=>e) (fun b ps e=>⟨#[],by rw[e];simp⟩) (fun m hm=>?_) (fun b u e=>?_) I.bare
 ·obtain⟨f0,f1,f2,f3,f4,f5⟩:=hf b hb
  exact⟨f3,f1,f4,f5⟩
 ·obtain⟨ob,es,ep,ho,r⟩:=hm
  exact⟨ob,es,ep,k _ ob (fun z=>(hf _ z).2.1 rfl) ho,r⟩
 ·refine(I.hok b u e).stay (fun c v hc q=>k c v ?_ q) (fun _ q=>q) fun _ _ q=>q
  rcases hc with z | z
  ·rw[z];exact nz b u e
  ·exact nz c _ z
end
def Jw (K:PySem.W.Frag) (a b:Addr):It:=
 ⟨fun i H=>∃xs ys x y,a_ K H a xs∧a_ K H b ys∧xs[i]? =some x∧ys[i]? =some y,
  fun i H v H'=>∃x y p,(∀xs,a_ K H a xs→xs[i]? =some x)∧(∀ys,a_ K H b ys→ys[i]? =some y)∧H p=none∧v=.ref p∧H'=upd H p (.tup [x,y]),
  fun i H=>∃xs ys,a_ K H a xs∧a_ K H b ys∧(xs.length≤i∨ys.length≤i)⟩
theorem Ez {P:Program} {w:World} {K:PySem.W.Frag} {elts:List Expr} {x1} {tpos:Pos} (a b z TI TO i1 i2:Addr) (D:ZipApart z TI TO i1 i2 a b):
  Turn P w K (.Tuple elts x1 tpos) (Jw K a b) [z,TO,i1,i2,TI] z (fun i h=>IsZip h z TI TO .none∧IsPair h TI (.ref i1) (.ref i2)∧(∃x y,IsPair h TO x y)∧h.IsListIter i1 a i∧h.IsListIter i2 b i) where
 mem:=by simp
 obj:=fun i h st c hc=>by
  obtain⟨hz,hTI,⟨x,y,hTO⟩,h1,h2⟩:=st
  have hc':c=z∨c=TO∨c=i1∨c=i2∨c=TI:=by simpa using hc
  rcases hc' with q | q | q | q | q
  ·subst q;exact⟨_,hz,fun v e=>nomatch e⟩
  ·subst q;exact⟨_,hTO,fun v e=>nomatch e⟩
  ·subst q
   obtain⟨o,e,_,d⟩:=h1
   exact⟨o,e,fun v q=>by rw[d] at q;cases q⟩
  ·subst q
   obtain⟨o,e,_,d⟩:=h2
   exact⟨o,e,fun v q=>by rw[d] at q;cases q⟩
  ·subst q;exact⟨_,hTI,fun v e=>nomatch e⟩
 keep:=fun i h h' st k=>by
  obtain⟨hz,hTI,⟨x,y,hTO⟩,h1,h2⟩:=st
  exact⟨k z (by simp) _ hz,k TI (by simp) _ hTI,⟨x,y,k TO (by simp) _ hTO⟩,h1.at fun o q=>k i1 (by simp) o q,h2.at fun o q=>k i2 (by simp) o q⟩
 item:=by
  intro X hP hw hK hc i pins s σ H E I hf st hg
  subst hP hw hK
  obtain⟨hz,hTI,⟨u1,u2,hTO⟩,h1,h2⟩:=st
  obtain⟨xs,ys,x,y,hq,hq2,hx,hy⟩:=hg
  obtain⟨its,rv,p,_⟩:=I.list hq
  obtain⟨its2,jo,p2,_⟩:=I.list hq2
  obtain⟨u,hu,ru⟩:=rv.get hx
  obtain⟨v,hv,rv'⟩:=jo.get hy
  refine wpAny_pyNext_zip_item D hz hTI hTO h1 h2 p.isList p2.isList (x:=u) (y:=v) (by simpa using hu) (by simpa using hv) fun h1' a1 a2 a3 a4 a5 a6 kk=>?_
  have nn:H s.heap.objs.size=none:=I.hok.fresh (Nat.le_refl _)
  have nP:∀c∈[z,TO,i1,i2],fi X pins H c:=fun c hc=>hf c (by
   have hc':c=z∨c=TO∨c=i1∨c=i2:=by simpa using hc
   rcases hc' with q | q | q | q<;>simp[q])
  have I1:Inv X pins σ (upd H s.heap.objs.size (.tup [x,y])) {s with heap:=h1',toks:=s.toks}:=
   I.lX (ch:=[z,TO,i1,i2]) nP (fun c o hc q=>kk c o (fun e=>hc (by simp[e])) (fun e=>hc (by simp[e])) (fun e=>hc (by simp[e])) (fun e=>hc (by simp[e])) q) (Nat.le_refl _)
    ⟨⟨by show 2≤sizeLine;decide,_,a5,rfl⟩,[u,v],.cons ru (.cons rv' .nil),⟨_,a5,rfl,_,rfl⟩⟩
  have lz:z<s.heap.objs.size:=Heap.lt_size hz
  have BR:TI<s.heap.objs.size:=Heap.lt_size hTI
  have BS:TO<s.heap.objs.size:=Heap.lt_size hTO
  have l1:i1<s.heap.objs.size:=by obtain⟨o,q,_⟩:=id h1;exact Heap.lt_size q
  have l2:i2<s.heap.objs.size:=by obtain⟨o,q,_⟩:=id h2;exact Heap.lt_size q
  refine⟨_,rfl,wpAny_letOwnedTupleGo_zip a1 fun h2' e2 sb=>?_⟩
  obtain⟨f0,f1,f2,f3,f4,f5⟩:=hf z (by simp)
  have I2:=I1.turned (h':=h2') (t':=s.toks) (it:=z) (fun c o hc q=>(sb.2 c hc).trans q) (by rw[au (Nat.ne_of_lt lz)];exact f0) f1 f3 f4 f5
  refine⟨.ref s.heap.objs.size,_,I2,rfl,⟨x,y,s.heap.objs.size,fun zs hy=>by rw[I.ie hy hq];exact hx,fun zs hz'=>by rw[I.ie hz' hq2];exact hy,nn,rfl,rfl⟩,
   ⟨e2,(sb.2 TI D.TIz).trans (kk _ _ D.TIz D.TITO D.TIi1 D.TIi2 hTI),⟨_,_,(sb.2 TO D.TOz).trans a2⟩,a3.at fun o q=>(sb.2 i1 D.i1z).trans q,a4.at fun o q=>(sb.2 i2 D.i2z).trans q⟩,fun c hc=>?_⟩
  have hlt:c<s.heap.objs.size:=by
   have hc':c=z∨c=TO∨c=i1∨c=i2∨c=TI:=by simpa using hc
   rcases hc' with q | q | q | q | q
   ·rw[q];exact lz
   ·rw[q];exact BS
   ·rw[q];exact l1
   ·rw[q];exact l2
   ·rw[q];exact BR
  rw[au (Nat.ne_of_lt hlt)]
  exact(hf c hc).1
 done:=by
  intro X hP hw hK hc i pins s σ H E I hf st hg
  subst hP hw hK
  obtain⟨hz,hTI,⟨u1,u2,hTO⟩,h1,h2⟩:=st
  obtain⟨xs,ys,hq,hq2,hx⟩:=hg
  obtain⟨its,rv,p,_⟩:=I.list hq
  obtain⟨its2,jo,p2,_⟩:=I.list hq2
  have hl:=rv.length
  have hl2:=jo.length
  have hend:its.toArray[i]? =none∨its2.toArray[i]? =none:=by
   rcases hx with q | q
   ·exact .inl (by simp;omega)
   ·exact .inr (by simp;omega)
  have nP:∀c∈[z,TO,i1,i2],fi X pins H c:=fun c hc=>hf c (by
   have hc':c=z∨c=TO∨c=i1∨c=i2:=by simpa using hc
   rcases hc' with q | q | q | q<;>simp[q])
  exact wpAny_pyNext_zip_end (I.ok.hd hc) D hz hTI hTO h1 h2 p.isList p2.isList hend fun h' kk=>
   ⟨rfl,I.rL (t':=s.toks) (ch:=[z,TO,i1,i2]) nP (fun c o hc q=>kk c o (fun e=>hc (by simp[e])) (fun e=>hc (by simp[e])) (fun e=>hc (by simp[e])) (fun e=>hc (by simp[e])) q)⟩
 self:=fun _ _ _ _ _ st h=>wpAny_pyIter_zip st.1 h
def QK (K:PySem.W.Frag) (ta:TA):TI:=fun σ H R=>ta σ H fun vs H1=>∃a b,vs=[.ref a,.ref b]∧(∃xs,a_ K H1 a xs)∧(∃ys,a_ K H1 b ys)∧R (Jw K a b) H1
theorem Jx {X:Cx} {elts:List Expr} {x1} {tpos:Pos} {a b:Expr} {ta:TA} {p pos:Pos} (hg:Gl X "zip") (hm:X.mg "zip"=none) (ha:PA X [a,b] ta)
  (hs:starEach [a,b] X.env=[(false,eval a X.env),(false,eval b X.env)]:=by rfl) (hs2:starEach [b] X.env=[(false,eval b X.env)]:=by rfl):
  PI X (.Tuple elts x1 tpos) (.Call (.Name "zip" p) [a,b] [] pos) (QK X.K ta):=by
 intro pins s σ H R I h
 refine Call_ (gi I hg hm boot_zip (PyProof.Rows.callWith_type1 (aE (ha pos pins s σ H _ I h) fun us s1 ⟨vs,H1,I1,r1,q1⟩=>?_) (by rw[hs,hs2]) (by rw[hs2];rfl)))
 obtain⟨l1,l2,e,⟨xs,hq⟩,⟨ys,hq2⟩,q⟩:=q1
 subst e
 cases r1 with
 | cons r rr=>
  cases rr with
  | cons r' rr=>
   cases rr
   cases r
   cases r'
   obtain⟨its,rv,pl,_⟩:=I1.list hq
   obtain⟨its2,jo,tZ,_⟩:=I1.list hq2
   have a1:l1<s1.heap.objs.size:=by obtain⟨_,e,_⟩:=pl.isList;exact Heap.lt_size e
   have a2:l2<s1.heap.objs.size:=by obtain⟨_,e,_⟩:=tZ.isList;exact Heap.lt_size e
   refine call_zip_2 pl.isList tZ.isList fun h' hz hTI hTO hi1 hi2 hsz kk=>?_
   have I2:Inv X pins σ H1 {s1 with heap:=h'}:=I1.kept (t':=s1.toks) kk
   refine wpAny_pyIter_zip hz ?_
   refine⟨s1.heap.objs.size+4,[s1.heap.objs.size+4,s1.heap.objs.size+3,s1.heap.objs.size,s1.heap.objs.size+1,s1.heap.objs.size+2],_,_,H1,rfl,I2,Ez l1 l2 _ _ _ _ _ (zipApart_new a1 a2),⟨hz,hTI,⟨_,_,hTO⟩,hi1,hi2⟩,fun c hc=>?_,q⟩
   have hle:s1.heap.objs.size≤c:=by
    have hc':c=s1.heap.objs.size+4∨c=s1.heap.objs.size+3∨c=s1.heap.objs.size∨c=s1.heap.objs.size+1∨c=s1.heap.objs.size+2:=by simpa using hc
    rcases hc' with q | q | q | q | q<;>(rw[q];first | exact Nat.le_add_right _ _ | exact Nat.le_refl _)
   exact I1.jc hle (I1.hok.fresh hle)
theorem HF (t:SetTable) (es:Array (Int×Value)) (h:Int) (x:Value):(layNew t es h x).2.1.led=t.led:=by
 unfold layNew
 split
 ·unfold SetTable.put SetTable.orStandIn SetTable.standIn
  dsimp only
  repeat' split
  all_goals rfl
 ·rfl
theorem BU (t:SetTable) (es:Array (Int×Value)) (n:Nat):(relayAll t es n).2.1.led=t.led:=by
 unfold relayAll
 split
 ·rename_i q r e
  unfold SetTable.relaid SetTable.laid at e
  dsimp only
  split
  ·simp only[Option.bind_eq_bind,Option.bind_eq_some_iff,Option.pure_def,Option.some.injEq,Prod.mk.injEq] at e
   obtain⟨_,_,e1,_⟩:=e
   rw[←e1]
  ·rfl
 ·rfl
theorem yD {t:SetTable} (es:Array (Int×Value)) (n:Nat) (hp:t.plain=false):(relayAll t es n).2.1.plain=false:=by
 unfold relayAll
 split
 ·rename_i q r e
  unfold SetTable.relaid SetTable.laid at e
  dsimp only
  split
  ·simp only[Option.bind_eq_bind,Option.bind_eq_some_iff,Option.pure_def,Option.some.injEq,Prod.mk.injEq] at e
   obtain⟨_,_,e1,_⟩:=e
   rw[←e1]
   exact hp
  ·rfl
 ·rfl
structure cu (P:Program) (w:World) (h:Heap) (a:Addr) (es:Array (Int×Value)) (ep:Nat) (t:SetTable) (ks:List Str):Prop where
 obj:∃o,h.get? a=some o∧o.ExactSet∧o.data=.set es ep t
 elems:ElemsOf (strKind P w) es.toList
 small:es.size<scanBound
 fits:t.fits es.size=true
 led:t.led= !w.params.followText "set-order"
 plain:es.size≠0→t.plain=false
 vals:StrsAre (es.toList.map (·.2)) ks
 once:ks.Nodup
theorem cu.at {P:Program} {w:World} {h h':Heap} {a:Addr} {es:Array (Int×Value)} {ep:Nat} {t:SetTable} {ks:List Str} (s:cu P w h a es ep t ks) (k:∀o,h.get? a=some o→h'.get? a=some o):cu P w h' a es ep t ks:=by
 obtain⟨o,e,r⟩:=s.obj
 exact⟨⟨o,k o e,r⟩,s.elems,s.small,s.fits,s.led,s.plain,s.vals,s.once⟩
theorem cu.len {P:Program} {w:World} {h:Heap} {a:Addr} {es:Array (Int×Value)} {ep:Nat} {t:SetTable} {ks:List Str} (s:cu P w h a es ep t ks):es.size=ks.length:=by
 have:=s.vals.length
 rw[List.length_map,Array.length_toList] at this
 exact this
theorem j6 {vs us:List Value} (p:vs.Perm us):∀{ks:List Str},StrsAre us ks→∃ks',StrsAre vs ks'∧ks'.Perm ks:=by
 induction p with
 | nil=>intro ks h;cases h;exact⟨[],.nil,.refl _⟩
 | cons x _ ih=>
  intro ks h
  cases h with
  | cons y tk r=>
   obtain⟨k',a,b⟩:=ih r
   exact⟨y::k',.cons y tk a,b.cons y⟩
 | swap x y l=>
  intro ks h
  cases h with
  | cons a ta r=>
   cases r with
   | cons b tb r=>exact⟨b::a::_,.cons b tb (.cons a ta r),.swap a b _⟩
 | trans _ _ ih1 ih2=>
  intro ks h
  obtain⟨k1,a1,b1⟩:=ih2 h
  obtain⟨k2,a2,b2⟩:=ih1 a1
  exact⟨k2,a2,b2.trans b1⟩
theorem EA {us vs:List Value} {ks ls:List Str} (h1:StrsAre us ks) (h2:StrsAre vs ls):StrsAre (us++vs) (ks++ls):=by
 induction h1 with
 | nil=>exact h2
 | cons x tk _ ih=>exact .cons x tk ih
theorem EB {us:List Value} {ks:List Str} (h:StrsAre us ks) {x:Str}:x∈ks↔∃tk,Value.str x tk∈us:=by
 induction h with
 | nil=>simp
 | cons y tk _ ih=>
  constructor
  ·intro m
   rcases List.mem_cons.mp m with e | m
   ·exact⟨tk,by rw[e];exact List.mem_cons_self⟩
   ·obtain⟨t',m'⟩:=ih.mp m
    exact⟨t',List.mem_cons_of_mem _ m'⟩
  ·rintro⟨t',m⟩
   rcases List.mem_cons.mp m with e | m
   ·injection e with e1 _
    rw[e1];exact List.mem_cons_self
   ·exact List.mem_cons_of_mem _ (ih.mpr ⟨t',m⟩)
section
variable {P:Program} {w:World} {A:Around} {E:Value→Shared→Prop} {s:Shared}
theorem EC {a:Addr} {es:Array (Int×Value)} {ep:Nat} {t:SetTable} {ks:List Str} {x:Str} {tk:Tok} {Q:Bool→Shared→Prop} (S:cu P w s.heap a es ep t ks) (room:ks.length+1<scanBound)
  (hold:x∈ks→Q false s)
  (hnew:x ∉ ks→∀h' es' ep' t' ks',Heap.SameBut a s.heap h'→cu P w h' a es' ep' t' ks'→(∀y,y∈ks'↔y∈ks∨y=x)→ks'.length=ks.length+1→Q true {s with heap:=h'}):
  wpAny (model P w) A (setAddHashed a (.str x tk) (hashStr w x)) Q E s:=by
 obtain⟨o,ho,hex,hd⟩:=S.obj
 have Og:=S.len
 have Oh:(strKind P w).is x (.str x tk)=true:=strKind_is P w x tk
 have Jy:(Value.str x tk).scannable=true:=rfl
 have hhash:hashStr w x=(strKind P w).hash x:=rfl
 rw[hhash]
 unfold setAddHashed setAddHashedIn
 refine wpAny_holding (wpAny_bind (wpAny_setState_of ho hd S.fits ?_))
 dsimp only
 rw[byScan_of Jy S.small S.elems,if_pos rfl]
 unfold setAddByScan
 refine wpAny_bind (wpAny_bind (wpAny_rule (wpAny_bind (wpAny_setScan_of Oh ho hd S.fits S.elems ?_))))
 have Jz:x∈ks↔∃e∈es.toList,(strKind P w).is x e.2=true:=by
  rw[EB S.vals]
  constructor
  ·rintro⟨t',m⟩
   obtain⟨e,he,e2⟩:=List.mem_map.mp m
   exact⟨e,he,by rw[e2];exact strKind_is P w x t'⟩
  ·rintro⟨e,he,hi⟩
   obtain⟨t',e2⟩:=Value.isStrOf_shape (x:=x) (v:=e.2) hi
   exact⟨t',by rw[←e2];exact List.mem_map.mpr ⟨e,he,rfl⟩⟩
 cases hr:List.findIdx? (fun e=>(strKind P w).is x e.2) es.toList with
 | some j=>
  dsimp only
  obtain⟨hj,hpj,_⟩:=List.findIdx?_eq_some_iff_getElem.mp hr
  exact wpAny_pure (wpAny_pure (hold (Jz.mpr ⟨_,List.getElem_mem hj,hpj⟩)))
 | none=>
  dsimp only
  have nk:x ∉ ks:=fun m=>by
   obtain⟨e,he,hp⟩:=Jz.mp m
   have:=List.findIdx?_eq_none_iff.mp hr e he
   rw[hp] at this
   cases this
  have hperm:=layNew_perm t es ((strKind P w).hash x) (.str x tk)
  have hfits:=layNew_fits t es ((strKind P w).hash x) (.str x tk)
  have Ac:=HF t es ((strKind P w).hash x) (.str x tk)
  generalize layNew t es ((strKind P w).hash x) (.str x tk)=L at hperm hfits Ac ⊢
  obtain⟨es1,t1,wasDummy,gave⟩:=L
  dsimp only at hperm hfits Ac ⊢
  rw[Array.toList_push] at hperm
  have el1:ElemsOf (strKind P w) es1.toList:=(S.elems.push Oh Jy).perm hperm
  have YH:es1.size=es.size+1:=by rw[←Array.length_toList,hperm.length_eq,List.length_append,Array.length_toList];rfl
  have Oi:es1.size<scanBound:=by omega
  obtain⟨t_,v1,p1⟩:=j6 (hperm.map (·.2)) (ks:=ks++[x]) (by rw[List.map_append];exact EA S.vals (.cons x tk .nil))
  have Oj:t_.Nodup:=p1.nodup_iff.mpr (List.nodup_append.mpr ⟨S.once,by simp,fun y hy z hz=>by rw[List.mem_singleton.mp hz];exact fun e=>nk (e▸hy)⟩)
  have JA:∀y,y∈t_↔y∈ks∨y=x:=fun y=>by rw[p1.mem_iff,List.mem_append,List.mem_singleton]
  have mU:t_.length=ks.length+1:=by rw[p1.length_eq,List.length_append];rfl
  have fin:∀t2:SetTable,t2.fits es1.size=true→t2.led=t.led→t2.plain=false→
    wpAny (model P w) A (do
     storeSet a es1 t2
     if(!wasDummy&&t2.tooFull)=true then do
       (match (relayAll t2 es1 (SetTable.grown es1.size)).2.2 with | true=>rule "set.scan.the-table-gave-way" | false=>pure ())
       storeSet a (relayAll t2 es1 (SetTable.grown es1.size)).1 (relayAll t2 es1 (SetTable.grown es1.size)).2.1
       pure (some true)
      else pure (some true)) (fun r s'=>r=some true∧Q true s') E s:=fun t2 f2 l2 p2=>by
   refine wpAny_bind (wpAny_storeSet_of ho hd ?_ (fits_of_scanBound Oi))
   have hg:(s.heap.update a (Obj.putSet es1 t2)).get? a=some {o with data:=.set es1 (ep+1) t2}:=by
    have q:=Heap.get?_update_self (Obj.putSet es1 t2) ho (by rw[putSet_of es1 t2 hd];rfl)
    rw[putSet_of es1 t2 hd] at q
    exact q
   have Ol:=Heap.SameBut.update s.heap a (Obj.putSet es1 t2)
   have S1:cu P w (s.heap.update a (Obj.putSet es1 t2)) a es1 (ep+1) t2 t_:=⟨⟨_,hg,hex,rfl⟩,el1,Oi,f2,by rw[l2];exact S.led,fun _=>p2,v1,Oj⟩
   split
   ·have pr:=relayAll_perm t2 es1 (SetTable.grown es1.size)
    have fr:=relayAll_fits t2 es1 (SetTable.grown es1.size)
    have lr:=BU t2 es1 (SetTable.grown es1.size)
    have JB:=yD es1 (SetTable.grown es1.size) p2
    generalize relayAll t2 es1 (SetTable.grown es1.size)=Rl at pr fr lr JB ⊢
    obtain⟨es2,t3,gv⟩:=Rl
    dsimp only at pr fr lr JB ⊢
    have Ve:es2.size=es1.size:=by rw[←Array.length_toList,pr.length_eq,Array.length_toList]
    have Om:es2.size<scanBound:=by omega
    obtain⟨BV,v2,p2'⟩:=j6 (pr.map (·.2)) v1
    refine wpAny_bind ?_
    have rest:wpAny (model P w) A (do storeSet a es2 t3;pure (some true)) (fun r s'=>r=some true∧Q true s') E {s with heap:=s.heap.update a (Obj.putSet es1 t2)}:=by
     refine wpAny_bind (wpAny_storeSet_of hg rfl (wpAny_pure ⟨rfl,?_⟩) (fits_of_scanBound Om))
     have hg2:=Heap.get?_update_self (Obj.putSet es2 t3) hg (by rw[putSet_of es2 t3 rfl];rfl)
     rw[putSet_of es2 t3 rfl] at hg2
     exact hnew nk _ es2 (ep+1+1) t3 BV (Ol.trans (Heap.SameBut.update _ a _)) ⟨⟨_,hg2,hex,rfl⟩,el1.perm pr,Om,by rw[Ve] at fr ⊢;exact fr,by rw[lr,l2];exact S.led,fun _=>JB,v2,p2'.nodup_iff.mpr Oj⟩
      (fun y=>by rw[p2'.mem_iff];exact JA y) (by rw[p2'.length_eq];exact mU)
    cases gv
    ·exact wpAny_pure rest
    ·exact wpAny_rule rest
   ·exact wpAny_pure ⟨rfl,hnew nk _ es1 (ep+1) t2 t_ Ol S1 JA mU⟩
  refine wpAny_bind ?_
  have rest:wpAny (model P w) A (do
    let byValue ←if t1.plain=true then hashByValue 8 (.str x tk) else pure true
    storeSet a es1 (if byValue=true then t1 else {t1 with plain:=false})
    if(!wasDummy&&(if byValue=true then t1 else {t1 with plain:=false}).tooFull)=true then do
      (match (relayAll (if byValue=true then t1 else {t1 with plain:=false}) es1 (SetTable.grown es1.size)).2.2 with | true=>rule "set.scan.the-table-gave-way" | false=>pure ())
      storeSet a (relayAll (if byValue=true then t1 else {t1 with plain:=false}) es1 (SetTable.grown es1.size)).1 (relayAll (if byValue=true then t1 else {t1 with plain:=false}) es1 (SetTable.grown es1.size)).2.1
      pure (some true)
     else pure (some true)) (fun r s'=>r=some true∧Q true s') E s:=by
   cases hpl:t1.plain with
   | true=>
    rw[if_pos rfl,hashByValue_scannable 8 Jy]
    refine wpAny_bind (wpAny_pure ?_)
    exact fin {t1 with plain:=false} (SetTable.fits_plain_off hfits) Ac rfl
   | false=>
    rw[if_neg (by decide)]
    refine wpAny_bind (wpAny_pure ?_)
    exact fin t1 hfits Ac hpl
  have go:∀r s',(r=some true∧Q true s')→wpAny (model P w) A (match r with | some added=>pure added | none=>setAddHashedIn a (.str x tk) ((strKind P w).hash x) 99999) Q E s':=fun r s' ⟨e,q⟩=>by
   subst e
   exact wpAny_pure q
  cases gave
  ·exact wpAny_pure (aE rest go)
  ·exact wpAny_rule (aE rest go)
end
theorem oB {us:List Value} {xs:List Str} (hi:StrsAre us xs):∀(i:Nat) (v:Value),us[i]? =some v→∃x t,xs[i]? =some x∧v=.str x t:=by
 induction hi with
 | nil=>intro i v hv;simp at hv
 | cons y ty _ ih=>
  intro i v hv
  cases i with
  | zero=>
   have e:Value.str y ty=v:=by simpa using hv
   exact⟨y,ty,rfl,e.symm⟩
  | succ i=>exact ih i v (by simpa using hv)
section
variable {P:Program} {w:World} {A:Around} {R:Result→Shared→Prop} {I S:Addr} {fp wr:List Addr} {G:Array GenState→Array GenState→Prop} {n:Nat} {Pv:Nat→Value→Prop} {St:Nat→Shared→Prop}
theorem ED (W:WalksS P w A.in1 I fp wr G n Pv St) (hSf:S ∉ fp) (xs:List Str) (Oo:xs.length=n) (hval:∀i v,Pv i v→∃x t,xs[i]? =some x∧v=.str x t) (hb:n+1<scanBound):
  ∀(k i:Nat) (s:Shared) (es:Array (Int×Value)) (ep:Nat) (t:SetTable) (ks:List Str),n-i=k→i≤n→St i s→cu P w s.heap S es ep t ks→(∀y,y∈ks↔y∈xs.take i)→ks.length≤i→
   (∀s' es' ep' t' ks',Moved (S::wr) G s s'→cu P w s'.heap S es' ep' t' ks'→(∀y,y∈ks'↔y∈xs)→ks'.length≤n→R (.ok (.ret .none)) s')→
   codeAny (model P w) A (.builtin "set.update.loop" ⟨[.ref S,.ref I],[]⟩) R s:=by
 have hSw:S ∉ wr:=fun z=>hSf (W.sub _ z)
 have more:∀b∈wr,b∈S::wr:=fun b z=>List.mem_cons_of_mem _ z
 intro k
 induction k with
 | zero=>
  intro i s es ep t ks hk hi st hS hm hl hR
  have e:i=n:=by omega
  subst e
  refine codeAny_builtin PyProof.Rows.F.entry_set_update_loop ?_
  rw[Around.under_plainId PyProof.Rows.F.plain_set_update_loop]
  show wpAny (model P w) A.in1 (pyNext (.ref I) >>= _) _ _ s
  refine wpAny_bind (W.done s _ _ st fun s' mv=>?_)
  show wpAny (model P w) A.in1 (ret Value.none) _ _ s'
  refine wpAny_pure (hR s' es ep t ks (mv.mono more) (hS.at fun o q=>mv.heap S o hSw q) (fun y=>?_) hl)
  rw[hm y,List.take_of_length_le (by omega)]
 | succ k ih=>
  intro i s es ep t ks hk hi st hS hm hl hR
  have lt:i<n:=by omega
  refine codeAny_builtin PyProof.Rows.F.entry_set_update_loop ?_
  rw[Around.under_plainId PyProof.Rows.F.plain_set_update_loop]
  show wpAny (model P w) A.in1 (pyNext (.ref I) >>= _) _ _ s
  refine wpAny_bind (W.item i s _ _ lt st fun v s' hv st' mv=>?_)
  obtain⟨x,tx,ex,rfl⟩:=hval i v hv
  have hS':cu P w s'.heap S es ep t ks:=hS.at fun o q=>mv.heap S o hSw q
  have tk1:∀y,y∈xs.take (i+1)↔y∈xs.take i∨y=x:=fun y=>by rw[List.take_add_one,ex];simp
  show wpAny (model P w) A.in1 (holding [Value.str x tx] (setAdd S (.str x tx)) >>= _) _ _ s'
  refine wpAny_bind (wpAny_holding ?_)
  unfold setAdd
  refine wpAny_holding (wpAny_bind ((strKind P w).pyHash (k:=x) (strKind_is _ _ _ _) ?_))
  refine EC (s:={s' with toks:=s'.toks+1}) hS' (by omega) (fun hx=>?_) (fun hx h' es' ep' t' ks' sb S2 m2 l2=>?_)
  ·refine wpAny_pure ⟨plainId_quiet PyProof.Rows.F.plain_set_update_loop _,ih (i+1) _ es ep t ks (by omega) lt (W.frame _ s' s'.heap _ st' (Nat.le_succ _) fun b _ o q=>q) hS' (fun y=>?_) (by omega) fun s2 es2 JC t2 BV mv2 S2 m2 l2=>?_⟩
   ·rw[hm y,tk1 y]
    constructor
    ·exact .inl
    ·rintro(z | z)
     ·exact z
     ·rw[z];exact(hm x).mp hx
   ·exact hR s2 es2 JC t2 BV (Moved.trans W.gtrans ((mv.mono more).then_heap (Nat.le_succ _) fun b o _ q=>q) mv2) S2 m2 l2
  ·refine wpAny_pure ⟨plainId_quiet PyProof.Rows.F.plain_set_update_loop _,ih (i+1) _ es' ep' t' ks' (by omega) lt (W.frame _ s' h' _ st' (Nat.le_succ _) fun b hb o q=>?_) S2 (fun y=>?_) (by omega) fun s2 es2 JC t2 BV mv2 S2 m2 l2=>?_⟩
   ·exact(sb.2 b (fun z=>hSf (z▸hb))).trans q
   ·rw[m2 y,hm y,tk1 y]
   ·exact hR s2 es2 JC t2 BV (Moved.trans W.gtrans ((mv.mono more).then_heap (Nat.le_succ _) fun b o hb q=>(sb.2 b (fun z=>hb (z▸List.mem_cons_self))).trans q) mv2) S2 m2 l2
end
section
variable {P:Program} {w:World} {A:Around} {E:Value→Shared→Prop} {s:Shared}
abbrev dQ (w:World):Obj:={cls:=.type "set",dict:=none,data:=.set #[] 0 (.fresh 0 0 (!w.params.followText "set-order"))}
theorem EE (v:Value) {Q:Value→Shared→Prop} (h:Q (.ref s.heap.objs.size) {s with heap:=s.heap.push (dQ w)}):
  codeAny (model P w) A (.call (.builtin "set.__new__") ⟨[.type "set",v],[]⟩) (wants Q E) s:=by
 refine codeAny_of_tree ?_
 show wpAny (model P w) A.in1 (do checkBuiltinCall "set.__new__" ⟨[.type "set",v],[]⟩;again (.builtin "set.__new__" ⟨[.type "set",v],[]⟩)) _ _ s
 refine wpAny_bind (wpAny_of_eq (PySem.F.newCall_set_1 v) (wpAny_pure ⟨plainId_quiet PySem.F.plain_set_new _,codeAny_builtin PySem.F.entry_set_new ?_⟩))
 rw[Around.under_plainId PySem.F.plain_set_new]
 unfold Builtin.«set.__new__» Builtin.Frozenset.newClass
 have hsub:=sub_set_self
 obtain⟨hp,g,d,tk,os⟩:=s
 dsimp only
 wp_walk
 refine wpAny_askSetting (wpAny_pure ?_)
 dsimp only
 simp only[newObj]
 exact wpAny_bind (wpAny_alloc (wpAny_pure (wpAny_pure h)))
theorem BW (h:Heap):cu P w (h.push (dQ w)) h.objs.size #[] 0 (.fresh 0 0 (!w.params.followText "set-order")) []:=
 ⟨⟨_,Heap.get?_push_size _ rfl,⟨rfl,rfl,rfl⟩,rfl⟩,fun e he=>(by simp at he),by decide,rfl,rfl,fun z=>absurd rfl z,.nil,by simp⟩
theorem wz {l:Addr} {its:Array Value} {xs:List Str} {Q:Value→Shared→Prop} (hh:A.handled=none) (hl:s.heap.IsList l its) (hi:StrsAre its.toList xs) (hb:its.size+1<scanBound)
  (h:∀(h':Heap) (tk:Nat) es ep t ks,cu P w h' s.heap.objs.size es ep t ks→(∀y,y∈ks↔y∈xs)→ks.length≤its.size→(∀b o,b<s.heap.objs.size→s.heap.get? b=some o→h'.get? b=some o)→Q (.ref s.heap.objs.size) {s with heap:=h',toks:=tk}):
  wpAny (model P w) A (call (.type "set") [.ref l]) Q E s:=by
 obtain⟨c,tl,hmro⟩:=PySem.F.called_set.mro
 have hmade:=PySem.F.called_set.made
 have hsub:=PySem.F.called_set.sub
 refine wpAny_call (codeAny_of_tree ?_)
 show wpAny _ _ (callAny (.type "set") _) _ _ _
 refine wpAny_pure ⟨Code.quiet_builtin _ (by decide+kernel),codeAny_builtin PySem.F.entry_type_call ?_⟩
 rw[Around.under_plain (weight_type_call_type "set" [.ref l] []) rfl]
 have a1:=PySem.F.called_set.notType
 have a2:=PySem.F.called_set.canCreate
 have a3:=PySem.F.typeCall_set_1 (.ref l)
 repeat (any_goals (first | assumption | wp_step))
 refine codeAny_mono (EE (.ref l) (E:=E) (Q:=fun obj s₁=>obj=.ref s.heap.objs.size∧s₁={s with heap:=s.heap.push (dQ w)}) ⟨rfl,rfl⟩) fun r s₁ hr=>?_
 cases r with
 | error e=>exact hr
 | ok fl=>
  cases fl with
  | ret obj=>
   obtain⟨rfl,rfl⟩:=hr
   have gS:(s.heap.push (dQ w)).get? s.heap.objs.size=some (dQ w):=Heap.get?_push_size _ rfl
   have hT:Shared.TypeIs {s with heap:=s.heap.push (dQ w)} (.ref s.heap.objs.size) "set":=⟨_,gS,rfl⟩
   have a4:=PySem.F.called_set.init.lookup
   have a5:=PySem.F.called_set.init.bind (.ref s.heap.objs.size)
   repeat (any_goals (first | assumption | wp_step))
   refine codeAny_mono (codeAny_call_builtin (R:=wants (fun r s₂=>r=.none∧∃h' tk es ep t ks,s₂={s with heap:=h',toks:=tk}∧cu P w h' s.heap.objs.size es ep t ks∧(∀y,y∈ks↔y∈xs)∧ks.length≤its.size∧
     (∀b o,b<s.heap.objs.size→s.heap.get? b=some o→h'.get? b=some o)) E) PySem.F.called_set.init.plain PySem.F.entry_set_init (check_set_init_1 hT ?_)) fun r₂ s₂ hr₂=>?_
   ·obtain⟨ol,hol,hcl,nl,hdl⟩:=hl
    obtain⟨ocls,odict,odata,oslots⟩:=ol
    simp only at hcl hdl
    subst hcl hdl
    have hol':(s.heap.push (dQ w)).get? l=some {cls:=.type "list",dict:=odict,data:=.seq its nl,slots:=oslots}:=Heap.get?_push_of_some _ hol
    have b1:=PySem.F.sub_list_set
    have b2:=PySem.F.sub_list_frozenset
    have b3:(Value.type "list" == Value.type "dict")=false:=by decide
    have hl1:(s.heap.push (dQ w)).IsList l its:=⟨_,hol',rfl,nl,rfl⟩
    unfold Builtin.«set.__init__» noKeywords Builtin.Frozenset.updateFrom
    generalize hPI:pyIter=PI
    wp_walk
    subst hPI
    refine wpAny_pyIter_list hl1 ?_
    refine wpAny_bind (wpAny_runValue ?_)
    have lS:l<s.heap.objs.size:=Heap.lt_size hol
    have hh3:A.in1.in1.in1.handled=none:=by simp[hh]
    have t5:l≠(s.heap.push (dQ w)).objs.size:=by rw[Heap.size_push];exact Nat.ne_of_lt (Nat.lt_succ_of_lt lS)
    have nf:s.heap.objs.size ∉ [(s.heap.push (dQ w)).objs.size,l]:=by
     rw[Heap.size_push]
     simp only[List.mem_cons,List.not_mem_nil,or_false,not_or]
     exact⟨Nat.ne_of_lt (Nat.lt_succ_self _),Nat.ne_of_gt lS⟩
    have Oo:xs.length=its.size:=by rw[←hi.length,Array.length_toList]
    have hval:∀(i:Nat) (v:Value),its[i]? =some v→∃x t,xs[i]? =some x∧v=.str x t:=fun i v hv=>oB hi i v (by rw[Array.getElem?_toList];exact hv)
    refine ED ((Walks.list hh3 _ l t5 its).toS) nf xs Oo hval hb (its.size-0) 0 _ #[] 0 _ [] (by omega) (Nat.zero_le _) ⟨⟨_,Heap.get?_push_size _ rfl,rfl,rfl⟩,hl1.push _⟩ ((BW s.heap).at fun o q=>Heap.get?_push_of_some _ q) (fun y=>by simp) (Nat.le_refl _) ?hR
    case hR=>
     intro s' es' ep' t' ks' hm hS' hmem hlen
     obtain⟨h',g',d',tk',os'⟩:=s'
     have eg:g'=s.gens:=hm.gens
     have ed:d'=s.drawn:=hm.drawn
     have eo:os'=s.os:=hm.os
     subst eg ed eo
     show wpAny _ _ _ _ _ _
     refine wpAny_pure ?_
     show wpAny _ _ (ret Value.none) _ _ _
     refine wpAny_pure ⟨rfl,h',tk',es',ep',t',ks',rfl,hS',hmem,hlen,fun b o hb e=>?_⟩
     refine hm.heap b o ?_ (Heap.get?_push_of_some _ (Heap.get?_push_of_some _ e))
     simp only[List.mem_cons,List.not_mem_nil,or_false,not_or]
     rw[Heap.size_push]
     exact⟨Nat.ne_of_lt hb,Nat.ne_of_lt (Nat.lt_succ_of_lt hb)⟩
   ·cases r₂ with
    | error e=>exact hr₂
    | ok fl₂=>
     cases fl₂ with
     | ret r=>
      obtain⟨rfl,h',tk,es,ep,t,ks,rfl,hS',hm,Og,hk'⟩:=hr₂
      repeat (any_goals (first | assumption | wp_step))
      exact h _ _ _ _ _ _ hS' hm Og hk'
     | _=>exact hr₂.elim
  | _=>exact hr.elim
end
namespace SI
theorem BX:Manifest.owners.lookup (String.ofList ['r', 'o', 't', 'a', 'r', 'e', 't', 'i', '_', 't', 'e', 's'].reverse)=some Manifest.sig_set_iterator:=by kernel_rfl
theorem slot_next:Slot "set_iterator" "__next__" "set_iterator.__next__":=
 .of (owner:="set_iterator") (n:="__next__") (by rw[typeLookup_type,builtinLookup_eq_fast];kernel_rfl) (by decide+kernel) (by decide+kernel) (by decide+kernel)
  (by first | exact .inl (by decide+kernel) | exact .inr (by decide+kernel)) (by rw[isSubtype_type];kernel_rfl)
theorem t6:Slot "set_iterator" "__iter__" "set_iterator.__iter__":=
 .of (owner:="set_iterator") (n:="__iter__") (by rw[typeLookup_type,builtinLookup_eq_fast];kernel_rfl) (by decide+kernel) (by decide+kernel) (by decide+kernel)
  (by first | exact .inl (by decide+kernel) | exact .inr (by decide+kernel)) (by rw[isSubtype_type];kernel_rfl)
theorem entry_next:entryFor table "set_iterator.__next__"=some Builtin.«set_iterator.__next__» :=entryFor_of_tree (by kernel_rfl)
theorem Ad:entryFor table "set_iterator.__iter__"=some Builtin.«dict_keyiterator.__iter__» :=
 entryFor_alias (id':="dict_keyiterator.__iter__") (by kernel_rfl) (by first | rfl | decide+kernel | (unfold String.splitOn;simp+decide [String.splitOnAux])) (by decide+kernel) (by kernel_rfl)
theorem args_next (v:Value):argsOk "set_iterator.__next__" ⟨[v],[]⟩:=by
 unfold argsOk;rw[signature?_of (id:="set_iterator.__next__") (n:=['_', '_', 't', 'x', 'e', 'n', '_', '_']) (o:=['r', 'o', 't', 'a', 'r', 'e', 't', 'i', '_', 't', 'e', 's']) (by kernel_rfl) BX];kernel_rfl
theorem BZ (v:Value):argsOk "set_iterator.__iter__" ⟨[v],[]⟩:=by
 unfold argsOk;rw[signature?_of (id:="set_iterator.__iter__") (n:=['_', '_', 'r', 'e', 't', 'i', '_', '_']) (o:=['r', 'o', 't', 'a', 'r', 'e', 't', 'i', '_', 't', 'e', 's']) (by kernel_rfl) BX];kernel_rfl
theorem rM:entryFor table "set.__iter__"=some Builtin.«frozenset.__iter__» :=
 entryFor_alias (id':="frozenset.__iter__") (by kernel_rfl) (by first | rfl | decide+kernel | (unfold String.splitOn;simp+decide [String.splitOnAux])) (by decide+kernel) (by kernel_rfl)
end SI
abbrev jN (h:Heap) (I:Addr) (F:Array Value):Prop:=h.get? I=some {cls:=.type "set_iterator",dict:=none,data:=.fields F,slots:= #[]}
section
variable {P:Program} {w:World} {A:Around} {E:Value→Shared→Prop} {s:Shared}
theorem rN {I:Addr} {F:Array Value} {Q:Value→Shared→Prop} (hI:jN s.heap I F) (h:Q (.ref I) s):wpAny (model P w) A (pyIter (.ref I)) Q E s:=by
 have hT:s.TypeIs (.ref I) "set_iterator":=⟨_,hI,rfl⟩
 refine wpAny_pyIter_slot hT SI.t6 (wpAny_call_entry SI.t6 hT SI.Ad ?_ (SI.BZ _))
 show wpAny (model P w) _ (ret (.ref I)) _ _ s
 exact wpAny_pure ⟨_,rfl,"set_iterator",_,hT,SI.slot_next.lookup,h⟩
theorem y' {I a:Addr} {sl i ep':Nat} {es:Array (Int×Value)} {ep:Nat} {t:SetTable} {ks:List Str} {v:Value} {nx:Nat} {Q:Option Value→Shared→Prop} (hI:jN s.heap I #[rawInt sl,rawInt i,.ref a,rawInt es.size,rawInt ep'])
  (S:cu P w s.heap a es ep t ks) (hn:∀(B:Around) (E':Value→Shared→Prop) (Q':Option (Value×Nat)→Shared→Prop),Q' (some (v,nx)) s→wpAny (model P w) B (setNext a sl i ep') Q' E' s)
  (h:∀h',jN h' I #[rawInt nx,rawInt (i+1:Nat),.ref a,rawInt es.size,rawInt ep']→Heap.SameBut I s.heap h'→Q (some v) {s with heap:=h'}):wpAny (model P w) A (pyNext (.ref I)) Q E s:=by
 have hT:s.TypeIs (.ref I) "set_iterator":=⟨_,hI,rfl⟩
 obtain⟨o,ho,hex,hd⟩:=S.obj
 unfold pyNext
 refine wpAny_bind (wpAny_attempt (wpAny_callSpecial?_slot (name:=Str.ofString "__next__") hT SI.slot_next (wpAny_call_entry SI.slot_next hT SI.entry_next ?_ (SI.args_next _))))
 refine wpAny_bind (wpAny_pure ?_)
 refine wpAny_bind (wpAny_fieldsOf hI rfl ?_)
 refine wpAny_bind (wpAny_setEntries_of ho hd S.fits ?_)
 rw[if_neg (by simp[rawInt])]
 dsimp only[rawInt]
 rw[Int.toNat_natCast,Int.toNat_natCast,Int.toNat_natCast]
 refine wpAny_bind (hn _ _ _ ?_)
 dsimp only
 refine wpAny_bind (wpAny_setField_rec hI (by simp) fun h1 e1 b1=>?_)
 refine wpAny_bind (wpAny_setField_rec e1 (by simp) fun h2 e2 b2=>?_)
 refine wpAny_pure ⟨v,rfl,wpAny_pure (h h2 ?_ (b1.trans b2))⟩
 simpa[rawInt] using e2
theorem za {I:Addr} {F:Array Value} {k0:Option Nat} {Q:Option Value→Shared→Prop} (hh:A.handled=none) (hI:jN s.heap I F) (hk:2<F.size) (h:∀h',Heap.ExtBut I s.heap h'→Q none {s with heap:=h'}):
  wpAny (model P w) A.in1 (do setField (.ref I) 2 .none;raiseNew (←newExc (.type "StopIteration") []))
   (fun fin s'=>∃v,fin=Fin.done (Flow.ret v)∧wpAny (model P w) A (pure (some v)) Q E s')
   (fun e s'=>wpAny (model P w) A (do if ←isInstance e (.type "StopIteration") then pure none else throw e) Q E s') s:=by
 refine wpAny_bind (wpAny_setField_rec hI hk fun h1 e1 b1=>?_)
 refine wpAny_bind ?_
 simp only[newExc,newTuple]
 refine wpAny_bind (wpAny_newObj_type ?_ (by size_fits))
 refine wpAny_bind (m:=firstArgMember _ _) (wpAny_of_eq (a:=Value.none) (by first | rfl | (simp only[firstArgMember];rfl)) ?_)
 refine wpAny_newObj_type ?_ (by size_fits)
 simp only[raiseNew]
 refine wpAny_bind (wpAny_handled ?_)
 rw[show A.in1.handled=none from hh]
 refine wpAny_bind (wpAny_pure (wpAny_throw ?_))
 refine wpAny_bind (wpAny_isInstance (T:="StopIteration") (b:=true) ⟨_,Heap.get?_push_size _ rfl,rfl⟩ isSubtype_stop ?_)
 exact wpAny_pure (h _ ((b1.extBut.push _).push _))
theorem B_ {I a:Addr} {sl i ep':Nat} {es:Array (Int×Value)} {ep:Nat} {t:SetTable} {ks:List Str} {Q:Option Value→Shared→Prop} (hh:A.handled=none) (hI:jN s.heap I #[rawInt sl,rawInt i,.ref a,rawInt es.size,rawInt ep'])
  (S:cu P w s.heap a es ep t ks) (hn:∀(B:Around) (E':Value→Shared→Prop) (Q':Option (Value×Nat)→Shared→Prop),Q' none s→wpAny (model P w) B (setNext a sl i ep') Q' E' s)
  (h:∀h',Heap.ExtBut I s.heap h'→Q none {s with heap:=h'}):wpAny (model P w) A (pyNext (.ref I)) Q E s:=by
 have hT:s.TypeIs (.ref I) "set_iterator":=⟨_,hI,rfl⟩
 obtain⟨o,ho,hex,hd⟩:=S.obj
 unfold pyNext
 refine wpAny_bind (wpAny_attempt (wpAny_callSpecial?_slot (name:=Str.ofString "__next__") hT SI.slot_next (wpAny_call_entry SI.slot_next hT SI.entry_next ?_ (SI.args_next _))))
 refine wpAny_bind (wpAny_pure ?_)
 refine wpAny_bind (wpAny_fieldsOf hI rfl ?_)
 refine wpAny_bind (wpAny_setEntries_of ho hd S.fits ?_)
 rw[if_neg (by simp[rawInt])]
 dsimp only[rawInt]
 rw[Int.toNat_natCast,Int.toNat_natCast,Int.toNat_natCast]
 refine wpAny_bind (hn _ _ _ ?_)
 dsimp only
 exact za (k0:=none) hh hI (by simp) h
theorem t7 {T:Addr} {xs:Array Value} {B:Around} {E':Value→Shared→Prop} {Q':Option (Array Value)→Shared→Prop} (hT:s.heap.get? T=some {cls:=.type "tuple",data:=.seq xs}) (h:Q' (some xs) s):wpAny (model P w) B (seqItems? (.ref T)) Q' E' s:=by
 unfold seqItems?
 dsimp only
 refine wpAny_bind (wpAny_load hT ?_)
 exact wpAny_pure h
theorem HG {I a T:Addr} {i p:Nat} {es:Array (Int×Value)} {ep:Nat} {t:SetTable} {ks:List Str} {hv:Int} {v:Value} {ord:List Nat} {Q:Option Value→Shared→Prop} (hI:jN s.heap I #[.ref T,rawInt i,.ref a,rawInt es.size,rawInt ep])
  (hT':s.heap.get? T=some {cls:=.type "tuple",data:=.seq (ord.map fun(i:Nat)=>rawInt i).toArray}) (S:cu P w s.heap a es ep t ks) (hp:ord[i]? =some p) (he:es[p]? =some (hv,v))
  (h:∀h',jN h' I #[.ref T,rawInt (i+1:Nat),.ref a,rawInt es.size,rawInt ep]→Heap.SameBut I s.heap h'→Q (some v) {s with heap:=h'}):wpAny (model P w) A (pyNext (.ref I)) Q E s:=by
 have hT:s.TypeIs (.ref I) "set_iterator":=⟨_,hI,rfl⟩
 obtain⟨o,ho,hex,hd⟩:=S.obj
 unfold pyNext
 refine wpAny_bind (wpAny_attempt (wpAny_callSpecial?_slot (name:=Str.ofString "__next__") hT SI.slot_next (wpAny_call_entry SI.slot_next hT SI.entry_next ?_ (SI.args_next _))))
 refine wpAny_bind (wpAny_pure ?_)
 refine wpAny_bind (wpAny_fieldsOf hI rfl ?_)
 refine wpAny_bind (wpAny_setEntries_of ho hd S.fits ?_)
 rw[if_neg (by simp[rawInt])]
 dsimp only[rawInt]
 refine wpAny_bind (t7 hT' ?_)
 dsimp only
 have e1:(ord.map fun(i:Nat)=>rawInt i).toArray[((i:Nat):Int).toNat]? =some (rawInt p):=by
  rw[Int.toNat_natCast,List.getElem?_toArray,List.getElem?_map,hp];rfl
 rw[e1]
 dsimp only[rawInt]
 refine wpAny_bind ?_
 unfold setNextDrawn
 refine wpAny_bind (wpAny_setState_of ho hd S.fits ?_)
 dsimp only
 rw[Int.toNat_natCast,Int.toNat_natCast,if_neg (by simp),he]
 refine wpAny_pure ?_
 refine wpAny_bind (wpAny_setField_rec hI (by simp) fun h1 e1 b1=>?_)
 refine wpAny_pure ⟨v,rfl,wpAny_pure (h h1 ?_ b1)⟩
 simpa[rawInt] using e1
theorem JD {I a T:Addr} {i:Nat} {es:Array (Int×Value)} {ep:Nat} {t:SetTable} {ks:List Str} {ord:List Nat} {Q:Option Value→Shared→Prop} (hh:A.handled=none) (hI:jN s.heap I #[.ref T,rawInt i,.ref a,rawInt es.size,rawInt ep])
  (hT':s.heap.get? T=some {cls:=.type "tuple",data:=.seq (ord.map fun(i:Nat)=>rawInt i).toArray}) (S:cu P w s.heap a es ep t ks) (hp:ord[i]? =none)
  (h:∀h',Heap.ExtBut I s.heap h'→Q none {s with heap:=h'}):wpAny (model P w) A (pyNext (.ref I)) Q E s:=by
 have hT:s.TypeIs (.ref I) "set_iterator":=⟨_,hI,rfl⟩
 obtain⟨o,ho,hex,hd⟩:=S.obj
 unfold pyNext
 refine wpAny_bind (wpAny_attempt (wpAny_callSpecial?_slot (name:=Str.ofString "__next__") hT SI.slot_next (wpAny_call_entry SI.slot_next hT SI.entry_next ?_ (SI.args_next _))))
 refine wpAny_bind (wpAny_pure ?_)
 refine wpAny_bind (wpAny_fieldsOf hI rfl ?_)
 refine wpAny_bind (wpAny_setEntries_of ho hd S.fits ?_)
 rw[if_neg (by simp[rawInt])]
 dsimp only[rawInt]
 refine wpAny_bind (t7 hT' ?_)
 dsimp only
 have e1:(ord.map fun(i:Nat)=>rawInt i).toArray[((i:Nat):Int).toNat]? =none:=by
  rw[Int.toNat_natCast,List.getElem?_toArray,List.getElem?_map,hp];rfl
 rw[e1]
 dsimp only
 refine wpAny_bind (wpAny_setField_rec hI (by simp) fun h1 e1 b1=>?_)
 exact za (s:={s with heap:=h1}) (k0:=none) hh e1 (by simp) fun h2 x=>h h2 (fun c o hc q=>x c o hc (b1.extBut c o hc q))
theorem oC {a:Addr} {Q:Bool→Shared→Prop} (h:Q (w.params.followText "set-order") s):wpAny (model P w) A setsByText Q E s:=by
 unfold setsByText
 exact wpAny_bind (wpAny_askSetting (wpAny_pure h))
theorem t8 {a:Addr} {es:Array (Int×Value)} {ep:Nat} {t:SetTable} {ks:List Str} {sl i:Nat} {Q:Option (Value×Nat)→Shared→Prop} (S:cu P w s.heap a es ep t ks) (hb:w.params.followText "set-order"=true)
  (h:Q (((pickOrder (w.params.setOrder a ep) es)[i]?).map fun e=>(e.2,sl)) s):wpAny (model P w) A (setNext a sl i ep) Q E s:=by
 obtain⟨o,ho,hex,hd⟩:=S.obj
 unfold setNext
 refine wpAny_bind (wpAny_setState_of ho hd S.fits ?_)
 dsimp only
 refine wpAny_bind (oC (a:=a) ?_)
 rw[hb,if_pos rfl,if_neg (by simp)]
 refine wpAny_bind ?_
 unfold setWalk
 refine wpAny_bind (wpAny_setState_of ho hd S.fits ?_)
 dsimp only
 refine wpAny_bind (oC (a:=a) ?_)
 rw[hb,if_pos rfl]
 refine wpAny_bind (wpAny_askSetting (wpAny_pure ?_))
 exact wpAny_pure h
theorem wA {a:Addr} {es:Array (Int×Value)} {ep:Nat} {t:SetTable} {ks:List Str} {sl i:Nat} {Q:Option (Value×Nat)→Shared→Prop} (S:cu P w s.heap a es ep t ks) (hb:w.params.followText "set-order"=false) (h1:es.size≤1)
  (h:Q (match es[SetTable.below t.place sl]?,t.place[SetTable.below t.place sl]? with | some (_,x),some j=>some (x,j+1) | _,_=>none) s):wpAny (model P w) A (setNext a sl i ep) Q E s:=by
 obtain⟨o,ho,hex,hd⟩:=S.obj
 have hl:t.led=true:=by rw[S.led,hb];rfl
 unfold setNext
 refine wpAny_bind (wpAny_setState_of ho hd S.fits ?_)
 dsimp only
 refine wpAny_bind (oC (a:=a) ?_)
 rw[hb,if_neg (by decide)]
 refine wpAny_ite_split (fun hab=>?_) (fun _=>?_)
 ·have hab':(!t.plain&&decide (es.size>1))=true:=hab
  simp at hab'
  omega
 refine wpAny_bind ?_
 show wpAny (model P w) A (if(!t.led&& !es.isEmpty)=true then unsupported _ else pure ()) _ _ s
 rw[hl,if_neg (by simp)]
 exact wpAny_pure (wpAny_pure h)
end
theorem t9 {α:Type} (f:Nat→Nat):∀(n k:Nat) (l:List α) (out:Array α),l.length=n→(pickOrder.go f n k l out).toList.Perm (out.toList++l)
 | 0,k,l,out,h=>by
  have:l=[]:=List.length_eq_zero_iff.mp h
  subst this
  unfold pickOrder.go
  rw[List.append_nil]
 | n+1,k,l,out,h=>by
  have lt:f k % l.length<l.length:=Nat.mod_lt _ (by omega)
  unfold pickOrder.go
  rw[List.getElem?_eq_getElem lt]
  dsimp only
  refine(t9 f n (k+1) _ _ (by rw[List.length_eraseIdx_of_lt lt];omega)).trans ?_
  rw[Array.toList_push,List.append_assoc]
  refine List.Perm.append_left _ ?_
  have e:l=l.take (f k % l.length)++l[f k % l.length]::l.drop (f k % l.length+1):=by rw[←List.drop_eq_getElem_cons lt,List.take_append_drop]
  rw[List.eraseIdx_eq_take_drop_succ]
  conv=>rhs;rw[e]
  show(l[f k % l.length]::(l.take (f k % l.length)++l.drop (f k % l.length+1))).Perm _
  exact List.perm_middle.symm
section
variable {P:Program} {w:World} {A:Around} {E:Value→Shared→Prop}
theorem ua {α:Type}:∀(n:Nat) (l:List α) (s:Shared) (Q:List α→Shared→Prop),l.length=n→(∀ys d',ys.Perm l→Q ys {s with drawn:=d'})→wpAny (model P w) A (drawOrder n l) Q E s
 | 0,l,s,Q,hl,h=>by
  have:l=[]:=List.length_eq_zero_iff.mp hl
  subst this
  unfold drawOrder
  exact wpAny_pure (h [] s.drawn (.refl _))
 | n+1,[],s,Q,hl,h=>by cases hl
 | n+1,x::l,s,Q,hl,h=>by
  unfold drawOrder
  have go:∀i,i<(x::l).length→wpAny (model P w) A (match (x::l)[i]? with | some y=>do return y::(←drawOrder n ((x::l).eraseIdx i)) | none=>unsupported "internal:drawOrder") Q E {s with drawn:=s.drawn.bump .order}:=fun i hi=>by
   rw[List.getElem?_eq_getElem hi]
   dsimp only
   refine wpAny_bind (ua n _ _ _ (by rw[List.length_eraseIdx_of_lt hi];omega) fun ys d' p=>wpAny_pure ?_)
   refine h _ d' ?_
   have e:(x::l)=(x::l).take i++(x::l)[i]::(x::l).drop (i+1):=by rw[←List.drop_eq_getElem_cons hi,List.take_append_drop]
   refine(p.cons _).trans ?_
   rw[List.eraseIdx_eq_take_drop_succ]
   conv=>rhs;rw[e]
   exact List.perm_middle.symm
  refine wpAny_bind ?_
  exact fun _ _ hΓ=>⟨by simp,go _ (Nat.mod_lt _ (by simp))⟩
end
section
variable {P:Program} {w:World} {A:Around} {E:Value→Shared→Prop} {s:Shared}
abbrev Gg (ks:List Str):Nat→Value→Prop:=fun i v=>∃x tk,ks[i]? =some x∧v=.str x tk
theorem B0 {I a:Addr} {es:Array (Int×Value)} {ep:Nat} {t:SetTable} {ks ks':List Str} (hh:A.handled=none) (hne:a≠I) (hb:w.params.followText "set-order"=true)
  (hv:StrsAre ((pickOrder (w.params.setOrder a ep) es).toList.map (·.2)) ks') (hl:ks'.length=es.size):
  Walks P w A I [I,a] [I] es.size (Gg ks') (fun i h=>jN h I #[rawInt 0,rawInt i,.ref a,rawInt es.size,rawInt ep]∧cu P w h a es ep t ks) where
 sub:=fun b hb=>by simp at hb;simp[hb]
 frame:=fun _ _ _ st hk=>⟨hk I (by simp) _ st.1,st.2.at fun o q=>hk a (by simp) o q⟩
 item:=fun i s Q E hi st hQ=>by
  have hsz:(pickOrder (w.params.setOrder a ep) es).size=es.size:=by rw[←Array.length_toList,←List.length_map (f:=(·.2)),hv.length,hl]
  obtain⟨e,he⟩:∃e,(pickOrder (w.params.setOrder a ep) es)[i]? =some e:=⟨_,Array.getElem?_eq_getElem (by omega)⟩
  refine y' (sl:=0) (v:=e.2) (nx:=0) st.1 st.2 (fun B E' Q' q=>t8 st.2 hb (by rw[he];exact q)) fun h' e1 b1=>hQ e.2 h' s.toks ?_ ⟨e1,st.2.at fun o q=>(b1.2 a hne).trans q⟩ fun b o hb q=>(b1.2 b (by simpa using hb)).trans q
  obtain⟨x,tk,ex,ev⟩:=oB hv i e.2 (by rw[List.getElem?_map,Array.getElem?_toList,he];rfl)
  exact⟨x,tk,ex,ev⟩
 done:=fun s Q E st hQ=>by
  have hsz:(pickOrder (w.params.setOrder a ep) es).size=es.size:=by rw[←Array.length_toList,←List.length_map (f:=(·.2)),hv.length,hl]
  have he:(pickOrder (w.params.setOrder a ep) es)[es.size]? =none:=Array.getElem?_eq_none (by omega)
  exact B_ (sl:=0) hh st.1 st.2 (fun B E' Q' q=>t8 st.2 hb (by rw[he];exact q)) fun h' x=>hQ h' s.toks fun b o hb q=>x b o (by simpa using hb) q
 self:=fun _ _ _ _ st hQ=>rN st.1 hQ
theorem Ae {I a T:Addr} {es:Array (Int×Value)} {ep:Nat} {t:SetTable} {ks ks':List Str} {ord:List Nat} (hh:A.handled=none) (hne:a≠I) (hTI:T≠I) (hp:ord.Perm (List.range es.size))
  (hv:StrsAre (ord.map fun p=>(es.getD p (0,.none)).2) ks'):
  Walks P w A I [I,a,T] [I] es.size (Gg ks') (fun i h=>jN h I #[.ref T,rawInt i,.ref a,rawInt es.size,rawInt ep]∧cu P w h a es ep t ks∧h.get? T=some {cls:=.type "tuple",data:=.seq (ord.map fun(i:Nat)=>rawInt i).toArray}) where
 sub:=fun b hb=>by simp at hb;simp[hb]
 frame:=fun _ _ _ st hk=>⟨hk I (by simp) _ st.1,st.2.1.at fun o q=>hk a (by simp) o q,hk T (by simp) _ st.2.2⟩
 item:=fun i s Q E hi st hQ=>by
  have lo:ord.length=es.size:=by rw[hp.length_eq,List.length_range]
  obtain⟨p,ho⟩:∃p,ord[i]? =some p:=⟨_,List.getElem?_eq_getElem (by omega)⟩
  have hlt:p<es.size:=List.mem_range.mp (hp.mem_iff.mp (List.mem_of_getElem? ho))
  have he:es[p]? =some ((es.getD p (0,.none)).1,(es.getD p (0,.none)).2):=by
   rw[Array.getElem?_eq_getElem hlt,Array.getD_eq_getD_getElem?,Array.getElem?_eq_getElem hlt];rfl
  refine HG st.1 st.2.2 st.2.1 ho he fun h' e1 b1=>hQ _ h' s.toks ?_ ⟨e1,st.2.1.at fun o q=>(b1.2 a hne).trans q,(b1.2 T hTI).trans st.2.2⟩ fun b o hb q=>(b1.2 b (by simpa using hb)).trans q
  obtain⟨x,tk,ex,ev⟩:=oB hv i _ (by rw[List.getElem?_map,ho];rfl)
  exact⟨x,tk,ex,ev⟩
 done:=fun s Q E st hQ=>by
  have lo:ord.length=es.size:=by rw[hp.length_eq,List.length_range]
  exact JD hh st.1 st.2.2 st.2.1 (List.getElem?_eq_none (by omega)) fun h' x=>hQ h' s.toks fun b o hb q=>x b o (by simpa using hb) q
 self:=fun _ _ _ _ st hQ=>rN st.1 hQ
theorem Af (p:Nat):SetTable.below #[p] 0=0:=by
 unfold SetTable.below
 simp[SetTable.below.go]
theorem Ag (p:Nat):SetTable.below #[p] (p+1)=1:=by
 unfold SetTable.below
 simp[SetTable.below.go]
theorem EF {I a:Addr} {es:Array (Int×Value)} {ep:Nat} {t:SetTable} {ks:List Str} (hh:A.handled=none) (hne:a≠I) (hb:w.params.followText "set-order"=false) (h1:es.size≤1) (hf:t.fits es.size=true) (hv:StrsAre (es.toList.map (·.2)) ks):
  Walks P w A I [I,a] [I] es.size (Gg ks) (fun i h=>jN h I #[rawInt (if i=0 then 0 else t.place.getD 0 0+1:Nat),rawInt i,.ref a,rawInt es.size,rawInt ep]∧cu P w h a es ep t ks) where
 sub:=fun b hb=>by simp at hb;simp[hb]
 frame:=fun _ _ _ st hk=>⟨hk I (by simp) _ st.1,st.2.at fun o q=>hk a (by simp) o q⟩
 item:=fun i s Q E hi st hQ=>by
  have i0:i=0:=by omega
  subst i0
  have sz:es.size=1:=by omega
  have tp:t.place.size=1:=by
   unfold SetTable.fits at hf
   simp only[Bool.and_eq_true,beq_iff_eq] at hf
   omega
  obtain⟨p,hp⟩:∃p,t.place= #[p]:=Array.size_eq_one_iff.mp tp
  obtain⟨e,he⟩:∃e,es[0]? =some e:=⟨_,Array.getElem?_eq_getElem (by omega)⟩
  refine y' (sl:=0) (v:=e.2) (nx:=p+1) st.1 st.2 (fun B E' Q' q=>wA st.2 hb h1 ?_) fun h' e1 b1=>hQ e.2 h' s.toks ?_ ⟨?_,st.2.at fun o q=>(b1.2 a hne).trans q⟩ fun b o hb q=>(b1.2 b (by simpa using hb)).trans q
  ·rw[hp,Af,he]
   exact q
  ·obtain⟨x,tk,ex,ev⟩:=oB hv 0 e.2 (by rw[List.getElem?_map,Array.getElem?_toList,he];rfl)
   exact⟨x,tk,ex,ev⟩
  ·rw[hp]
   exact e1
 done:=fun s Q E st hQ=>by
  refine B_ hh st.1 st.2 (fun B E' Q' q=>wA st.2 hb h1 ?_) fun h' x=>hQ h' s.toks fun b o hb q=>x b o (by simpa using hb) q
  by_cases z:es.size=0
  ·have ez:es= #[]:=Array.size_eq_zero_iff.mp z
   rw[ez]
   simpa using q
  ·have sz:es.size=1:=by omega
   have tp:t.place.size=1:=by
    unfold SetTable.fits at hf
    simp only[Bool.and_eq_true,beq_iff_eq] at hf
    omega
   obtain⟨p,hp⟩:∃p,t.place= #[p]:=Array.size_eq_one_iff.mp tp
   rw[if_neg z,hp]
   show Q' (match es[SetTable.below #[p] (p+1)]?,(#[p]:Array Nat)[SetTable.below #[p] (p+1)]? with | some (_,x),some j=>some (x,j+1) | _,_=>none) _
   rw[Ag,Array.getElem?_eq_none (by omega)]
   exact q
 self:=fun _ _ _ _ st hQ=>rN st.1 hQ
theorem Ah {a:Addr} {es:Array (Int×Value)} {ep:Nat} {t:SetTable} {ks:List Str} {Q:Value→Shared→Prop} (S:cu P w s.heap a es ep t ks)
  (h:∀(I:Addr) (h1:Heap) (d1:Drawn) (fx:List Addr) (ks':List Str) (St:Nat→Heap→Prop),ks'.Perm ks→s.heap.objs.size≤I→I<h1.objs.size→(∀b∈fx,s.heap.objs.size≤b∧b<h1.objs.size)→(∀b o,s.heap.get? b=some o→h1.get? b=some o)→St 0 h1→
   (∀B:Around,B.handled=none→Walks P w B I (I::a::fx) [I] es.size (Gg ks') St)→Q (.ref I) {s with heap:=h1,drawn:=d1}):
  wpAny (model P w) A (pyIter (.ref a)) Q E s:=by
 obtain⟨o,ho,hex,hd⟩:=S.obj
 have hT:s.TypeIs (.ref a) "set":=⟨o,ho,hex.1⟩
 have la:a<s.heap.objs.size:=Heap.lt_size ho
 have hsz:=S.len
 refine wpAny_pyIter_slot hT PySem.F.slot_set_iter (wpAny_call_entry PySem.F.slot_set_iter hT SI.rM ?_ (PySem.F.args_set_iter_1 _))
 unfold Builtin.«frozenset.__iter__» Builtin.Frozenset.slot0 slotArgs
 simp only[List.isEmpty_nil,Bool.not_true,Bool.false_eq_true, ↓reduceIte,bind_assoc,List.length_nil,bne_self_eq_false]
 unfold Builtin.Frozenset.addrOf Builtin.Frozenset.sizeOf
 refine wpAny_bind (wpAny_pure ?_)
 try dsimp only
 refine wpAny_bind (wpAny_pure ?_)
 refine wpAny_bind (wpAny_bind (wpAny_setEntries_of ho hd S.fits (wpAny_pure ?_)))
 unfold setDrawn
 refine wpAny_bind (wpAny_bind (wpAny_setState_of ho hd S.fits ?_))
 dsimp only
 refine wpAny_bind (oC (a:=a) (wpAny_pure ?_))
 refine wpAny_ite_split (fun hab=>?_) (fun hab=>?_)
 ·have hab':(!w.params.followText "set-order"&&(!t.plain&&decide (es.size>1)))=true:=hab
  refine wpAny_bind (ua _ _ _ _ (List.length_range) fun ys d' p=>?_)
  have ly:ys.length=es.size:=by rw[p.length_eq,List.length_range]
  refine wpAny_bind (wpAny_newTuple ?_ (by rw[List.length_map,ly];exact fits_of_scanBound S.small))
  have hoT:(s.heap.push {cls:=.type "tuple",data:=.seq (ys.map fun(i:Nat)=>rawInt i).toArray}).get? s.heap.objs.size=some {cls:=.type "tuple",data:=.seq (ys.map fun(i:Nat)=>rawInt i).toArray}:=Heap.get?_push_size _ rfl
  have B2:(s.heap.push {cls:=.type "tuple",data:=.seq (ys.map fun(i:Nat)=>rawInt i).toArray}).objs.size=s.heap.objs.size+1:=Heap.size_push ..
  refine wpAny_bind (wpAny_setEpoch_of (s:={s with heap:=s.heap.push {cls:=.type "tuple",data:=.seq (ys.map fun(i:Nat)=>rawInt i).toArray},drawn:=d'}) (Heap.get?_push_of_some _ ho) hd S.fits ?_)
  have SS:cu P w (s.heap.push {cls:=.type "tuple",data:=.seq (ys.map fun(i:Nat)=>rawInt i).toArray}) a es ep t ks:=S.at fun o q=>Heap.get?_push_of_some _ q
  have old:∀b o,s.heap.get? b=some o→(s.heap.push {cls:=.type "tuple",data:=.seq (ys.map fun(i:Nat)=>rawInt i).toArray}).get? b=some o:=fun b o q=>Heap.get?_push_of_some _ q
  generalize s.heap.push {cls:=.type "tuple",data:=.seq (ys.map fun(i:Nat)=>rawInt i).toArray}=h1 at hoT B2 SS old ⊢
  refine wpAny_bind (wpAny_newObj_type (wpAny_pure ⟨_,rfl,"set_iterator",_,⟨_,Heap.get?_push_size _ rfl,rfl⟩,SI.slot_next.lookup,?_⟩))
  have ent:((List.range es.size).map fun p=>(es.getD p (0,.none)).2)=es.toList.map (·.2):=by
   apply List.ext_getElem?
   intro i
   rw[List.getElem?_map,List.getElem?_map,show es.toList[i]? =es[i]? from Array.getElem?_toList]
   by_cases hi:i<es.size
   ·rw[List.getElem?_range hi,Array.getElem?_eq_getElem hi]
    show some (es.getD i (0,.none)).2=some es[i].2
    rw[Array.getD_eq_getD_getElem?,Array.getElem?_eq_getElem hi];rfl
   ·rw[List.getElem?_eq_none (by rw[List.length_range];omega),Array.getElem?_eq_none (by omega)];rfl
  obtain⟨ks',v',p'⟩:=j6 (p.map fun p=>(es.getD p (0,.none)).2) (ks:=ks) (by rw[ent];exact S.vals)
  refine h h1.objs.size (h1.push _) d' [s.heap.objs.size] ks' _ p' (by rw[B2];exact Nat.le_succ _) (by rw[Heap.size_push];exact Nat.lt_succ_self _) (fun b hb=>?_) (fun b o q=>Heap.get?_push_of_some _ (old b o q)) ?_ (fun B hB=>Ae (ep:=ep) (t:=t) (ks:=ks) hB ?_ ?_ p v')
  ·rw[List.mem_singleton.mp hb,Heap.size_push,B2]
   exact⟨Nat.le_refl _,Nat.lt_succ_of_lt (Nat.lt_succ_self _)⟩
  ·exact⟨Heap.get?_push_size _ rfl,SS.at fun o q=>Heap.get?_push_of_some _ q,Heap.get?_push_of_some _ hoT⟩
  ·rw[B2];exact Nat.ne_of_lt (Nat.lt_succ_of_lt la)
  ·rw[B2];exact Nat.ne_of_lt (Nat.lt_succ_self _)
 ·have hab':¬(!w.params.followText "set-order"&&(!t.plain&&decide (es.size>1)))=true:=hab
  refine wpAny_bind (wpAny_pure ?_)
  refine wpAny_bind (wpAny_setEpoch_of ho hd S.fits ?_)
  refine wpAny_bind (wpAny_newObj_type (wpAny_pure ⟨_,rfl,"set_iterator",_,⟨_,Heap.get?_push_size _ rfl,rfl⟩,SI.slot_next.lookup,?_⟩))
  have t5:a≠s.heap.objs.size:=Nat.ne_of_lt la
  cases hb:w.params.followText "set-order" with
  | true=>
   obtain⟨ks',v',p'⟩:=j6 ((t9 (w.params.setOrder a ep) es.size 0 es.toList #[] (by simp)).map (·.2)) (ks:=ks) (by simpa using S.vals)
   exact h s.heap.objs.size (s.heap.push _) s.drawn [] ks' _ p' (Nat.le_refl _) (by rw[Heap.size_push];exact Nat.lt_succ_self _) (fun b hb=>by simp at hb) (fun b o q=>Heap.get?_push_of_some _ q) ⟨Heap.get?_push_size _ rfl,S.at fun o q=>Heap.get?_push_of_some _ q⟩
    (fun B hB=>B0 (ep:=ep) (t:=t) (ks:=ks) hB t5 hb v' (by rw[p'.length_eq,hsz]))
  | false=>
   have few:es.size≤1:=by
    rw[hb] at hab'
    by_cases z:es.size≤1
    ·exact z
    ·exfalso
     refine hab' ?_
     rw[S.plain (by omega),decide_eq_true (show es.size>1 by omega)]
     rfl
   exact h s.heap.objs.size (s.heap.push _) s.drawn [] ks _ (.refl _) (Nat.le_refl _) (by rw[Heap.size_push];exact Nat.lt_succ_self _) (fun b hb=>by simp at hb) (fun b o q=>Heap.get?_push_of_some _ q) ⟨Heap.get?_push_size _ rfl,S.at fun o q=>Heap.get?_push_of_some _ q⟩
    (fun B hB=>EF (ep:=ep) (t:=t) (ks:=ks) hB t5 hb few S.fits S.vals)
theorem EG {r:Addr} {Q:Bool→Shared→Prop} (hT:s.TypeIs (.ref r) "set") (h:Q false s):wpAny (model P w) A (Builtin.List.listLengthHint (.ref r)) Q E s:=by
 unfold Builtin.List.listLengthHint
 refine wpAny_bind (wpAny_specialOf hT PySem.F.slot_set_len.lookup ?_)
 generalize hid:("set.__len__":String)=id0
 wp_delta
 rw[show splitId id0=some ("set","__len__") from by subst hid;decide+kernel]
 subst hid
 refine wpAny_bind (wpAny_isInstance (T:="set") (b:=true) hT (by rw[isSubtype_type];kernel_rfl) ?_)
 refine wpAny_ite_split (fun hab=>absurd hab (by decide)) (fun _=>?_)
 refine wpAny_ite_split (fun _=>?_) (fun hab=>absurd (by decide+kernel) hab)
 exact wpAny_bind (wpAny_typeOf hT (wpAny_pure h))
theorem yE {a:Addr} {es:Array (Int×Value)} {ep:Nat} {t:SetTable} {ks:List Str} {Q:List Value→Shared→Prop} (S:cu P w s.heap a es ep t ks) (hh:A.handled=none)
  (h:∀(h':Heap) (tk:Nat) (d':Drawn) (acc:List Value) (ks':List Str),(∀b o,s.heap.get? b=some o→h'.get? b=some o)→StrsAre acc ks'→ks'.Perm ks→Q acc {s with heap:=h',toks:=tk,drawn:=d'}):
  wpAny (model P w) A (collect (.ref a)) Q E s:=by
 obtain⟨o,ho,hex,hd⟩:=S.obj
 have la:a<s.heap.objs.size:=Heap.lt_size ho
 have hsz:=S.len
 unfold collect
 refine wpAny_bind (wpAny_runValue (codeAny_builtin entry_proto_collect' ?_))
 rw[Around.under_plainId PySem.F.plain_proto_collect]
 show wpAny (model P w) A.in1 (newList [] >>= fun l=>again (.builtin "list.__iadd__" ⟨[l,.ref a],[]⟩)) _ _ s
 refine wpAny_bind (wpAny_newObj_type ?_)
 refine wpAny_pure ⟨plainId_quiet PySem.F.plain_list_iadd _,codeAny_builtin entry_list_iadd' ?_⟩
 rw[Around.under_plainId PySem.F.plain_list_iadd]
 have g1:(s.heap.push {cls:=.type "list",data:=.seq ([]:List Value).toArray}).get? s.heap.objs.size=some {cls:=.type "list",data:=.seq #[]}:=Heap.get?_push_size _ rfl
 have z1:(s.heap.push {cls:=.type "list",data:=.seq ([]:List Value).toArray}).objs.size=s.heap.objs.size+1:=Heap.size_push ..
 have k1:∀b o,s.heap.get? b=some o→(s.heap.push {cls:=.type "list",data:=.seq ([]:List Value).toArray}).get? b=some o:=fun b o q=>Heap.get?_push_of_some _ q
 show wpAny (model P w) A.in1 (Builtin.List.listExtendWith (.ref s.heap.objs.size) (.ref a) (.ref s.heap.objs.size)) _ _ _
 generalize s.heap.push {cls:=.type "list",data:=.seq ([]:List Value).toArray}=h1 at g1 z1 k1 ⊢
 have S1:cu P w h1 a es ep t ks:=S.at fun o q=>k1 a o q
 have T1:Shared.TypeIs {s with heap:=h1} (.ref a) "set":=⟨o,k1 a o ho,hex.1⟩
 unfold Builtin.List.listExtendWith
 refine wpAny_bind (wpAny_typeOf T1 ?_)
 have n1:Builtin.List.listSameRef (.ref s.heap.objs.size) (.ref a)=false:=by simp[Builtin.List.listSameRef];exact Nat.ne_of_gt la
 rw[if_neg (by rw[n1];decide)]
 refine wpAny_bind (Ah (s:={s with heap:=h1}) S1 fun I h2 d2 fx ks' St pk Oq ltI Vf k2 st W=>?_)
 refine wpAny_bind (wpAny_holding (EG ⟨o,k2 a o (k1 a o ho),hex.1⟩ ?_))
 refine wpAny_ite_split (fun _=>?_) (fun hab=>absurd (by decide+kernel) hab)
 have lS:s.heap.objs.size<h1.objs.size:=by rw[z1];exact Nat.lt_succ_self _
 have nf:s.heap.objs.size ∉ I::a::fx:=fun m=>by
  rcases List.mem_cons.mp m with q | m
  ·exact absurd Oq (by rw[←q];exact Nat.not_le.mpr lS)
  ·rcases List.mem_cons.mp m with q | m
   ·exact absurd la (by rw[←q];exact Nat.lt_irrefl _)
   ·exact absurd (Vf _ m).1 (Nat.not_le.mpr lS)
 refine wpAny_bind (wpAny_rule (wpAny_bind ?_))
 have g2:=k2 _ _ g1
 show wpAny (model P w) A.in1 (updateSeq s.heap.objs.size (·.push .none) >>= fun _=>updateSeq s.heap.objs.size (·.pop)) _ _ _
 refine wpAny_bind (wpAny_updateSeq g2 rfl ?_)
 have g3:=Heap.get?_update_self (Obj.mapSeq (·.push Value.none)) g2 rfl
 refine wpAny_updateSeq (hz:=by seq_fits) g3 rfl ?_
 have g4:=Heap.get?_update_self (Obj.mapSeq (·.pop)) g3 rfl
 have k4:∀b o,b≠s.heap.objs.size→h2.get? b=some o→((h2.update s.heap.objs.size (Obj.mapSeq (·.push Value.none))).update s.heap.objs.size (Obj.mapSeq (·.pop))).get? b=some o:=fun b o nb q=>
  (Heap.get?_update_other _ _ (Ne.symm nb)).trans ((Heap.get?_update_other _ _ (Ne.symm nb)).trans q)
 have Gb:=(W A.in1 hh).frame 0 _ _ st fun b hb o q=>k4 b o (fun z=>nf (z▸hb)) q
 refine wpAny_pure ⟨plainId_quiet PySem.F.plain_extend_loop _,codeAny_extend_loopS (W A.in1 hh).toS (fits_of_scanBound S.small) s.heap.objs.size nf _ es.size 0 _ #[] _ rfl (Nat.zero_le _) Gb g4 (ItemsOf.nil _) fun s' acc' c' hm hS' hacc=>?_⟩
 show wpAny (model P w) A (load s.heap.objs.size >>= _) _ _ s'
 refine wpAny_bind (wpAny_load hS' ?_)
 refine wpAny_pure ?_
 rw[Moved.eq_with hm]
 refine h s'.heap s'.toks d2 acc'.toList ks' (fun b o q=>hm.heap b o (fun m=>?_) (k4 b o (Nat.ne_of_lt (Heap.lt_size q)) (k2 b o (k1 b o q)))) ?_ pk
 ·have lb:=Heap.lt_size q
  rcases List.mem_cons.mp m with z | m
  ·exact absurd lb (by rw[z];exact Nat.lt_irrefl _)
  ·have z:=List.mem_singleton.mp m
   exact absurd (Nat.lt_trans lb lS) (by rw[z];exact Nat.not_lt.mpr Oq)
 ·have ll:acc'.toList.length=ks'.length:=by rw[Array.length_toList,hacc.1,hsz,pk.length_eq]
  refine qo ll fun i v x e1 e2=>?_
  obtain⟨y,tk,ey,ev⟩:=hacc.2 i v (by rw[←Array.getElem?_toList];exact e1)
  rw[e2] at ey
  cases ey
  exact⟨tk,ev⟩
end
def wB (P:Program) (w:World) (a:Addr) (ks:List Str):HO:=.ext fun h=>∃es ep t ks',cu P w h a es ep t ks'∧ks'.Perm ks
section
variable {X:Cx}
def QL (X:Cx):List V→Hp→VK→Prop:=fun xs H Q=>∃(l:Addr) (ss:List Str),xs=[.ref l]∧a_ X.K H l (ss.map V.str)∧ss.length+1<scanBound∧
 ∀(p:Addr) (ks:List Str),H p=none→ks.Nodup→(∀y,y∈ks↔y∈ss)→ks.length≤ss.length→Q (.ref p) (upd H p (wB X.prog X.w p ks))
theorem B3 (hc:X.calm=true):cv X (.type "set") (QL X):=by
 intro pins s σ H xs us Q I r h
 obtain⟨l,ss,rfl,hq,hb,q⟩:=h
 obtain⟨u,rfl,ru⟩:=vals1 r
 cases ru
 obtain⟨its,rv,p,_⟩:=I.list hq
 have hl:=rv.length
 rw[List.length_map] at hl
 refine wz (I.ok.hd hc) p.isList (mh rv) (by simp;omega) fun h' tk es ep t ks S hm hlen kp=>?_
 have k':∀b o,s.heap.get? b=some o→h'.get? b=some o:=fun b o e=>kp b o (Heap.lt_size e) e
 have hp:s.heap.objs.size≤s.heap.objs.size:=Nat.le_refl _
 have I2:=I.laid (a:=s.heap.objs.size) (o:=wB X.prog X.w s.heap.objs.size ks) (t':=tk) k' hp ⟨⟨es,ep,t,ks,S,.refl _⟩,(let ⟨o,e,_⟩:=S.obj;⟨o,e⟩),fun h1 h2 ⟨es1,Vg,t1,t_,S1,p1⟩ k2=>⟨es1,Vg,t1,t_,S1.at k2,p1⟩⟩
 exact⟨.ref s.heap.objs.size,_,I2,rfl,q _ ks (I.hok.fresh hp) S.once hm (by simp at hlen;omega)⟩
def EH (X:Cx):List V→Hp→VK→Prop:=fun xs H Q=>∃(a:Addr) (ks:List Str),xs=[.ref a]∧H a=some (wB X.prog X.w a ks)∧ks.length<64∧
 ∀(p:Addr) (ss':List Str),H p=none→ss'.Perm ks→sortedS ss'=true→Q (.ref p) (upd H p (.lst (ss'.map V.str)))
theorem wC (hc:X.calm=true):cv X (.builtin "sorted") (EH X):=by
 intro pins s σ H xs us Q I r h
 obtain⟨a,ks,rfl,ha,h64,q⟩:=h
 obtain⟨u,rfl,ru⟩:=vals1 r
 cases ru
 obtain⟨⟨es,ep,t,YI,S,p0⟩,_,_⟩:=(show bb X.prog X.w H s.heap a (wB X.prog X.w a ks) from I.hok a _ ha)
 refine Calls.call_function_entry kind_sorted plain_sorted entry_sorted (args_sorted1 _) ?_
 unfold Builtin.«sorted»
 (refine wpAny_bind (m:=checkCount "sorted" 1 1 _) (wpAny_pure ?_))
 refine wpAny_bind (yE (A:=X.A.in1) S (I.ok.hd hc) fun h' tk d' acc t_ k hS p1=>?_)
 have hl:acc.length=ks.length:=by rw[hS.length,p1.length_eq,p0.length_eq]
 refine wpAny_bind (wpAny_newList ?_ (by rw[hl];exact Nat.le_of_lt (Nat.lt_of_lt_of_le h64 (by decide))))
 have hoL:(h'.push (seqObj "list" acc.toArray 0)).get? h'.objs.size=some (seqObj "list" acc.toArray 0):=Heap.get?_push_size _ rfl
 refine wpAny_bind (wpAny_holding (wpAny_call_entry slot_list_sort ⟨_,hoL,rfl⟩ entry_list_sort (list_sort_treeK strKind_oneLt hoL hS.keysOf (fun v1 v2 rest e=>keyKind_strs (by rw[←e];exact hS)) (by rw[hl];exact h64) fun st' hp hs=>⟨_,rfl,?_⟩) (args_list_sort _)))
 obtain⟨ss',a1,a2,a3⟩:=sorted_out_str hS hp hs
 have I1:Inv X pins σ H {s with heap:=h',toks:=tk,drawn:=d'}:=I.step (g':=s.gens) (d':=d') (ch:=[]) (fun b z=>by cases z) (fun b o _ _ _ e _=>k b o e) (fun b o _ _ _ e _=>⟨o.slots,k b o e⟩) (fun _ _ _ _ n=>n)
  (fun b o _ e=>⟨o,k b o e⟩) (fun _ _ e=>e) (fun _ _ _ e=>e) (fun b ps e=>⟨#[],by rw[e];simp⟩) (fun m ⟨ob,e1,e2,hb,r⟩=>⟨ob,e1,e2,k _ ob hb,r⟩) (fun b u e=>(I.hok b u e).stay (fun c v _ z=>k c v z) (fun _ z=>z) fun _ _ z=>z) I.bare
 obtain⟨e,he⟩:=sortedHeap_at (out:=(arrOf st').map (·.2)) hoL
 have kp:∀b u,h'.get? b=some u→(sortedHeap (h'.push (seqObj "list" acc.toArray 0)) h'.objs.size acc ((arrOf st').map (·.2))).get? b=some u:=fun b u eb=>by
  have lt:=Heap.lt_size eb
  rw[sortedHeap_old (Nat.ne_of_lt lt) (by rw[Heap.size_push];exact Nat.lt_succ_of_lt lt)]
  exact Heap.get?_push_of_some _ eb
 have I2:=I1.laid (a:=h'.objs.size) (o:=.lst (ss'.map V.str)) (t':=tk) kp (Nat.le_refl _) ⟨by rw[List.length_map,a2.length_eq,p1.length_eq,p0.length_eq];exact Nat.le_of_lt (Nat.lt_of_lt_of_le h64 (by decide)),((arrOf st').map (·.2)).toList,e,nM a1,he⟩
 exact wpAny_pure ⟨_,rfl,⟨.ref h'.objs.size,_,I2,rfl,q _ ss' (I1.hok.fresh (Nat.le_refl _)) ((a2.trans p1).trans p0) a3⟩⟩
end
end L2
namespace L2
open PySem PySem.Spec PyProof.Rows
open PySem.AutoSeq1 (wpAny_loadPart')
theorem qp (l b:Addr) (items items2:Array Value) (n n2:Nat) (dd:Option Addr) (sl:Array (Option Value)) (h0:¬(!items.isEmpty&&Builtin.List.listTooLong (items.size+items2.size))=true) (h1:items.size≤sizeLine) (h2:items.size+items2.size≤sizeLine+1):
  Meets (Builtin.«list.extend» ⟨[.ref l,.ref b],[]⟩) (fun _ R s=>s.heap.get? l=some {cls:=.type "list",dict:=none,data:=.seq items n,slots:= #[]}∧s.heap.get? b=some {cls:=.type "tuple",dict:=dd,data:=.seq items2 n2,slots:=sl}∧
   R (.ok (.ret Value.none)) {s with heap:=s.heap.update l (Obj.mapSeq fun x=>x++items2),toks:=s.toks}):=
 .of_wp fun prog w A R s h=>by
  obtain⟨hp,g,d,tk,os⟩:=s;obtain⟨hl,hb,h⟩:=h
  have f1:=AutoSeq1.idx_int
  have f2:=AutoSeq1.sub_tuple_tuple
  have f3:=AutoSeq1.sub_list_list
  have f4:=AutoSeq1.sub_tuple_list
  have f5:=AutoSeq1.sub_list_tuple
  have hz:(items++items2).size≤sizeLine+1:=by rw[Array.size_append];exact h2
  wp_walk using(wpAny_updateSeq hl rfl (hz:=h1) (_hz':=hz)),wpAny_loadPart' hl,wpAny_loadPart' hb
  exact⟨_,rfl,h⟩
section
variable {X:Cx}
def EI (K:PySem.W.Frag):V→List V→Hp→VK→Prop:=fun x vs H Q=>∃l b xs zs,x=.ref l∧vs=[.ref b]∧H l=some (.lst xs)∧aW K H b zs∧xs.length+zs.length≤sizeLine∧Q .non (upd H l (.lst (xs++zs)))
theorem Ai (K:PySem.W.Frag) (hK:X.K=K:=by rfl):yU X "list.extend" (EI K):=by
 subst hK
 intro pins s σ H x vs v us Q I rx rv h
 obtain⟨l,b,xs,zs,rfl,rfl,hH,hB,hz,q⟩:=h
 cases rx
 obtain⟨u,rfl,ru⟩:=rv.one
 cases ru
 obtain⟨z,its,n,r,hl,e⟩:=I.vZ hH
 obtain⟨its2,r2,⟨⟨c2,dd2,YJ,sl2⟩,e2,hc2,n2,hd2⟩,z2⟩:=I.tuple hB
 simp only at hc2 hd2
 subst hc2 hd2
 have YK:=r2.length
 have hsz:its.toArray.size+its2.toArray.size≤sizeLine:=by rw[List.size_toArray,List.size_toArray];omega
 have zV:¬(!its.toArray.isEmpty&&Builtin.List.listTooLong (its.toArray.size+its2.toArray.size))=true:=by
  rw[v7 hsz,Bool.and_false]
  exact Bool.false_ne_true
 refine call_meets F.slot_list_extend ⟨_,e,rfl⟩ F.entry_list_extend (F.args_list_extend_2 _ _)
  (qp l b its.toArray its2.toArray n n2 dd2 sl2 zV (by rw[List.size_toArray];omega) (by omega)) ⟨e,e2,?_⟩
 refine⟨.non,_,I.zU (its':=its++its2) hH e (by simp) (r.append r2) ?_,rfl,q⟩
 rw[List.length_append]
 omega
end
theorem Np (x y:Str) (h:(!ltCps y.cps.toList x.cps.toList)=true):x.cps.toList≤y.cps.toList:=by
 rw[PyProof.Rows.ltCps_eq] at h
 exact List.not_lt.mp (by simpa using h)
theorem j7:∀(l:List Str) (p:Str),risingS p l=true→∀y∈l,p.cps.toList≤y.cps.toList
 | [],p,_,y,hy=>by cases hy
 | x::l,p,h,y,hy=>by
  have h':(!ltCps x.cps.toList p.cps.toList&&risingS x l)=true:=h
  rw[Bool.and_eq_true] at h'
  have h1:=Np p x h'.1
  rcases List.mem_cons.mp hy with e | hy
  ·rw[e];exact h1
  ·exact List.le_trans h1 (j7 l x h'.2 y hy)
theorem ku {x:Str} {l:List Str} (h:sortedS (x::l)=true):sortedS l=true:=by
 cases l with
 | nil=>rfl
 | cons y l=>
  have h':(!ltCps y.cps.toList x.cps.toList&&risingS y l)=true:=h
  rw[Bool.and_eq_true] at h'
  exact h'.2
theorem JE {x y:Str} (h:x.cps.toList=y.cps.toList):x=y:=by
 obtain⟨a⟩:=x
 obtain⟨b⟩:=y
 have:a=b:=Array.toList_inj.mp h
 rw[this]
theorem oW:∀{l m:List Str},sortedS l=true→sortedS m=true→l.Nodup→m.Nodup→(∀y,y∈l↔y∈m)→l=m
 | [],[],_,_,_,_,_=>rfl
 | [],y::m,_,_,_,_,h=>by have:=(h y).mpr List.mem_cons_self;cases this
 | x::l,[],_,_,_,_,h=>by have:=(h x).mp List.mem_cons_self;cases this
 | x::l,y::m,sl,sm,nl,nm,h=>by
  rw[List.nodup_cons] at nl nm
  have e:x=y:=by
   rcases List.mem_cons.mp ((h x).mp List.mem_cons_self) with e | hx
   ·exact e
   ·rcases List.mem_cons.mp ((h y).mpr List.mem_cons_self) with e | hy
    ·exact e.symm
    ·exact JE (List.le_antisymm (j7 l x sl y hy) (j7 m y sm x hx))
  subst e
  rw[oW (ku sl) (ku sm) nl.2 nm.2 fun z=>?_]
  constructor
  ·intro hz
   rcases List.mem_cons.mp ((h z).mp (List.mem_cons_of_mem _ hz)) with e | q
   ·exact absurd (e▸hz) nl.1
   ·exact q
  ·intro hz
   rcases List.mem_cons.mp ((h z).mpr (List.mem_cons_of_mem _ hz)) with e | q
   ·exact absurd (e▸hz) nm.1
   ·exact q
theorem iZ:∀{l:List Str} {ss:List Str},l.Nodup→(∀y∈l,y∈ss)→l.length≤ss.length
 | [],ss,_,_=>Nat.zero_le _
 | x::l,ss,h,hs=>by
  rw[List.nodup_cons] at h
  have hx:=hs x List.mem_cons_self
  have:=iZ (l:=l) (ss:=ss.erase x) h.2 fun y hy=>(List.mem_erase_of_ne (fun e:y=x=>h.1 (by rw[←e];exact hy))).mpr (hs y (List.mem_cons_of_mem _ hy))
  rw[List.length_erase_of_mem hx] at this
  have hp:0<ss.length:=List.length_pos_of_mem hx
  rw[List.length_cons]
  omega
theorem pC (x:Str) (l:List Str):inV (.str x) (l.map V.str)=decide (x∈l):=by
 induction l with
 | nil=>rfl
 | cons y l ih=>
  unfold inV at ih ⊢
  rw[List.map_cons,List.any_cons,ih]
  show((y == x)||_)=_
  by_cases e:y=x
  ·simp[e]
  ·have e':¬x=y:=fun z=>e z.symm
   simp[e,e']
end L2
namespace L2
open PySem PySem.Spec PyProof.Rows PySem.W PySem.Builtin PySem.Builtin.ObjectAttr
end L2
namespace L2
open PySem PySem.Spec PyProof.Rows
section
variable {X:Cx}
theorem JF {K:PySem.W.Frag}:PySem.W.kitOne K (.type "bool") (.type "bool")=some true:=by rfl
end
section
variable {X:Cx} {e:Expr} {lo hi:Option Expr} {st:Expr} {te:TE} {tl th tk:TO} {p2 pos:Pos}
def Nq (K:PySem.W.Frag) (x:V) (l u k:Option Int):Hp→VK→Prop:=fun H Q=>∃a xs,l=none∧u=none∧k=some (-1)∧x=.ref a∧a_ K H a xs∧∀p,H p=none→Q (.ref p) (upd H p (.lst xs.reverse))
def Nr (K:PySem.W.Frag) (te:TE) (tl th tk:TO):TE:=fun σ H Q=>te σ H fun x H1=>tl σ H1 fun l H2=>th σ H2 fun u H3=>tk σ H3 fun k H4=>Nq K x l u k H4 Q
theorem HH (K:PySem.W.Frag) (he:PE X e te) (hl:PO X lo tl) (hu:PO X hi th) (hk:PO X (some st) tk) (hK:X.K=K:=by rfl):PE X (.Subscript e (.Slice lo hi (some st) p2) pos) (Nr K te tl th tk):=by
 subst hK
 intro pins s σ H Q I h
 refine Subscript_ (aE (he pins s σ H _ I h) fun v s1 ⟨x,H1,I1,r1,q1⟩=>?_)
 refine wpAny_Slice (aE (hl pins s1 σ H1 _ I1 q1) fun vl s2 ⟨l,H2,I2,pl,q2⟩=>aE (hu pins s2 σ H2 _ I2 q2) fun vu s3 ⟨u,H3,I3,pu,q3⟩=>aE (hk pins s3 σ H3 _ I3 q3) fun vk s4 ⟨k,H4,I4,pk,q4⟩=>?_)
 obtain⟨a,xs,rfl,rfl,rfl,rfl,hx,q⟩:=q4
 cases pl
 cases pu
 cases pk with
 | int i t=>
  cases r1
  have I5:Inv X pins σ H4 {s4 with heap:=s4.heap.push {cls:=.type "slice",data:=.fields #[.none,.none,.int (-1) t]}}:=I4.kept (t':=s4.toks) fun b ob q=>Heap.get?_push_of_some _ q
  obtain⟨its,r,ht,hz⟩:=I5.list hx
  have hlen:its.toArray.size=xs.length:=by rw[List.size_toArray];exact r.length.symm
  show wpAny (model X.prog X.w) X.A (subscriptTail e (.Slice lo hi (some st) p2) (.ref a) (.ref s4.heap.objs.size)) (EP X pins σ Q) X.xe {s4 with heap:=s4.heap.push {cls:=.type "slice",data:=.fields #[.none,.none,.int (-1) t]}}
  refine tail_any (ops:=[.ref a,.ref s4.heap.objs.size]) ht.isList.typeIs list_getitem_lookup ?_ (by with_unfolding_all rfl)
  refine wpAny_getItem_list_slice (lo:=none) (hi:=none) (st:=some (-1)) ht.isList (Heap.IsSliceOf.new ..) .none .none (.int _ _) (by decide) ?_ (by rw[hlen];exact hz)
  rw[PySem.W.krv_pick]
  refine⟨.ref _,_,I5.laid (o:=.lst xs.reverse) (t':=s4.toks) (fun _ _ q=>Heap.get?_push_of_some _ q) (Nat.le_refl _) ?_,rfl,q _ (I5.hok.fresh (Nat.le_refl _))⟩
  exact⟨by rw[List.length_reverse];exact hz,_,0,lA r,Heap.get?_push_size _ rfl⟩
end
def Its (x:Str):It:=⟨fun i _=>i<x.cps.size,fun i H y H'=>H'=H∧∃c,x.cps[i]? =some c∧y=.str ⟨#[c]⟩,fun i _=>x.cps.size≤i⟩
theorem EJ {P:Program} {w:World} {K:PySem.W.Frag} {tg:Expr} (it:Addr) (x:Str) (t:Tok):Turn P w K tg (Its x) [it] it (fun i h=>h.IsStrIter it "str_ascii_iterator" x t i) where
 mem:=by simp
 obj:=fun i h st b hb=>by
  have e:b=it:=by simpa using hb
  subst e
  obtain⟨o,e,c,d⟩:=st
  exact⟨o,e,fun v z=>by rw[d] at z;cases z⟩
 keep:=fun i h h' st k=>let ⟨o,ho,r⟩:=st;⟨o,k it (by simp) o ho,r⟩
 item:=by
  intro X hP hw hK hc i pins s σ H E I hf st hg
  subst hP hw hK
  obtain⟨f0,f1,f2,f3,f4,f5⟩:=hf it (by simp)
  have hg':i<x.cps.size:=hg
  refine wpAny_pyNext_ascii_item st (c:=x.cps[i]) (by simp[hg']) fun h' st' sb=>?_
  have I1:Inv X pins σ H {s with heap:=h',toks:=s.toks+1}:=I.turned (fun b o hb e=>(sb.2 b hb).trans e) f0 f1 f3 f4 f5
  obtain⟨o,e,c,d⟩:=id st'
  exact⟨_,rfl,p9 (s:={s with heap:=h',toks:=s.toks+1}) e c d (by decide) ⟨.str ⟨#[x.cps[i]]⟩,H,I1,⟨_,rfl⟩,⟨rfl,_,by simp[hg'],rfl⟩,st',fun b hb=>(hf b hb).1⟩⟩
 done:=by
  intro X hP hw hK hc i pins s σ H E I hf st hg
  subst hP hw hK
  obtain⟨f0,f1,f2,f3,f4,f5⟩:=hf it (by simp)
  have hg':x.cps.size≤i:=hg
  exact wpAny_pyNext_ascii_end (I.ok.hd hc) st (by simp[hg']) fun h' eb=>⟨rfl,I.turned (t':=s.toks) (fun b o hb e=>eb b o hb e) f0 f1 f3 f4 f5⟩
 self:=fun _ _ _ _ _ st h=>wpAny_pyIter_striter_ascii st h
def QM (tl:TE):TI:=fun σ H R=>tl σ H fun x H1=>∃z:Str,x=.str z∧z.cps.all (· <128)=true∧R (Its z) H1
section
variable {X:Cx} {tg:Expr}
theorem JG {l:Expr} {tl:TE} (hl:PE X l tl):PI X tg l (QM tl):=by
 intro pins s σ H R I h
 refine aE (hl pins s σ H _ I h) fun v s1 ⟨x,H1,I1,r1,q1⟩=>?_
 obtain⟨z,rfl,ha,q⟩:=q1
 obtain⟨t,rfl⟩:=r1
 refine wpAny_pyIter_ascii ha ?_
 refine⟨s1.heap.objs.size,[s1.heap.objs.size],_,_,H1,rfl,I1.kept (t':=s1.toks) fun b o e=>Heap.get?_push_of_some _ e,EJ _ z t,⟨_,Heap.get?_push_size _ rfl,rfl,rfl⟩,fun b hb=>?_,q⟩
 have e:b=s1.heap.objs.size:=by simpa using hb
 subst e
 exact I1.jc (Nat.le_refl _) (I1.hok.fresh (Nat.le_refl _))
end
theorem HI {z:Str} {g:TG} {tb:TS} {D:Ends} {σ:St} {H:Hp} (Pv:Nat→St→Hp→Prop) (h0:Pv 0 σ H)
  (hs:∀i c σ H,z.cps[i]? =some c→Pv i σ H→g (.str ⟨#[c]⟩) σ H fun σ2 H2=>tb {D with nx:=Pv (i+1),ct:=Pv (i+1),bk:=D.nx} σ2 H2) (hd:∀σ H,Pv z.cps.size σ H→D.nx σ H):
  ∃W:Nat→Nat→St→Hp→Prop,(∃m,W 0 m σ H)∧∀i m σ H,W i m σ H→
   ((Its z).stop i H∧D.nx σ H)∨((Its z).go i H∧∃N:St→Hp→Prop,(∀σ' H',N σ' H'→∃m',m'<m∧W (i+1) m' σ' H')∧∀x H',(Its z).nF i H x H'→g x σ H' fun σ2 H2=>tb {D with nx:=N,ct:=N,bk:=D.nx} σ2 H2):=by
 refine⟨fun i m σ H=>m=z.cps.size-i∧i≤z.cps.size∧Pv i σ H,⟨z.cps.size,by simp,Nat.zero_le _,h0⟩,?_⟩
 rintro i m σ H ⟨rfl,hi,p⟩
 by_cases hlt:i<z.cps.size
 ·refine .inr ⟨hlt,Pv (i+1),fun σ' H' p'=>⟨z.cps.size-(i+1),by omega,rfl,hlt,p'⟩,fun x H' y=>?_⟩
  obtain⟨rfl,c,hc,rfl⟩:=y
  exact hs i c σ _ hc p
 ·have e:i=z.cps.size:=by omega
  subst e
  exact .inl ⟨Nat.le_refl _,hd _ _ p⟩
section
variable {X:Cx} {e:Expr} {lo hi:Option Expr} {st:Expr} {te:TE} {tl th tk:TO} {p2 pos:Pos}
def nQ (x:Str):Str:=⟨x.cps.reverse⟩
theorem picked_rev (x:Str) (t:Tok):((slicePicked x none none (some (-1,t))).filterMap (x.cps[·]?)).toArray=x.cps.reverse:=by
 have e:slicePicked x none none (some (-1,t))=(List.range x.cps.size).reverse:=by
  have h:slicePicked x none none (some (-1,t))=sliceRange ((x.cps.size:Int)-1) (-1) (-1):=rfl
  rw[h,PySem.W.krv_sliceRange,PySem.W.krv_range]
 rw[e,List.filterMap_reverse,PySem.W.krv_all,←Array.toList_reverse]
def Nt (x:V) (l u k:Option Int):Hp→VK→Prop:=fun H Q=>∃z:Str,l=none∧u=none∧k=some (-1)∧x=.str z∧z.length≤sizeLine∧Q (.str (nQ z)) H
def Nu (te:TE) (tl th tk:TO):TE:=fun σ H Q=>te σ H fun x H1=>tl σ H1 fun l H2=>th σ H2 fun u H3=>tk σ H3 fun k H4=>Nt x l u k H4 Q
theorem HJ (he:PE X e te) (hl:PO X lo tl) (hu:PO X hi th) (hk:PO X (some st) tk):PE X (.Subscript e (.Slice lo hi (some st) p2) pos) (Nu te tl th tk):=by
 intro pins s σ H Q I h
 refine Subscript_ (aE (he pins s σ H _ I h) fun v s1 ⟨x,H1,I1,r1,q1⟩=>?_)
 refine wpAny_Slice (aE (hl pins s1 σ H1 _ I1 q1) fun vl s2 ⟨l,H2,I2,pl,q2⟩=>aE (hu pins s2 σ H2 _ I2 q2) fun vu s3 ⟨u,H3,I3,pu,q3⟩=>aE (hk pins s3 σ H3 _ I3 q3) fun vk s4 ⟨k,H4,I4,pk,q4⟩=>?_)
 obtain⟨z,rfl,rfl,rfl,rfl,hz,q⟩:=q4
 cases pl
 cases pu
 cases pk with
 | int i t=>
  obtain⟨t0,rfl⟩:=r1
  have I5:Inv X pins σ H4 {s4 with heap:=s4.heap.push {cls:=.type "slice",data:=.fields #[.none,.none,.int (-1) t]}}:=I4.kept (t':=s4.toks) fun b ob q=>Heap.get?_push_of_some _ q
  show wpAny (model X.prog X.w) X.A (subscriptTail e (.Slice lo hi (some st) p2) (.str z t0) (.ref s4.heap.objs.size)) (EP X pins σ Q) X.xe {s4 with heap:=s4.heap.push {cls:=.type "slice",data:=.fields #[.none,.none,.int (-1) t]}}
  refine tail_any (ops:=[.str z t0,.ref s4.heap.objs.size]) (typeIs_str _ _ _) PySem.F.slot_str_getitem.lookup ?_ (by with_unfolding_all rfl)
  refine wpAny_getItem_str_slice (l:=none) (u:=none) (st:=some (-1,t)) ⟨_,Heap.get?_push_size _ rfl,rfl,rfl⟩ rfl ?_
  have e1:sliceMade z t0 none none (some (-1,t))=.str (nQ z):=by
   unfold sliceMade
   rw[picked_rev]
   rfl
  rw[e1]
  exact⟨by show z.cps.reverse.size≤sizeLine;rw[Array.size_reverse];exact hz,⟨.str _,H4,I5.tok _,⟨_,rfl⟩,q⟩⟩
end
section
variable {X:Cx}
def JH:V→List V→Hp→VK→Prop:=fun x vs H Q=>∃(z y:Str) (i:Nat) (rest:List Nat),x=.str z∧vs=[.str y]∧Builtin.Str.occurrences z y 0 z.length 1=i::rest∧Q (.int (i:Nat)) H
theorem EK:yU X "str.index" JH:=by
 intro pins s σ H x vs v us Q I rx rv h
 obtain⟨z,y,i,rest,rfl,rfl,ho,q⟩:=h
 obtain⟨t,rfl⟩:=rx
 obtain⟨u,rfl,ru⟩:=rv.one
 obtain⟨t2,rfl⟩:=ru
 exact call_gives PySem.F.slot_str_index (typeIs_str _ _ _) PySem.F.entry_str_index (PySem.F.args_str_index_2 _ _) (gives_str_index z y t t2 i rest ho) ⟨.int _,H,I.tok _,⟨_,rfl⟩,q⟩
theorem HK:cC X (binaryOp .Mult) (fun x y H Q=>∃(z:Str) (n:Int),x=.str z∧y=.int n∧0≤n∧n≤1000∧z.length≤1000∧Q (.str (Txt.mul z n)) H):=by
 intro pins s σ H x y v u Q I rx ry h
 obtain⟨z,n,rfl,rfl,h0,h1,h2,q⟩:=h
 obtain⟨t,rfl⟩:=rx
 obtain⟨t',rfl⟩:=ry
 refine SB.mul ⟨?_,?_,?_⟩ fun t' k=>⟨.str _,H,I.tok k,⟨t',rfl⟩,q⟩
 ·have a:¬n< -(2 ^ 63:Int):=by omega
  have b:¬n ≥ 2 ^ 63:=by omega
  simp only[a,b,decide_false,Bool.or_self]
 ·intro a b c
  have e:(1000:Int)≤(2 ^ 63-1) / n:=by
   rw[Int.le_ediv_iff_mul_le (by omega)]
   omega
  omega
 ·intro a b
  have h3:z.length*n.toNat≤1000*1000:=Nat.mul_le_mul h2 (by omega)
  have h4:(1000*1000:Nat)≤sizeLine:=by decide
  exact decide_eq_false (by omega)
end
section
variable {prog:Program} {w:World} {A:Around} {E:Value→Shared→Prop} {s:Shared}
theorem aY {h h':Heap} {it t b:Addr} {i:Nat} (x:h.IsTupleIter it t i) (sb:Heap.ExtBut b h h') (n:it≠b):h'.IsTupleIter it t i:=let ⟨o,ho,r⟩:=x;⟨o,sb _ _ n ho,r⟩
theorem cE {h h':Heap} {t b:Addr} {ys:Array Value} (x:h.IsTuple t ys) (sb:Heap.ExtBut b h h') (n:t≠b):h'.IsTuple t ys:=let ⟨o,ho,r⟩:=x;⟨o,sb _ _ n ho,r⟩
abbrev Vh (l:Addr):Obj:={cls:=.type "list_iterator",data:=.fields #[.ref l,.int 0 0]}
abbrev nR (l:Addr):Obj:={cls:=.type "tuple_iterator",data:=.fields #[.ref l,.int 0 0]}
end
structure eJ (ps aM:List Str) (scope:Scope):Prop where
 kind:scope.kind=.function
 co:scope.isCoroutine=false
 gen:scope.isGenerator=false
 B4:∀x∈scope.names,x.2≠.cell
 par:∀x∈ps,scope.names.lookup x=some .local
 free:∀x∈aM,scope.names.lookup x=some .free
 only:∀x,scope.names.lookup x=some .free→x∈aM
 nd:(ps++aM).Nodup
structure pE (h:Heap) (cl:List (Str×Addr)) (aM:List Str) (fvs:List V):Prop where
 inj:∀x y c,cl.lookup x=some c→cl.lookup y=some c→x=y
 cell:∀x c,cl.lookup x=some c→∃v,h.IsCell c v
 vals:Paired (fun x v=>∃c u,cl.lookup x=some c∧h.IsCell c (some u)∧RelV v u) aM fvs
def B5 (P:Program) (w:World) (K:PySem.W.Frag) (mg:Str→Option Value) (base:Heap) (N:List Str) (qual:Str) (scope:Scope) (f:Addr) (cd:Value) (cl:List (Str×Addr)) (A:Around) (outer:List Env) (s:Shared) (H:Hp):Cx where
 prog:=P
 w:=w
 K:=K
 mg:=mg
 base:=base
 A:=A.deeper (PySem.W.envX qual scope s.heap.objs.size f cd cl)
 N:=N
 s₀:=s
 H₀:=H
 env:=PySem.W.envX qual scope s.heap.objs.size f cd cl
 outer:=outer
 stack:=PySem.W.envX qual scope s.heap.objs.size f cd cl::outer
 ex:=[]
 calm:=true
 fn:=fun _=>false
 pn:=[]
 xe:=fun _ _=>False
theorem HL {ps:List Str} {us:List Value} (nd:ps.Nodup) (hl:ps.length≤us.length) {i:Nat} {y:Str} {u:Value} (hp:ps[i]? =some y) (hu:us[i]? =some u):(ps.zip us).reverse.lookup y=some u:=by
 have hm:(y,u)∈(ps.zip us).reverse:=by
  rw[List.mem_reverse]
  refine List.mem_of_getElem? (i:=i) ?_
  rw[List.getElem?_zip_eq_some]
  exact⟨hp,hu⟩
 have hn:((ps.zip us).reverse.map (·.1)).Nodup:=by
  rw[List.map_reverse]
  refine(List.reverse_perm _).nodup_iff.mpr ?_
  rw[List.map_fst_zip hl]
  exact nd
 generalize (ps.zip us).reverse=l at hm hn
 induction l with
 | nil=>cases hm
 | cons p l ih=>
  rw[List.map_cons,List.nodup_cons] at hn
  rcases List.mem_cons.mp hm with e | e
  ·subst e;exact List.lookup_cons_self
  ·have:y≠p.1:=fun z=>hn.1 (by rw[←z];exact List.mem_map.mpr ⟨_,e,rfl⟩)
   obtain⟨a,b⟩:=p
   rw[List.lookup_cons,show(y == a)=false from beq_false_of_ne this]
   exact ih e hn.2
theorem g9 {α β:Type} {F:α→β→Prop}:∀{l:List α} {m:List β} {i:Nat} {a:α},Paired F l m→l[i]? =some a→∃b,m[i]? =some b∧F a b
 | _,_,_,_,.nil,h=>by simp at h
 | _,_,0,_,.cons r _,h=>by simp at h;subst h;exact⟨_,rfl,r⟩
 | _,_,i+1,_,.cons _ t,h=>by
  simp only[List.getElem?_cons_succ] at h ⊢
  exact g9 t h
theorem HM {P:Program} {w:World} {K:PySem.W.Frag} {mg:Str→Option Value} {base:Heap} {ps aM:List Str} {qual:Str} {scope:Scope} {f:Addr} {cd:Value} {cl:List (Str×Addr)} {A:Around} {outer:List Env} {s:Shared} {H:Hp} {us:List Value} {vs fvs:List V} {h1:Heap} {fo:Obj} {tk:Nat}
  (S:eJ ps aM scope) (hd:A.handled=none) (e0:rC P w K mg base A outer s H) (hl:vs.length=ps.length) (r:Vals vs us) (C:pE base cl aM fvs)
  (hns:h1.Ns s.heap.objs.size fun x=>(ps.zip us).reverse.lookup x) (hsb:Heap.SameBut s.heap.objs.size (s.heap.push fo) h1):
  Inv (B5 P w K mg base (ps++aM) qual scope f cd cl A outer s H) [] (vs.map some++fvs.map some) H {s with heap:=h1,toks:=tk}:=by
 have hk:∀b o,s.heap.get? b=some o→h1.get? b=some o:=fun b o e=>hsb.extBut b o (Nat.ne_of_lt (Heap.lt_size e)) (Heap.get?_push_of_some _ e)
 have hkb:∀b o,base.get? b=some o→h1.get? b=some o:=fun b o e=>hk b o (e0.bs b o e).1
 have oS:∀b:Addr,b ∉ (B5 P w K mg base (ps++aM) qual scope f cd cl A outer s H).ex:=fun b z=>absurd (show b∈([]:List Addr) from z) (by simp)
 have lf:aM.length=fvs.length:=Paired.length C.vals
 refine⟨⟨e0.mod,S.kind,rfl,rfl,Nat.le_refl _,C.inj,fun y hy=>?_,fun y c z=>(nomatch z),fun _=>hd,Around.frames_deeper e0.frames,.inr ⟨rfl,rfl⟩,fun b z=>absurd z (oS b),e0.bs,e0.oQ,fun b _ _=>oS b,fun b z=>absurd z (oS b),e0.ic,e0.vQ⟩,
  rfl,e0.bare,Un.kept hk,⟨_,hns,fun i y v h1' h2 h3=>?_⟩,fun y c h=>?_,e0.hok.fresh (Nat.le_refl _),fun y c h=>?_,fun p hp=>absurd (show p∈([]:List (Addr×Obj)) from hp) (by simp),e0.hok.kept hk,?_⟩
 ·have hy:scope.names.lookup y=some .cell∨scope.names.lookup y=some .free:=hy
  rcases hy with hy | hy
  ·exact absurd rfl (S.B4 _ (PySem.mem_of_lookup hy))
  ·have hm:=S.only y hy
   obtain⟨i,hi⟩:=List.getElem?_of_mem hm
   obtain⟨v,_,c,u,hc,_⟩:=g9 C.vals hi
   exact⟨c,hc⟩
 ·have rO:(ps++aM)[i]? =some y:=h1'
  by_cases hi:i<ps.length
  ·rw[List.getElem?_append_left hi] at rO
   rw[List.getElem?_append_left (by rw[List.length_map];omega),List.getElem?_map] at h2
   obtain⟨v',hv',e⟩:=Option.map_eq_some_iff.mp h2
   have e':v'=v:=Option.some.inj e
   subst e'
   obtain⟨u,hu,rv⟩:=r.get hv'
   have FY:ps.Nodup:=(List.nodup_append.mp S.nd).1
   exact⟨u,rv,.inl ⟨S.par y (List.mem_of_getElem? rO),HL FY (by rw[←hl,r.length];exact Nat.le_refl _) rO hu⟩⟩
  ·rw[List.getElem?_append_right (by omega)] at rO
   rw[List.getElem?_append_right (by rw[List.length_map];omega),List.length_map,hl,List.getElem?_map] at h2
   obtain⟨v',hv',e⟩:=Option.map_eq_some_iff.mp h2
   have e':v'=v:=Option.some.inj e
   subst e'
   obtain⟨v2,hv2,c,u,hc,⟨o,ho,hd'⟩,rv⟩:=g9 C.vals rO
   rw[hv'] at hv2
   cases hv2
   exact⟨u,rv,.inr ⟨.inr (S.free y (List.mem_of_getElem? rO)),c,hc,o,hkb _ _ ho,hd'⟩⟩
 ·obtain⟨v,o,ho,hd'⟩:=C.cell y c h
  exact⟨v,o,hkb _ _ ho,hd'⟩
 ·obtain⟨v,o,ho,hd'⟩:=C.cell y c h
  exact(e0.bs c o ho).2
 ·show _=(ps++aM).length
  rw[List.length_append,List.length_map,List.length_map,List.length_append,hl,lf]
theorem JI {P:Program} {w:World} {K:PySem.W.Frag} {mg:Str→Option Value} {base:Heap} {k:Nat} {f c':Addr} {name qual:Str} {params:Arguments} {body:Expr} {scope:Scope} {cl:List (Str×Addr)} {pm ctv:Value} {ps aM:List Str} {fvs:List V} {sp:Sp}
  (ho:base.get? f=some (PySem.W.kla_obj name qual params body scope cl pm c' ctv)) (JJ:base.CodeRec (.ref c') qual) (S:eJ ps aM scope) (C:pE base cl aM fvs) (len:∀vs H Q E,sp vs H Q E→vs.length=ps.length)
  (hbody:∀(A:Around) (outer:List Env) (s:Shared) (H:Hp) (vs:List V) (Q:VK) (E:XK),aO k (A.deeper (PySem.W.envX qual scope s.heap.objs.size f (.ref c') cl))→sp vs H Q E→
   ∃t,PE (B5 P w K mg base (ps++aM) qual scope f (.ref c') cl A outer s H) body t∧t (vs.map some++fvs.map some) H Q):
  aS P w K mg base bp (k+1) f (PySem.W.kla_fn name qual params body scope cl pm (.ref c') ctv) ps sp:=by
 refine⟨len,fun A outer s H args us vs Q E hr e0 hb r hsp=>?_⟩
 have hl:=len _ _ _ _ hsp
 have lim:s.heap.NoLimit:=e0.mod.nolimit.keeps fun b o e=>(e0.bs b o e).1
 have QN:s.heap.CodeRec (.ref c') qual:=by
  obtain⟨c,oc,vs',tq,hc,hoc,hdc,hq⟩:=JJ
  exact⟨c,oc,vs',tq,hc,(e0.bs _ _ hoc).1,hdc,hq⟩
 refine PySem.W.kla_callFunE hr.depth (e0.bs _ _ ho).1 rfl S.co S.gen rfl QN (hb _ _ _ _ ?_)
 have hloc:∀y∈ps.zip us,scope.names.lookup y.1=some .local:=fun⟨n,v⟩ hy=>S.par n (List.of_mem_zip hy).1
 refine wpAny_newFunctionEnv S.B4 hloc (fun h₁ hns hsb=>⟨lim.fresh _ hsb,?_⟩) S.kind
 obtain⟨t,ht,hq⟩:=hbody A outer s H vs Q E (hr.deeper _) hsp
 have I:Inv (B5 P w K mg base (ps++aM) qual scope f (.ref c') cl A outer s H) [] (vs.map some++fvs.map some) H {s with heap:=h₁,toks:=s.toks+(ps.zip us).length}:=HM S hr.hd e0 hl r C hns hsb
 refine PySem.W.kla_codeExpr (wpAny_mono (ht [] _ _ H _ I hq) (fun v s' hs=>?_) fun e s' hs=>hs.elim)
 obtain⟨x,H',J,rv,q⟩:=hs
 exact⟨x,H',J.os,J.bare,J.base,J.hok,rv,q⟩
section
variable {X:Cx} {x:Str} {p pos:Pos} {e:Expr} {es:List Expr} {t:TA} {k:Nat} {f:Addr} {fd:FuncData} {ps:List Str} {sp:Sp}
def JK (i:Nat) (f:Addr) (sp:Sp) (t:TA):TE:=fun σ H Q=>σ[i]? =some (some (.ref f))∧t σ H fun vs H1=>sp vs H1 Q E0
theorem wD (F:aS X.prog X.w X.K X.mg X.base bp k f fd ps sp) {i:Nat} {o:Obj} (ho:X.base.get? f=some o) (hof:o.data=.func fd) (hr:aO k X.A) (hb:∀us:List Value,us.length=ps.length→bindArgs fd ⟨us,[]⟩=pure (ps.zip us))
  (hN:X.N[i]? =some x) (hv:yK X.env.scope x) (ha:PA X (e::es) t) (hdb:(x == ("__debug__":Str))=false:=by decide) (hcd:(x == ("__classdict__":Str))=false:=by decide)
  (he:starEach (e::es) X.env=(false,eval e X.env)::starEach es X.env:=by rfl) (hpl:(backTo pos (starEach es X.env)).any (·.1)=false:=by rfl):
  PE X (.Call (.Name x p) (e::es) [] pos) (JK i f sp t):=by
 intro pins s σ H Q I h
 obtain⟨hi,h⟩:=h
 obtain⟨m,hn,hl⟩:=I.loc
 obtain⟨u,r,l⟩:=hl i x (.ref f) hN hi hv
 obtain rfl:u=Value.ref f:=r
 have fin:wpAny (model X.prog X.w) X.A (callWith pos (.ref f) [] (backTo pos (starEach (e::es) X.env)) []) (EP X pins σ Q) X.xe s:=by
  have h0:wpAny (model X.prog X.w) X.A (spliced (backTo pos (starEach (e::es) X.env))) (fun us s₁=>s₁.heap.get? f=some o∧wpAny (model X.prog X.w) X.A (call (.ref f) ([]++us)) (EP X pins σ Q) X.xe s₁) X.xe s:=by
   refine aE (ha pos pins s σ H _ I h) fun us s1 ⟨vs,H1,I1,r,q⟩=>⟨I1.bk _ _ ho,?_⟩
   exact Bs (ds:=[]) (qe:=[]) F hr (Binds.all hb) .nil aJ I1 r (by rw[List.append_nil];exact q)
  rw[he] at h0 ⊢
  refine PySem.W.callWith_of (P:=fun h=>h.get? f=some o) ?_ (fun h hf=>⟨.frame,.inl rfl,(PySem.W.Looks.ld (part:=none) hf).andThen ?_⟩) (Calls.evalArgs_plain h0)
  ·show((false||(backTo pos (starEach es X.env)).any (·.1))||false)=false
   rw[hpl];rfl
  ·rw[hof]
   exact .now
 rcases l with⟨hk,hm⟩ | ⟨hk,c,hc,hcell⟩
 ·exact wpAny_Call_Name_kw (wpAny_Name (wpAny_loadName_local I.ok.kind hk hn hm fin) hdb)
 ·rcases hk with hk | hk
  ·exact wpAny_Call_Name_kw (wpAny_Name (wpAny_loadName_cell I.ok.kind hk hc hcell fin) hdb)
  ·exact wpAny_Call_Name_kw (wpAny_Name (wpAny_loadName_free I.ok.kind hk hc hcell fin hcd) hdb)
end
def wF (f:Addr) (o:Obj):HO:=.ext fun h=>h.get? f=some o
def ub (c:Addr) (qual:Str):HO:=.ext fun h=>h.CodeRec (.ref c) qual
section
variable {P:Program} {w:World} {H:Hp} {h:Heap}
theorem B6 {f:Addr} {o:Obj} (e:h.get? f=some o):bb P w H h f (wF f o):=
 ⟨e,⟨o,e⟩,fun h1 h2 q k=>k o q⟩
theorem JL {c:Addr} {qual:Str} (e:h.CodeRec (.ref c) qual):bb P w H h c (ub c qual):=by
 refine⟨e,?_,fun h1 h2 q k=>?_⟩
 ·obtain⟨c',o,vs,t,e1,e2,_⟩:=e
  cases e1
  exact⟨o,e2⟩
 ·obtain⟨c',o,vs,t,e1,e2,r⟩:=q
  cases e1
  exact⟨c,o,vs,t,rfl,k o e2,r⟩
end
def Tab (H:Hp) (T:Addr) (L:List (Pos×Str)):Prop:=
 ∃ps:Array Value,H T=some (.h9 ps)∧TriplesOk ps.toList∧∀p∈L,codeAmong p.1 ps.toList=none∨∃c,codeAmong p.1 ps.toList=some (.ref c)∧H c=some (ub c p.2)
theorem Tab.same {H H':Hp} {T:Addr} {L:List (Pos×Str)} (x:Tab H T L) (s:Same H H'):Tab H' T L:=by
 obtain⟨ps,h1,h2,h3⟩:=x
 refine⟨ps,s _ _ h1,h2,fun p hp=>?_⟩
 rcases h3 p hp with z | ⟨c,z,q⟩
 ·exact .inl z
 ·exact .inr ⟨c,z,s _ _ q⟩
theorem Aj {p q:Pos} {c:Value}:∀(l:List Value),TriplesOk l→∀d,codeAmong p (l++[rawInt q.line,rawInt q.col,c])=some d→codeAmong p l=some d∨(codeAmong p l=none∧p.line=q.line∧p.col=q.col∧d=c):=by
 intro l
 fun_induction TriplesOk l with
 | case1=>
  intro _ d h
  simp only[List.nil_append,codeAmong,rawInt] at h
  split at h
  ·rename_i hc
   simp at hc
   cases h
   exact .inr ⟨rfl,by omega,by omega,rfl⟩
  ·cases h
 | case2 a t b u x rest ih=>
  intro hl d h
  simp only[List.cons_append,codeAmong] at h ⊢
  split at h
  ·rename_i hc;rw[if_pos hc];exact .inl h
  ·rename_i hc;rw[if_neg hc];exact ih hl d h
 | case3 l h1 h2=>intro h;exact h.elim
def Apart (L:List (Pos×Str)):Prop:=∀p∈L,∀q∈L,p.1.line=q.1.line→p.1.col=q.1.col→p=q
theorem Tab.grown {H H':Hp} {T c':Addr} {L:List (Pos×Str)} {ps:Array Value} {q:Pos×Str} (hq:q∈L) (ap:Apart L) (h2:TriplesOk ps.toList) (h3:∀p∈L,codeAmong p.1 ps.toList=none∨∃c,codeAmong p.1 ps.toList=some (.ref c)∧H c=some (ub c p.2))
  (hT:H' T=some (.h9 (ps++ #[rawInt q.1.line,rawInt q.1.col,.ref c']))) (hc:H' c'=some (ub c' q.2)) (k:∀b φ,H b=some (.ext φ)→H' b=some (.ext φ)):Tab H' T L:=by
 have e:(ps++ #[rawInt q.1.line,rawInt q.1.col,.ref c']).toList=ps.toList++[rawInt q.1.line,rawInt q.1.col,.ref c']:=by simp
 refine⟨_,hT,by rw[e];exact TriplesOk_snoc _ _ _ _ h2,fun p hp=>?_⟩
 rw[e]
 cases z:codeAmong p.1 (ps.toList++[rawInt q.1.line,rawInt q.1.col,.ref c']) with
 | none=>exact .inl rfl
 | some d=>
  rcases Aj _ h2 d z with y | ⟨_,y1,y2,y3⟩
  ·rcases h3 p hp with n | ⟨c,n,r⟩
   ·rw[n] at y;cases y
   ·rw[n] at y;cases y
    exact .inr ⟨c,rfl,k _ _ r⟩
  ·have:=ap p hp q hq y1 y2
   subst this
   subst y3
   exact .inr ⟨c',rfl,hc⟩
section
variable {X:Cx} {pos:Pos} {params:Arguments} {body:Expr} {scope:Scope} {c T:Addr} {clos:List (Str×Addr)} {L:List (Pos×Str)} {bm:Addr} {ob:Obj}
abbrev lamO (X:Cx) (params:Arguments) (body:Expr) (scope:Scope) (clos:List (Str×Addr)) (c':Addr) (ctv:Value):Obj:=PySem.W.kla_obj "<lambda>" (X.env.qual++"<lambda>") params body scope clos ((X.mg "__name__").getD .none) c' ctv
def JM (X:Cx) (params:Arguments) (body:Expr) (scope:Scope) (clos:List (Str×Addr)) (T:Addr) (L:List (Pos×Str)):TE:=fun σ H Q=>
 Tab H T L∧∀f c' ctv H',H f=none→H' f=some (wF f (lamO X params body scope clos c' ctv))→H' c'=some (ub c' (X.env.qual++"<lambda>"))→Tab H' T L→KB T H H'→Q (.ref f) H'
def fQ (mg:Str→Option Value) (base:Heap):Prop:=
 ∃bm o,mg "__builtins__"=some (.ref bm)∧bm≠builtinsNs∧base.get? bm=some o∧o.cls=.type "module"∧o.dict=some builtinsNs∧o.data=.plain
theorem JN (hcode:X.env.code=.ref c) (C:PySem.W.CodeHd X.base c T) (hB:fQ X.mg X.base) (hcl:closureFor scope X.env=pure clos) (hdef:defaultsOf params X.env=([],[])) (hL:(pos,X.env.qual++"<lambda>")∈L) (ap:Apart L) (hfs:X.ex=[]):
  PE X (.Lambda params body scope pos) (JM X params body scope clos T L):=by
 intro pins s σ H Q I ⟨⟨ps,hT,ht,htab⟩,h⟩
 refine PySem.W.kla_eval hdef ?_
 have Gh:s.heap.get? T=some (PySem.W.tabObj ps):=I.hok T _ hT
 have hg:s.heap.Ns mainGlobals X.mg:=I.ok.mod.glob.keeps I.bk
 have Vi:mainGlobals≠T:=fun q=>by
  obtain⟨o,es,ep,e,hd,_⟩:=hg
  rw[q,Gh] at e;cases e;cases hd
 have Gi:s.heap.BuiltinsAt X.mg T:=by
  obtain⟨bm,o,h1,h2,h3,h4,h5,h6⟩:=hB
  refine⟨bm,o,h1,h2,fun q=>?_,fun q=>?_,I.bk _ _ h3,h4,h5,h6⟩
  ·obtain⟨o',es,ep,e,hd,_⟩:=I.ok.mod.glob
   rw[q,e] at h3;cases h3;rw[hd] at h6;cases h6
  ·have:=I.bk _ _ h3
   rw[q,Gh] at this;cases this;cases h4
 have Ot:=C.keeps I.bk
 rcases htab _ hL with hn | ⟨c',hc',Vj⟩
 ·refine PySem.W.kla_makeFunction (mg:=X.mg) hcl I.ok.glob hg hcode Ot Gh ht hn Vi Gi fun c' ctv h' tk hx hge hlt hrec htb=>?_
  have nc:H c'=none:=I.hok.fresh hge
  have Ou:s.heap.objs.size≤h'.objs.size:=Nat.le_of_lt (Nat.lt_of_le_of_lt hge hlt)
  have nf:H h'.objs.size=none:=I.hok.fresh Ou
  have fc:h'.objs.size≠c':=Nat.ne_of_gt hlt
  have Tc:T≠c':=av hT nc
  have Tf:T≠h'.objs.size:=av hT nf
  have fT:=Ne.symm Tf
  have cT:=Ne.symm Tc
  have keep:∀b o,b≠T→s.heap.get? b=some o→(h'.push (lamO X params body scope clos c' ctv)).get? b=some o:=fun b o hb e=>Heap.get?_push_of_some _ (hx b o hb e)
  let H':Hp:=upd (upd (upd H T (.h9 (ps++ #[rawInt pos.line,rawInt pos.col,.ref c']))) c' (ub c' (X.env.qual++"<lambda>"))) h'.objs.size (wF h'.objs.size (lamO X params body scope clos c' ctv))
  have eT:H' T=some (.h9 (ps++ #[rawInt pos.line,rawInt pos.col,.ref c'])):=by show upd _ _ _ _=_;rw[au Tf,au Tc,af]
  have ec:H' c'=some (ub c' (X.env.qual++"<lambda>")):=by show upd _ _ _ _=_;rw[au fc.symm,af]
  have ef:H' h'.objs.size=some (wF h'.objs.size (lamO X params body scope clos c' ctv)):=af
  have eo:∀b,b≠T→b≠c'→b≠h'.objs.size→H' b=H b:=fun b h1 h2 h3=>by show upd _ _ _ _=_;rw[au h3,au h2,au h1]
  have kb:KB T H H':=fun b o e hb=>by rw[eo b hb (av e nc) (av e nf)];exact e
  have hnew:∀b o,s.heap.get? b=some o→b≠c'∧b≠h'.objs.size:=fun b o e=>⟨Nat.ne_of_lt (Nat.lt_of_lt_of_le (Heap.lt_size e) hge),Nat.ne_of_lt (Nat.lt_of_lt_of_le (Heap.lt_size e) Ou)⟩
  have JO:=Tab.grown (H:=H) (H':=H') hL ap ht htab eT ec fun b φ e=>kb b _ e fun z=>by rw[z,hT] at e;cases e
  have hok':cG X.prog X.w H' (h'.push (lamO X params body scope clos c' ctv)):=fun b u e=>by
   by_cases b1:b=T
   ·subst b1
    rw[eT] at e;cases e
    exact Heap.get?_push_of_some _ htb
   by_cases b2:b=c'
   ·subst b2
    rw[ec] at e;cases e
    exact JL (hrec.push _)
   by_cases b3:b=h'.objs.size
   ·subst b3
    rw[ef] at e;cases e
    exact B6 (Heap.get?_push_size _ rfl)
   rw[eo b b1 b2 b3] at e
   refine(I.hok b u e).stay (fun d v hd q=>keep d v ?_ q) (fun d q=>kb d _ q ?_) fun d xs q=>kb d _ q ?_
   ·rintro rfl
    rcases hd with z | z
    ·exact b1 z.symm
    ·rw[hT] at z;cases z
   ·rintro rfl;rw[hT] at q;cases q
   ·rintro rfl;rw[hT] at q;cases q
  refine⟨.ref h'.objs.size,H',?_,rfl,h _ _ _ _ nf ef ec JO kb⟩
  have ne_T:∀b,H b=none→b≠T:=fun b n z=>by rw[z,hT] at n;cases n
  refine I.un ⟨fun b o e n _ _=>keep b o (ne_T b n) e,fun b o e n _ _=>⟨o.slots,keep b o (ne_T b n) e⟩,fun b o e n _=>by rw[eo b (ne_T b n) (hnew b o e).1 (hnew b o e).2];exact n,fun b o e _=>?_,fun b xs e=>kb b _ e fun z=>?_,fun b o u e=>kb b _ e fun z=>?_,fun b qs e=>?_⟩ hok'
  ·by_cases hb:b=T
   ·subst hb;exact⟨_,Heap.get?_push_of_some _ htb⟩
   ·exact⟨o,keep b o hb e⟩
  ·rw[z,hT] at e;cases e
  ·rw[z,hT] at e;cases e
  ·by_cases hb:b=T
   ·subst hb
    rw[hT] at e;cases e
    exact⟨_,eT⟩
   ·exact⟨#[],by rw[kb b _ e hb];simp⟩
 ·refine PySem.W.kla_makeFunctionHit (mg:=X.mg) hcl I.ok.glob hg hcode Ot Gh ht hc' Gi fun ctv h' tk hk hsz=>?_
  have nf:H h'.objs.size=none:=I.hok.fresh hsz
  have keep:∀b o,s.heap.get? b=some o→(h'.push (lamO X params body scope clos c' ctv)).get? b=some o:=fun b o e=>Heap.get?_push_of_some _ (hk b o e)
  have kb:Same H (upd H h'.objs.size (wF h'.objs.size (lamO X params body scope clos c' ctv))):=fun b o e=>by rw[au (av e nf)];exact e
  refine⟨.ref h'.objs.size,upd H h'.objs.size (wF h'.objs.size (lamO X params body scope clos c' ctv)),I.laid keep hsz (B6 (Heap.get?_push_size _ rfl)),rfl,h _ c' ctv _ nf af (kb _ _ Vj) (Tab.same ⟨ps,hT,ht,htab⟩ kb) fun b o e _=>kb b o e⟩
end
def dm (D:List Addr) (H:Hp):Hp:=fun b=>if b∈D then none else H b
def jO (D:List Addr) (H H2:Hp):Hp:=fun b=>if b∈D then H b else H2 b
theorem lC {D:List Addr} {H:Hp} {b:Addr} (h:b∈D):dm D H b=none:=if_pos h
theorem gP {D:List Addr} {H:Hp} {b:Addr} (h:b ∉ D):dm D H b=H b:=if_neg h
theorem zb {D:List Addr} {H H2:Hp} {b:Addr} (h:b∈D):jO D H H2 b=H b:=if_pos h
theorem eK {D:List Addr} {H H2:Hp} {b:Addr} (h:b ∉ D):jO D H H2 b=H2 b:=if_neg h
def wide (h:Heap) (H:Hp) (fs:List Addr):Heap:=PySem.W.hideAll (jF h H) fs
theorem B7 (h:Heap) (H:Hp) (fs:List Addr):(wide h H fs).objs.size=h.objs.size:=(PySem.W.hideAll_size _ _).trans (tF _ _)
theorem pF {h:Heap} {H:Hp} {fs:List Addr} {b:Addr} {o:Obj} (e:h.get? b=some o) (n:H b=none) (nf:b ∉ fs):(wide h H fs).get? b=some o:=PySem.W.hideAll_get _ (vN e n) nf
theorem HN {h:Heap} {H:Hp} {fs:List Addr} {b:Addr} {o:Obj} (e:(wide h H fs).get? b=some o):h.get? b=some o∧H b=none:=yJ (PySem.W.of_hideAll fs e)
theorem B8 {h:Heap} {H:Hp} {fs:List Addr} {b:Addr} (hb:b∈fs):(wide h H fs).get? b=none:=PySem.W.hideAll_none fs hb
theorem funFrames_base {h base base':Heap}:∀{l:List Env},h.FunFrames base l→(∀b∈frs l,base'.get? b=none)→h.FunFrames base' l
 | [],_,_=>trivial
 | env::r,⟨hk,⟨L,o,hf,hn,ho,hd⟩,hr⟩,k=>by
  have e:frs (env::r)=L::frs r:=by unfold frs;rw[List.filterMap_cons,hf]
  exact⟨hk,⟨L,o,hf,k L (by rw[e];exact List.mem_cons_self),ho,hd⟩,funFrames_base hr fun b hb=>k b (by rw[e];exact List.mem_cons_of_mem _ hb)⟩
structure Wide (X:Cx) (σ:St) (D:List Addr) (H:Hp) (base':Heap):Prop where
 sub:∀b o,X.base.get? b=some o→base'.get? b=some o
 mod:Mod X.K X.mg base'
 ext:∀a φ,a∈D→H a=some (.ext φ)→φ base'
 val:∀(i:Nat) (x:Str) (v:V),X.N[i]? =some x→σ[i]? =some (some v)→X.env.scope.names.lookup x=some .cell→∃c u,X.env.cells.lookup x=some c∧base'.IsCell c (some u)∧RelV v u
 cell:∀x c,X.env.cells.lookup x=some c→∃v,base'.IsCell c v
 inj:∀x y c,X.env.cells.lookup x=some c→X.env.cells.lookup y=some c→x=y
section
variable {X:Cx} {k:Nat} {f:Addr} {fd:FuncData} {ps:List Str} {sp:Sp} {pins:List (Addr×Obj)} {σ:St} {H:Hp} {s:Shared} {D:List Addr}
theorem zc (I:Inv X pins σ H s) (hfn:∀x,X.fn x=true) (hD:∀a∈D,∃φ,H a=some (.ext φ)):Wide X σ D H (wide s.heap (dm D H) (frs X.stack)):=by
 have nD:∀b,H b=none→b ∉ D:=fun b n z=>by obtain⟨φ,e⟩:=hD b z;rw[n] at e;cases e
 have Vk:∀b o,X.base.get? b=some o→b ∉ frs X.stack:=fun b o e z=>by
  rcases List.mem_cons.mp (I.ny b z) with q | q
  ·have:=Heap.lt_size e
   rw[q] at this
   exact absurd (Nat.lt_of_lt_of_le this (Nat.le_trans I.ok.oQ I.ok.above)) (Nat.lt_irrefl _)
  ·exact I.ok.IH e q
 have sub:∀b o,X.base.get? b=some o→(wide s.heap (dm D H) (frs X.stack)).get? b=some o:=fun b o e=>
  pF (I.bs b o e).1 (by rw[gP (nD b (I.bs b o e).2)];exact(I.bs b o e).2) (Vk b o e)
 have cellK:∀x c v,X.env.cells.lookup x=some c→s.heap.IsCell c v→(wide s.heap (dm D H) (frs X.stack)).IsCell c v:=fun x c v e ⟨o,ho,hd⟩=>by
  refine⟨o,pF ho (by rw[gP (nD c (I.fN x c e))];exact I.fN x c e) fun z=>?_,hd⟩
  rcases List.mem_cons.mp (I.ny c z) with q | q
  ·exact I.tG x c e q
  ·obtain⟨_,o',ho',_⟩:=I.ok.ic.mem q
   exact absurd (Nat.lt_of_lt_of_le (Heap.lt_size ho') (I.ok.cab x c (hfn x) e)) (Nat.lt_irrefl _)
 refine⟨sub,⟨I.ok.mod.oP.keeps sub,I.ok.mod.glob.keeps sub,?_,I.ok.mod.nolimit.keeps sub⟩,fun a φ ha e=>?_,fun i x v h1 h2 h3=>?_,fun x c e=>?_,I.ok.inj⟩
 ·obtain⟨mb,h1,h2⟩:=I.ok.mod.blt
  exact⟨mb,h1.keeps sub,h2⟩
 ·obtain⟨p,⟨o,ho⟩,st⟩:=I.hok a _ e
  refine st _ _ p fun o' e'=>pF e' (lC ha) fun z=>?_
  rw[I.kO a z] at e;cases e
 ·obtain⟨m,_,hl⟩:=I.loc
  obtain⟨u,r,l⟩:=hl i x v h1 h2 (.inr (.inl h3))
  rcases l with⟨q,_⟩ | ⟨_,c,e,z⟩
  ·have q':X.env.scope.names.lookup x=some .local:=q
   rw[h3] at q';cases q'
  ·exact⟨c,u,e,cellK x c _ e z,r⟩
 ·obtain⟨v,z⟩:=I.cell x c e
  exact⟨v,cellK x c v e z⟩
theorem HP {Q:VK} {us:List Value} {vs:List V} (I:Inv X pins σ H s) (hfn:∀x,X.fn x=true) (hD:∀a∈D,∃φ,H a=some (.ext φ)) (F:aS X.prog X.w X.K X.mg (wide s.heap (dm D H) (frs X.stack)) bp k f fd ps sp) (hr:aO k X.A)
  (hb:Binds X.K fd ps []) (r:Vals vs us) (h:sp vs (dm D H) (fun v H2=>(∀b∈D,H2 b=none)→Q v (jO D H H2)) E0):wpAny (model X.prog X.w) X.A (call (.ref f) us) (EP X pins σ Q) X.xe s:=by
 have W:=zc I hfn hD
 have hl:(us++[]).length=ps.length:=by rw[List.append_nil,←r.length];exact F.len _ _ _ _ h
 have qq:∀b u,H b=some u→(∀φ,u≠.ext φ)→dm D H b=some u:=fun b u e ne=>by
  rw[gP fun z=>?_];exact e
  obtain⟨φ,q⟩:=hD b z
  rw[e] at q;cases q;exact ne φ rfl
 have uU:∀b u,dm D H b=some u→b ∉ D∧H b=some u:=fun b u e=>by
  by_cases hb:b∈D
  ·rw[lC hb] at e;cases e
  ·rw[gP hb] at e;exact⟨hb,e⟩
 have QO:cG X.prog X.w (dm D H) s.heap:=fun b u e=>(I.hok b u (uU b u e).2).stay (fun _ _ _ q=>q) (fun d q=>qq d _ q fun φ z=>nomatch z) fun d xs q=>qq d _ q fun φ z=>nomatch z
 have nU:∀b,H b=none→dm D H b=none:=fun b n=>by
  by_cases hb:b∈D
  ·exact lC hb
  ·rw[gP hb];exact n
 have e0:rC X.prog X.w X.K X.mg (wide s.heap (dm D H) (frs X.stack)) X.A X.stack s (dm D H):=
  ⟨I.ok.frames,W.mod,fun b o e=>HN e,Nat.le_of_eq (B7 _ _ _),funFrames_base I.stack fun b hb=>B8 hb,fun b hb=>nU b (I.kO b hb),QO,I.bare⟩
 refine wpAny_call (codeAny_mono (F.run X.A X.stack s (dm D H) ⟨us,[]⟩ us vs _ _ hr e0 (by have:=hb s us I.gg hl;rwa [List.append_nil] at this) r h) fun r s' hq=>?_)
 cases r with
 | error e=>exact hq.elim
 | ok fl=>
  cases fl with
  | next=>exact False.elim hq
  | brk=>exact False.elim hq
  | cont=>exact False.elim hq
  | ret u=>
   obtain⟨v,H2,os,bare,un,hok,r,q⟩:=hq
   have inD:∀b,b∈D→∃φ o,H b=some (.ext φ)∧s.heap.get? b=some o∧s'.heap.get? b=some o∧H2 b=none:=fun b hb=>by
    obtain⟨φ,e⟩:=hD b hb
    obtain⟨p,⟨o,ho⟩,st⟩:=I.hok b _ e
    refine⟨φ,o,e,ho,un.keep b o ho (lC hb) (fun z=>?_) (by simp),un.free b o ho (lC hb) (by simp)⟩
    rw[I.kO b z] at e;cases e
   have Ov:∀b u,H2 b=some u→b ∉ D:=fun b u e z=>by obtain⟨_,_,_,_,_,n⟩:=inD b z;rw[n] at e;cases e
   have QP:cG X.prog X.w (jO D H H2) s'.heap:=fun b u e=>by
    by_cases hb:b∈D
    ·rw[zb hb] at e
     obtain⟨φ,o,e1,ho,ho',_⟩:=inD b hb
     rw[e1] at e;cases e
     obtain⟨p,_,st⟩:=I.hok b _ e1
     exact⟨st _ _ p fun o2 e2=>by rw[ho] at e2;cases e2;exact ho',⟨o,ho'⟩,st⟩
    ·rw[eK hb] at e
     exact(hok b u e).stay (fun _ _ _ q=>q) (fun d q=>by rw[eK (Ov d _ q)];exact q) fun d xs q=>by rw[eK (Ov d _ q)];exact q
   have Vl:Un (frs X.stack) [] H (jO D H H2) s.heap s'.heap:=by
    have nD:∀b,H b=none→b ∉ D:=fun b n z=>by obtain⟨φ,e⟩:=hD b z;rw[n] at e;cases e
    refine⟨fun b o e n h1 h2=>un.keep b o e (nU b n) h1 h2,fun b o e n h1 h2=>un.slot b o e (nU b n) h1 h2,fun b o e n h2=>by rw[eK (nD b n)];exact un.free b o e (nU b n) h2,un.there,fun b xs e=>?_,fun b o u e=>?_,fun b qs e=>?_⟩
    ·have e1:=qq b _ e fun φ z=>nomatch z
     rw[eK (uU b _ e1).1];exact un.tups b xs e1
    ·have e1:=qq b _ e fun φ z=>nomatch z
     rw[eK (uU b _ e1).1];exact un.jD b o u e1
    ·have e1:=qq b _ e fun φ z=>nomatch z
     rw[eK (uU b _ e1).1];exact un.jE b qs e1
   exact I.after ⟨v,_,os,bare,Vl,QP,r,q fun b hb=>by obtain⟨_,_,_,_,_,n⟩:=inD b hb;exact n⟩
end
section
variable {X:Cx} {x:Str} {p pos:Pos} {e:Expr} {es:List Expr} {t:TA} {k:Nat} {f:Addr} {fd:FuncData} {ps:List Str}
def JP (X:Cx) (k:Nat) (f:Addr) (fd:FuncData) (ps:List Str) (t:TA):TE:=fun σ H Q=>t σ H fun vs H1=>∃D:List Addr,(∀a∈D,∃φ,H1 a=some (.ext φ))∧
 ∀base':Heap,Wide X σ D H1 base'→∃sp:Sp,aS X.prog X.w X.K X.mg base' bp k f fd ps sp∧sp vs (dm D H1) (fun v H2=>(∀b∈D,H2 b=none)→Q v (jO D H1 H2)) E0
theorem EL (hfn:∀x,X.fn x=true) (hr:aO k X.A) (hg:Gl X x) (hm:X.mg x=some (.ref f)) (hk:PySem.W.keepIn X.K (.ref f)=true) (hb:Binds X.K fd ps [])
  (ha:PA X (e::es) t) (hdb:(x == ("__debug__":Str))=false:=by decide) (he:starEach (e::es) X.env=(false,eval e X.env)::starEach es X.env:=by rfl) (hpl:(backTo pos (starEach es X.env)).any (·.1)=false:=by rfl):
  PE X (.Call (.Name x p) (e::es) [] pos) (JP X k f fd ps t):=by
 intro pins s σ H Q I h
 refine wpAny_Call_Name_kw (rA I hg hm ?_ hdb)
 refine PySem.W.callWith_K (h₀:=X.base) I.ok.mod.oP hk (aE (ha pos pins s σ H _ I h) fun us s1 ⟨vs,H1,I1,r,D,hD,q⟩=>⟨I1.gg,?_⟩) he hpl
 obtain⟨sp,F,hsp⟩:=q _ (zc I1 hfn hD)
 exact HP I1 hfn hD F hr hb r hsp
end
def oE (ts:List Addr) (H:Hp):Prop:=(∀b,H b=none∨(∃o xs,H b=some (.c_ o (.lst xs)))∨(b∈ts∧H b=some (.h9 #[])))∧∀b∈ts,H b=some (.h9 #[])
theorem oE.tab {ts:List Addr} {H:Hp} {T:Addr} {L:List (Pos×Str)} (x:oE ts H) (h:T∈ts):Tab H T L:=⟨#[],x.2 T h,trivial,fun p _=>.inl rfl⟩
theorem B9 {P:Program} {w:World} {K:PySem.W.Frag} {mg mb:Str→Option Value} {CX:qd} {k:Nat} {fa a:Addr} {fd:FuncData} {x:Str} {sp:Sp} {s₁:Shared} {vs:List Value} {ns:List Int} {ts:List Addr}
  (KX:K.In s₁.heap) (hns:s₁.heap.Ns mainGlobals mg) (hb:s₁.heap.Ns builtinsNs mb) (hbb:∀x:Str,x≠"__name__"→mb x=bootBuiltins x) (hlim:s₁.heap.NoLimit) (hg:s₁.gens= #[])
  (ha:s₁.heap.get? a=some {cls:=.type "list",data:=.seq vs.toArray}) (hi:IntsAre vs ns) (hl:ns.length≤sizeLine) (hr:aO k callerA)
  (hts:∀T∈ts,(∃c,PySem.W.CodeHd s₁.heap c T)∧s₁.heap.get? T=some (PySem.W.tabObj #[])∧K.lookup T=none) (Gi:fQ mg s₁.heap)
  (F:∀base:Heap,K.In base→base.Ns mainGlobals mg→fQ mg base→aS P w K mg base CX k fa fd [x] sp) (hbind:∀(s:Shared) (u:Value),BindsTo s fd ⟨[u],[]⟩ [(x,u)])
  (hsp:∀H:Hp,oE ts H→a_ K H a (ns.map V.int)→sp [.ref a] H (fun v _=>v=.bl true) fun _ _ _=>False)
  (Vm:∀H e s',CX [] H s₁ (fun _ _ _=>False) e s'→False):
  codeAny (model P w) callerA (.call (.ref fa) ⟨[.ref a],[]⟩) (fun r s'=>r=.ok (.ret (.bool true))∧OldK s₁.heap s'.heap∧s'.os=s₁.os∧AllBare s'.gens) s₁:=by
 have rv:=tQ hi
 have lenV:=hi.length
 have aT:a ∉ ts:=fun z=>by
  have:=(hts a z).2.1
  rw[ha] at this;cases this
 have core:∀H:Hp,oE ts H→a_ K H a (ns.map V.int)→cG P w H s₁.heap→(∀b,H b≠none→b=a∨b∈ts)→(H a≠none→K.lookup a=none)→
   codeAny (model P w) callerA (.call (.ref fa) ⟨[.ref a],[]⟩) (fun r s'=>r=.ok (.ret (.bool true))∧OldK s₁.heap s'.heap∧s'.os=s₁.os∧AllBare s'.gens) s₁:=by
  intro H hO hS hok hA hK
  have rP:∀{b:Addr} {o:Obj},s₁.heap.get? b=some o→H b=none→(jF s₁.heap H).get? b=some o:=fun e n=>vN e n
  have oS:∀{b:Addr} {o:Obj},s₁.heap.get? b=some o→o≠{cls:=.type "list",data:=.seq vs.toArray}→o≠PySem.W.tabObj #[]→H b=none:=fun {b o} e d1 d2=>by
   cases q:H b with
   | none=>rfl
   | some u=>
    rcases hA b (by rw[q];simp) with e' | e'
    ·subst e'
     rw[ha] at e;cases e
     exact absurd rfl d1
    ·have:=(hts b e').2.1
     rw[e] at this;cases this
     exact absurd rfl d2
  have Gj:∀{b:Addr} {m:Str→Option Value},s₁.heap.Ns b m→(jF s₁.heap H).Ns b m:=fun {b m} ⟨o,es,ep,e,d,r⟩=>⟨o,es,ep,rP e (oS e (fun z=>by rw[z] at d;cases d) fun z=>by rw[z] at d;cases d),d,r⟩
  have Ow:K.In (jF s₁.heap H):=fun b o e=>rP (KX b o e) (by
   cases q:H b with
   | none=>rfl
   | some u=>
    rcases hA b (by rw[q];simp) with e' | e'
    ·subst e'
     rw[hK (by rw[q];simp)] at e;cases e
    ·rw[(hts b e').2.2] at e;cases e)
  have Vn:fQ mg (jF s₁.heap H):=by
   obtain⟨bm,o,h1,h2,h3,h4,h5,h6⟩:=Gi
   exact⟨bm,o,h1,h2,rP h3 (oS h3 (fun z=>by rw[z] at h4;exact absurd (Value.type.inj h4) (by decide)) fun z=>by rw[z] at h4;cases h4),h4,h5,h6⟩
  have hM:Mod K mg (jF s₁.heap H):=⟨Ow,Gj hns,⟨mb,Gj hb,hbb⟩,let ⟨mc,h1,h2⟩:=hlim;⟨mc,Gj h1,h2⟩⟩
  have e0:rC P w K mg (jF s₁.heap H) callerA [] s₁ H:=⟨rfl,hM,fun b o e=>yJ e,Nat.le_of_eq (tF _ _),trivial,fun b hb=>absurd (show b∈([]:List Addr) from hb) (by simp),hok,.of_eq hg⟩
  refine codeAny_mono ((F _ Ow (Gj hns) Vn).run callerA [] s₁ H ⟨[.ref a],[]⟩ [.ref a] [.ref a] _ _ hr e0 (hbind s₁ (.ref a)) (.cons rfl .nil) (hsp H hO hS)) fun r s' h=>?_
  cases r with
  | error e=>exact(Vm H e s' h).elim
  | ok fl=>
   cases fl with
   | next=>exact False.elim h
   | brk=>exact False.elim h
   | cont=>exact False.elim h
   | ret u=>
    obtain⟨v,H',os,bare,un,hok',r',q⟩:=h
    have q':v=.bl true:=q
    subst q'
    obtain rfl:u=Value.bool true:=r'
    refine⟨rfl,⟨fun b o e=>?_,fun b o e=>un.there b o e (by simp)⟩,os,bare⟩
    cases q:H b with
    | none=>exact .inl (un.keep b o e q (by intro z;exact absurd (show b∈([]:List Addr) from z) (by simp)) (by simp))
    | some u=>
     rcases hO.1 b with z | ⟨ob,xs,z⟩ | ⟨hb,z⟩
     ·rw[q] at z;cases z
     ·have z2:=un.jD b ob _ z
      obtain⟨e1,_⟩:=hok b _ z
      obtain⟨e2,_⟩:=hok' b _ z2
      rw[e] at e1;cases e1
      exact .inl e2
     ·obtain⟨more,z2⟩:=un.jE b _ z
      have e2:s'.heap.get? b=some (PySem.W.tabObj (#[]++more)):=hok' b _ z2
      obtain⟨⟨c,hc⟩,e3,_⟩:=hts b hb
      have e4:o=PySem.W.tabObj #[]:=by rw[e] at e3;exact Option.some.inj e3
      subst e4
      exact .inr (.inl ⟨(hc.tab e3).isCodeTable,rfl, #[],more,rfl,e2⟩)
 have YL:∀T∈ts,T≠a:=fun T hT z=>aT (z▸hT)
 cases hk:K.lookup a with
 | some o=>
  have e:=KX a o hk
  rw[ha] at e
  cases e
  refine core (fun b=>if b∈ts then some (.h9 #[]) else none) ⟨fun b=>?_,fun b hb=>if_pos hb⟩ (.inr ⟨_,vs.toArray,_,hk,rfl,rfl,rfl,by rw[List.size_toArray,lenV];exact hl,by simpa using rv⟩) (fun b u z=>?_) (fun b z=>?_) fun z=>absurd (if_neg aT) z
  ·by_cases hb:b∈ts
   ·exact .inr (.inr ⟨hb,if_pos hb⟩)
   ·exact .inl (if_neg hb)
  ·by_cases hb:b∈ts
   ·have z':=(if_pos hb).symm.trans z
    cases z'
    exact(hts b hb).2.1
   ·have z':=(if_neg hb).symm.trans z
    cases z'
  ·by_cases hb:b∈ts
   ·exact .inr hb
   ·exact absurd (if_neg hb) z
 | none=>
  have eA:∀b,b=a→(if b∈ts then some (HO.h9 #[]) else if b=a then some (HO.c_ {cls:=.type "list",data:=.seq vs.toArray} (.lst (ns.map V.int))) else none)=some (HO.c_ {cls:=.type "list",data:=.seq vs.toArray} (.lst (ns.map V.int))):=fun b hb=>by
   rw[if_neg (hb▸aT),if_pos hb]
  have eN:∀b,b ∉ ts→b≠a→(if b∈ts then some (HO.h9 #[]) else if b=a then some (HO.c_ {cls:=.type "list",data:=.seq vs.toArray} (.lst (ns.map V.int))) else none)=none:=fun b h1 h2=>by
   rw[if_neg h1,if_neg h2]
  refine core (fun b=>if b∈ts then some (.h9 #[]) else if b=a then some (.c_ {cls:=.type "list",data:=.seq vs.toArray} (.lst (ns.map V.int))) else none) ⟨fun b=>?_,fun b hb=>if_pos hb⟩ (.inl (.inr ⟨{cls:=.type "list",data:=.seq vs.toArray},eA a rfl⟩)) (fun b u z=>?_) (fun b z=>?_) fun _=>hk
  ·by_cases hb:b∈ts
   ·exact .inr (.inr ⟨hb,if_pos hb⟩)
   by_cases hb2:b=a
   ·exact .inr (.inl ⟨_,_,eA b hb2⟩)
   ·exact .inl (eN b hb hb2)
  ·by_cases hb:b∈ts
   ·have z':=(if_pos hb).symm.trans z
    cases z'
    exact(hts b hb).2.1
   by_cases hb2:b=a
   ·have z':=(eA b hb2).symm.trans z
    cases z'
    subst hb2
    exact⟨ha,by rw[List.length_map];exact hl,vs,_,rv,ha⟩
   ·have z':=(eN b hb hb2).symm.trans z
    cases z'
  ·by_cases hb:b∈ts
   ·exact .inr hb
   by_cases hb2:b=a
   ·exact .inl hb2
   ·exact absurd (eN b hb hb2) z
theorem EM {l:PySem.W.OpenLaw} {n k:Nat} {q:Program} {loose:List Str} {XP:(Str→Option Value)→Heap→Prop} {YP:World→Heap→Prop} {d:DefRec} {K:Params→PySem.W.Frag} {sp:World→List Addr→Sp} {x:Str}
  (hn:l.most=some n) (hn2:n≤sizeLine) (hdf:d.params.defaults=[]) (hr:aO k callerA)
  (hY:∀(w:World) (h:Heap),YP w h→(K w.params).In h)
  (F:∀(w:World) (mg:Str→Option Value) (fa:Addr) (h:Heap),(K w.params).In h→h.Ns mainGlobals mg→mg d.name=some (.ref fa)→YP w h→
   ∃(fd:FuncData) (ts:List Addr),(∀T∈ts,(∃c,PySem.W.CodeHd h c T)∧h.get? T=some (PySem.W.tabObj #[])∧(K w.params).lookup T=none)∧(∀(s:Shared) (u:Value),BindsTo s fd ⟨[u],[]⟩ [(x,u)])∧
    ∀base:Heap,(K w.params).In base→base.Ns mainGlobals mg→fQ mg base→aS l.prog w (K w.params) mg base bp k fa fd [x] (sp w ts))
  (hsp:∀(w:World) (H:Hp) (a:Addr) (ns:List Int) (ts:List Addr),ns.length≤n→oE ts H→a_ (K w.params) H a (ns.map V.int)→sp w ts [.ref a] H (fun v _=>v=.bl true) fun _ _ _=>False):
  PySem.W.WalkO q loose XP YP l.row.toRowW d [] (fun f vs=>PySem.call f vs):=by
 refine N'.yy hn hdf fun w s₀ s₁ mg mb fa o pm cd doc a vs ns G Y ho hd hcd hmg hobj hints hlen hg=>?_
 have KX:=hY w _ Y
 obtain⟨fd,ts,h1,hb,hF⟩:=F w mg fa _ KX G.T.g hmg Y
 obtain⟨bm,ob,b1,b2,b3,b4⟩:=G.T.bmain
 exact B9 KX G.T.g G.T.b G.T.builtins G.T.nolimit hg hobj hints (Nat.le_trans hlen hn2) hr h1 ⟨bm,ob,b1,b2,b3,b4⟩ hF hb (fun H hO hS=>hsp w H a ns ts hlen hO hS) fun H e s'=>id
theorem lD:typeLookup (.type "list") "keys"=pure none:=by rw[typeLookup_type,builtinLookup_eq_fast];kernel_rfl
section
variable {P:Program} {w:World} {A:Around} {E:Value→Shared→Prop} {s:Shared}
theorem wG {a:Addr} {xs:Array Value} {k:Nat} {Q:Option Value→Shared→Prop} (hx:s.heap.get? a=some {cls:=.type "list",data:=.seq xs k}) (hA:A.handled=none)
  (h:∀h' tk,(∀b o,s.heap.get? b=some o→h'.get? b=some o)→Q none {s with heap:=h',toks:=tk}):wpAny (model P w) A (getAttr? (.ref a) "keys") Q E s:=by
 obtain⟨hp,g,d,tk,os⟩:=s
 have hT:∀tk',(⟨hp,g,d,tk',os⟩:Shared).TypeIs (.ref a) "list":=fun _=>⟨_,hx,rfl⟩
 have f1:=sub_AttributeError
 have f3:=F.slot_list_getattribute.lookup
 have f4:=F.slot_list_getattribute.bind (.ref a)
 have f5:=am_list_getattr_none
 have f6:=lD
 unfold getAttr? getAttrBy? getAttrBy
 repeat (any_goals (first | assumption | exact hT _ | ((with_reducible show wpAny _ _ (call (Value.builtin "list.__getattribute__") _ _) _ _ _);refine call_meets F.slot_list_getattribute (hT _) am_entry_list_getattribute (F.args_list_getattribute_2 _ _) (meets_getattribute_miss_list a xs k #[] "keys" _ lD (by decide+kernel) (by size_fits)) ⟨hx,hA,fun h' tk' e hx'=>?_⟩) | wp_step))
 obtain⟨t',u',he⟩:=hx'.there
 show wpAny _ _ (getattributeRaised _ _ _ _ _ _ _) _ _ _
 unfold getattributeRaised
 repeat (any_goals (first | assumption | wp_step))
 exact h _ _ hx'.keeps
end
theorem jq:entryFor table "dict.update.loop"=some Builtin.«dict.update.loop» :=entryFor_of_tree (by kernel_rfl)
theorem cR:plainId "dict.update.loop"=true:=by decide+kernel
section
variable {P:Program} {w:World} {A:Around} {R:Result→Shared→Prop} {I D:Addr} {fp wr:List Addr} {G:Array GenState→Array GenState→Prop} {n:Nat} {Pv:Nat→Value→Prop} {St:Nat→Shared→Prop}
def HQ (P:Program) (w:World) (h:Heap) (D:Addr) (wr:List Addr) (Pv:Nat→Value→Prop) (more:List (Key×Value)):Prop:=∀i v,Pv i v→∃p k key u o m,v=.ref p∧more[i]? =some (k,u)∧(aV P w).is k key=true∧h.get? p=some o∧o.cls=.type "tuple"∧o.data=.seq #[key,u] m∧p≠D∧p ∉ wr
theorem uc (W:WalksS P w A.in1 I fp wr G n Pv St) (hDf:D ∉ fp) (more:List (Key×Value)) (hml:more.length=n) (hb:n<sizeLine):
  ∀(k i:Nat) (j:Int) (s:Shared),n-i=k→i≤n→St i s→HQ P w s.heap D wr Pv more→s.heap.DictOf (aV P w) D (merged [] (more.take i))→
   (∀s',Moved (D::wr) G s s'→s'.heap.DictOf (aV P w) D (merged [] more)→R (.ok (.ret .none)) s')→
   codeAny (model P w) A (.builtin "dict.update.loop" ⟨[.ref D,.ref I,rawInt j,.none],[]⟩) R s:=by
 have hDw:D ∉ wr:=fun z=>hDf (W.sub _ z)
 have sub:∀b∈wr,b∈D::wr:=fun b z=>List.mem_cons_of_mem _ z
 intro k
 induction k with
 | zero=>
  intro i j s hk hi st hp hd hR
  have e:i=n:=by omega
  subst e
  refine codeAny_builtin jq ?_
  rw[Around.under_plainId cR]
  show wpAny (model P w) A.in1 (pyNext (.ref I) >>= _) _ _ s
  refine wpAny_bind (W.done s _ _ st fun s' mv=>?_)
  show wpAny (model P w) A.in1 (Builtin.Dict.addKeywords D [] >>= _) _ _ s'
  refine wpAny_bind (wpAny_pure ?_)
  refine wpAny_pure (hR s' (mv.mono sub) ?_)
  obtain⟨o,es,ep,ho,r⟩:=hd
  rw[List.take_of_length_le (by omega)] at r
  exact⟨o,es,ep,mv.heap D o hDw ho,r⟩
 | succ k ih=>
  intro i j s hk hi st hp hd hR
  have lt:i<n:=by omega
  refine codeAny_builtin jq ?_
  rw[Around.under_plainId cR]
  show wpAny (model P w) A.in1 (pyNext (.ref I) >>= _) _ _ s
  refine wpAny_bind (W.item i s _ _ lt st fun v s' hv st' mv=>?_)
  obtain⟨p,kk,key,u,o,m,rfl,em,hkey,ho,hc,hdat,pD,pw⟩:=hp i v hv
  have ho':=mv.heap p o pw ho
  have hd':s'.heap.DictOf (aV P w) D (merged [] (more.take i)):=by
   obtain⟨od,es,ep,hod,r⟩:=hd
   exact⟨od,es,ep,mv.heap D od hDw hod,r⟩
  have hT:s'.TypeIs (.ref p) "tuple":=⟨o,ho',hc⟩
  have hl:(merged [] (more.take i)).length≤sizeLine:=by
   have:=merged_length_le ([]:List (Key×Value)) (more.take i)
   rw[List.length_take] at this
   simp at this
   omega
  refine wpAny_bind (wpAny_holding ?_)
  refine wpAny_bind (wpAny_tryCatch ?_)
  unfold Builtin.Dict.pairItems
  refine wpAny_bind (wpAny_typeOf hT ?_)
  show wpAny _ _ (seqItems? (.ref p) >>= _) _ _ _
  refine wpAny_bind (wpAny_seqItems ho' hdat (wpAny_pure ?_))
  show wpAny _ _ (holding [key,u] (dictSet D key u)) _ _ _
  refine wpAny_holding (wpAny_dictSet_pairs (hsz:=hl) hkey hd' fun h' hd2 hs=>?_)
  refine wpAny_pure ⟨plainId_quiet cR _,ih (i+1) (j+1) _ (by omega) lt (W.frame _ s' h' _ st' (Nat.le_succ _) fun b hb o q=>(hs.2 b (fun z=>hDf (z▸hb))).trans q) (fun i2 v2 hv2=>?_) ?_ fun s2 mv2 d2=>?_⟩
  ·obtain⟨p2,k2,key2,u2,o2,m2,e1,e2,e3,e4,e5,e6,e7,e8⟩:=hp i2 v2 hv2
   exact⟨p2,k2,key2,u2,o2,m2,e1,e2,e3,(hs.2 p2 e7).trans (mv.heap p2 o2 e8 e4),e5,e6,e7,e8⟩
  ·show h'.DictOf (aV P w) D (merged [] (more.take (i+1)))
   rw[merged_take_succ [] more i (kk,u) em]
   exact hd2
  ·exact hR s2 (Moved.trans W.gtrans ((mv.mono sub).then_heap (Nat.le_succ _) fun b o hb q=>(hs.2 b (fun z=>hb (z▸List.mem_cons_self))).trans q) mv2) d2
end
section
variable {P:Program} {w:World} {A:Around} {E:Value→Shared→Prop} {s:Shared}
theorem uP {l:Addr} {its:Array Value} {nl:Nat} {more:List (Key×Value)} {Q:Value→Shared→Prop} (hh:A.handled=none) (hl:s.heap.get? l=some {cls:=.type "list",data:=.seq its nl})
  (hp:∀(i:Nat) (v:Value),its[i]? =some v→∃p k key u o m,v=.ref p∧more[i]? =some (k,u)∧(aV P w).is k key=true∧s.heap.get? p=some o∧o.cls=.type "tuple"∧o.data=.seq #[key,u] m) (hml:more.length=its.size) (hb:its.size<sizeLine)
  (h:∀h' tk,h'.DictOf (aV P w) s.heap.objs.size (merged [] more)→(∀b o,s.heap.get? b=some o→h'.get? b=some o)→Q (.ref s.heap.objs.size) {s with heap:=h',toks:=tk}):
  wpAny (model P w) A (call (.type "dict") [.ref l]) Q E s:=by
 refine callType_codes (Q₁:=fun obj s₁=>obj=.ref s.heap.objs.size∧s₁={s with heap:=s.heap.push {cls:=.type "dict",data:=.dict #[]}}) F.kt_called_dict (F.kt_typeCall_dict_1 _) F.entry_dict_init (kt_code_dict_new _ ⟨rfl,rfl⟩) ?_
 rintro obj s₁ ⟨rfl,rfl⟩
 have hnew:(s.heap.push {cls:=.type "dict",data:=.dict #[]}).DictOf (aV P w) s.heap.objs.size []:=Heap.DictOf.new s.heap
 have hl1:(s.heap.push {cls:=.type "dict",data:=.dict #[]}).get? l=some {cls:=.type "list",data:=.seq its nl}:=Heap.get?_push_of_some _ hl
 have lS:l<s.heap.objs.size:=Heap.lt_size hl
 refine⟨hnew.typeIs,F.args_dict_init_2 _ _,?_⟩
 unfold Builtin.«dict.__init__»
 refine wpAny_bind ?_
 unfold Builtin.Dict.selfAndRest
 refine wpAny_bind (wpAny_notOrdered_dict hnew.typeIs ?_)
 show wpAny _ _ (pure (s.heap.objs.size,[Value.ref l])) _ _ _
 refine wpAny_pure ?_
 show wpAny _ _ (Builtin.Dict.updateFrom "dict.__init__" s.heap.objs.size (.ref l) [] .none) _ _ _
 unfold Builtin.Dict.updateFrom
 refine wpAny_bind (wpAny_typeOf (show Shared.TypeIs {s with heap:=s.heap.push {cls:=.type "dict",data:=.dict #[]}} (.ref l) "list" from⟨_,hl1,rfl⟩) ?_)
 rw[if_pos (by decide)]
 refine wpAny_bind (wG hl1 (by simp[hh]) fun h1 tk1 k1=>?_)
 rw[show(none:Option Value).isNone=true from rfl,if_pos rfl]
 refine wpAny_bind (wpAny_rule ?_)
 have hl2:h1.IsList l its:=⟨_,k1 _ _ hl1,rfl,nl,rfl⟩
 refine wpAny_bind (wpAny_pyIter_list hl2 ?_)
 refine wpAny_pure ⟨plainId_quiet cR _,?_⟩
 have JQ:l<h1.objs.size:=Heap.lt_size (k1 _ _ hl1)
 have t5:l≠h1.objs.size:=Nat.ne_of_lt JQ
 have wH:s.heap.objs.size<h1.objs.size:=by
  obtain⟨o,es,ep,ho,_⟩:=hnew
  exact Heap.lt_size (k1 _ _ ho)
 have nf:s.heap.objs.size ∉ [h1.objs.size,l]:=by
  simp only[List.mem_cons,List.not_mem_nil,or_false,not_or]
  exact⟨Nat.ne_of_lt wH,Nat.ne_of_gt lS⟩
 have hh3:A.in1.in1.handled=none:=by simp[hh]
 refine uc ((Walks.list hh3 _ l t5 its).toS) nf more hml hb (its.size-0) 0 0 _ (by omega) (Nat.zero_le _) ⟨⟨_,Heap.get?_push_size _ rfl,rfl,rfl⟩,hl2.push _⟩ (fun i v hv=>?_) ?_ fun s' mv hd=>?_
 ·obtain⟨p,k,key,u,o,m,e1,e2,e3,e4,e5,e6⟩:=hp i v hv
  have lp:=Heap.lt_size e4
  refine⟨p,k,key,u,o,m,e1,e2,e3,Heap.get?_push_of_some _ (k1 _ _ (Heap.get?_push_of_some _ e4)),e5,e6,Nat.ne_of_lt lp,fun z=>?_⟩
  have e9:p=h1.objs.size:=List.mem_singleton.mp z
  rw[e9] at lp
  exact absurd (Nat.lt_trans lp wH) (Nat.lt_irrefl _)
 ·show Heap.DictOf _ _ _ (merged [] (more.take 0))
  obtain⟨o,es,ep,ho,r⟩:=hnew
  exact⟨o,es,ep,Heap.get?_push_of_some _ (k1 _ _ ho),r⟩
 ·obtain⟨h',g',d',tk',os'⟩:=s'
  have eg:g'=s.gens:=mv.gens
  have ed:d'=s.drawn:=mv.drawn
  have eo:os'=s.os:=mv.os
  subst eg ed eo
  refine⟨rfl,h h' tk' hd fun b o e=>mv.heap b o (fun z=>?_) (Heap.get?_push_of_some _ (k1 _ _ (Heap.get?_push_of_some _ e)))⟩
  have lb:=Heap.lt_size e
  simp only[List.mem_cons,List.not_mem_nil,or_false] at z
  rcases z with z | z
  ·rw[z] at lb;exact Nat.lt_irrefl _ lb
  ·rw[z] at lb;exact Nat.lt_irrefl _ (Nat.lt_trans lb wH)
end
section
variable {X:Cx}
def JR:List V→Hp→VK→Prop:=fun vs H Q=>∃(l:Addr) (ps:List Addr) (kvs:List (Key×V)),vs=[.ref l]∧H l=some (.lst (ps.map V.ref))∧Paired (fun(p:Addr) (q:Key×V)=>H p=some (.tup [kV q.1,q.2])) ps kvs∧kvs.length<sizeLine∧∀D,H D=none→Q (.ref D) (upd H D (.dK (br [] kvs)))
theorem qr (hA:X.A.handled=none):cv X (.type "dict") JR:=by
 intro pins s σ H xs us Q I r h
 obtain⟨l,ps,kvs,rfl,hl,hp,hb,q⟩:=h
 obtain⟨u,rfl,ru⟩:=vals1 r
 cases ru
 obtain⟨z,its,n,rv,e⟩:=I.hok l _ hl
 have key:∀(ps:List Addr) (kvs:List (Key×V)) (its:List Value),Paired (fun(p:Addr) (q:Key×V)=>H p=some (.tup [kV q.1,q.2])) ps kvs→Vals (ps.map V.ref) its→
   ∃more:List (Key×Value),KV kvs more∧∀(i:Nat) (v:Value),its[i]? =some v→∃p k key u o m,v=.ref p∧more[i]? =some (k,u)∧(aV X.prog X.w).is k key=true∧s.heap.get? p=some o∧o.cls=.type "tuple"∧o.data=.seq #[key,u] m:=by
  intro ps kvs its a
  induction a generalizing its with
  | nil=>intro b;cases b;exact⟨[],.nil,fun i v hv=>by simp at hv⟩
  | @cons p q ps kvs h t ih=>
   intro b
   cases b with
   | cons rp rt=>
    obtain⟨more,m1,m2⟩:=ih _ rt
    obtain⟨z2,its2,jo,o,ho,hc,m,hd⟩:=I.hok p _ h
    cases jo with
    | cons r1 r2=>
     cases r2 with
     | cons r2 r3=>
      cases r3
      cases(show _=Value.ref p from rp)
      refine⟨(q.1,_)::more,.cons ⟨rfl,r2⟩ m1,fun i v hv=>?_⟩
      cases i with
      | zero=>
       have e:Value.ref p=v:=by simpa using hv
       exact⟨p,q.1,_,_,o,m,e.symm,rfl,j4 r1,ho,hc,hd⟩
      | succ i=>exact m2 i v (by simpa using hv)
 obtain⟨more,m1,m2⟩:=key ps kvs its hp rv
 have len1:more.length=its.length:=by rw[←Paired.length m1,←Paired.length hp,←rv.length,List.length_map]
 have len2:its.length=kvs.length:=by rw[←len1,←Paired.length m1]
 refine uP (nl:=n) (its:=its.toArray) (more:=more) hA e (fun i v hv=>m2 i v (by simpa using hv)) (by simpa using len1) (by rw[List.size_toArray,len2];exact hb) fun h' tk dd kp=>?_
 have bg:(s.heap.objs.size == sysModules)=false:=beq_eq_false_iff_ne.mpr (Ne.symm (Nat.ne_of_lt I.big))
 have hz:(br [] kvs).length≤sizeLine:=by
  have h1:=gy kvs []
  rw[List.length_nil] at h1
  omega
 exact⟨.ref s.heap.objs.size,_,I.laid (a:=s.heap.objs.size) (o:=.dK (br [] kvs)) (t':=tk) kp (Nat.le_refl _) ⟨hz,bg,_,m1.merge .nil,dd⟩,rfl,q _ (I.hok.fresh (Nat.le_refl _))⟩
end
theorem JS {c:TT} {tb:TS} {D:Ends} {σ:St} {H:Hp} (W:Nat→St→Hp→Prop) (h0:∃m,W m σ H)
  (hs:∀m σ H,W m σ H→c σ H fun b H1=>if b=true then tb {D with nx:=fun σ' H'=>∃m',m'<m∧W m' σ' H',ct:=fun σ' H'=>∃m',m'<m∧W m' σ' H',bk:=D.nx} σ H1 else D.nx σ H1)
  (mono:∀σ H Q Q',(∀b H1,Q b H1→Q' b H1)→c σ H Q→c σ H Q'):nE c tb D σ H:=by
 refine⟨W,h0,fun m σ H w=>mono σ H _ _ (fun b H1 q=>?_) (hs m σ H w)⟩
 cases b with
 | true=>exact⟨_,fun σ' H' p=>p,q⟩
 | false=>exact q
structure jP (K:PySem.W.Frag) (x qual:Str) (st:Stmt) (f:Addr) (fd:FuncData) (cd:Value):Prop where
 ex:∃(oc:Value) (od:Option Addr) (dV kV doc pm:Value) (an:Option Addr) (ct:Value) (osl:Array (Option Value)),
  fd=PySem.W.fnOf x qual (aD st) (aB st) (ag st) dV kV doc pm an cd ct∧K.lookup f=some ⟨oc,od,.func fd,osl⟩∧PySem.W.codeIn K cd qual=true
 kp:PySem.W.keepIn K (.ref f)=true
section
variable {P:Program} {w:World} {K:PySem.W.Frag} {mg:Str→Option Value} {base:Heap}
theorem jP.ok {x qual:Str} {st:Stmt} {f:Addr} {fd:FuncData} {cd:Value} {N ps:List Str} {k:Nat} {sp:Sp} (F:jP K x qual st f fd cd) (S:aN N ps (ag st)) (len:∀vs H Q E,sp vs H Q E→vs.length=ps.length)
  (hbody:∀(A:Around) (outer:List Env) (s:Shared) (H:Hp) (vs:List V) (Q:VK) (E:XK),aO k (A.deeper (envOfC qual (ag st) s.heap.objs.size f cd))→sp vs H Q E→
   ∃t,j1 (jd bp P w K mg base N qual (ag st) f cd A outer s H E).oR (aB st) t∧t {nx:=fun _ H'=>Q .non H',rt:=Q} (start N vs) H):aS P w K mg base bp (k+1) f fd ps sp:=by
 obtain⟨oc,od,dV,kV,doc,pm,an,ct,osl,rfl,lk,hcd⟩:=F.ex
 refine FZ lk hcd S len fun A outer s H vs Q E hr hsp=>?_
 obtain⟨t,h,q⟩:=hbody A outer s H vs Q E hr hsp
 exact⟨t,h.oR,q⟩
theorem jA {x qual:Str} {st:Stmt} {f:Addr} {oc:Value} {od an:Option Addr} {osl:Array (Option Value)} {dV kV doc pm cd ct:Value} (l:K.lookup f=some ⟨oc,od,.func (PySem.W.fnOf x qual (aD st) (aB st) (ag st) dV kV doc pm an cd ct),osl⟩)
  (c:PySem.W.codeIn K cd qual=true) (k:PySem.W.keepIn K (.ref f)=true):jP K x qual st f (PySem.W.fnOf x qual (aD st) (aB st) (ag st) dV kV doc pm an cd ct) cd:=⟨⟨oc,od,dV,kV,doc,pm,an,ct,osl,rfl,l,c⟩,k⟩
end
section
variable {X:Cx} {pos:Pos} {params:Arguments} {body:Expr} {scope:Scope} {c T:Addr} {clos:List (Str×Addr)} {L:List (Pos×Str)}
theorem oF (hcode:X.env.code=.ref c) (hC:PySem.W.codeHdIn X.K c T=true) (hB:fQ X.mg X.base) (hcl:closureFor scope X.env=pure clos) (hdef:defaultsOf params X.env=([],[])) (hL:(pos,X.env.qual++"<lambda>")∈L) (ap:Apart L) (hfs:X.ex=[]):
  PE X (.Lambda params body scope pos) (JM X params body scope clos T L):=fun pins s σ H Q I h=>JN hcode (PySem.W.codeHd_of_K I.ok.mod.oP hC) hB hcl hdef hL ap hfs pins s σ H Q I h
theorem j8 {K:PySem.W.Frag} {c T:Addr} {od:Option Addr} {vs:Array Value} {sl:Array (Option Value)} (lc:K.lookup c=some ⟨.type "code",od,.fields vs,sl⟩)
  (e:((match (vs[11]? :Option Value) with | some (.ref P')=>P' == T | _=>false)&&(match vs.getD 18 .none with | .str _ _=>true | _=>false)&&(match vs.getD 7 .none with | .int _ _=>true | _=>false)&&
   (match vs.getD 9 .none with | .bool _=>true | _=>false)&&(match vs.getD 10 .none with | .int _ _=>true | _=>false)&&c != T)=true):PySem.W.codeHdIn K c T=true:=by
 unfold PySem.W.codeHdIn
 rw[lc]
 exact e
end
def kvsOf {α κ:Type} (key:α→κ) (xs:List α):List (κ×V):=xs.zipIdx.map fun p=>(key p.1,V.int ((p.2:Nat):Int))
section
variable {α κ:Type} [DecidableEq κ] {key:α→κ}
theorem B' (xs:List α):(kvsOf key xs).length=xs.length:=by unfold kvsOf;rw[List.length_map,List.length_zipIdx]
theorem qt (xs:List α) (x:α):kvsOf key (xs++[x])=kvsOf key xs++[(key x,V.int ((xs.length:Nat):Int))]:=by
 unfold kvsOf
 rw[List.zipIdx_append,List.map_append]
 simp
theorem nS:∀{kvs:List (κ×V)} {k:κ},(∀p∈kvs,p.1≠k)→aR kvs k=none
 | [],_,_=>rfl
 | p::r,k,h=>by rw[bw (h p List.mem_cons_self)];exact nS fun q hq=>h q (List.mem_cons_of_mem _ hq)
theorem mj (inj:∀a b,key a=key b→a=b) {xs:List α} {x:α} (h:x ∉ xs):aR (kvsOf key xs) (key x)=none:=by
 refine nS fun p hp e=>h ?_
 unfold kvsOf at hp
 obtain⟨q,hq,rfl⟩:=List.mem_map.mp hp
 obtain⟨y,i⟩:=q
 have:=(List.mem_zipIdx hq).2.2
 have e':=inj _ _ e
 rw[←e',this]
 exact List.getElem_mem ..
theorem jQ {kvs more:List (κ×V)} {k:κ} (h:aR kvs k=none):aR (kvs++more) k=aR more k:=by
 induction kvs with
 | nil=>rfl
 | cons p r ih=>
  by_cases e:p.1=k
  ·rw[bG e] at h;cases h
  ·rw[bw e] at h
   show aR (p::(r++more)) k=_
   rw[bw e];exact ih h
theorem pG {kvs more:List (κ×V)} {k:κ} {v:V} (h:aR kvs k=some v):aR (kvs++more) k=some v:=by
 induction kvs with
 | nil=>cases h
 | cons p r ih=>
  by_cases e:p.1=k
  ·rw[bG e] at h
   show aR (p::(r++more)) k=_
   rw[bG e];exact h
  ·rw[bw e] at h
   show aR (p::(r++more)) k=_
   rw[bw e];exact ih h
theorem qu (inj:∀a b,key a=key b→a=b):∀(n:Nat) {xs:List α} {i:Nat} {x:α},xs.length=n→xs.Nodup→xs[i]? =some x→aR (kvsOf key xs) (key x)=some (.int ((i:Nat):Int))
 | 0,xs,i,x,hl,_,h=>by
  have:=(List.getElem?_eq_some_iff.mp h).1
  omega
 | n+1,xs,i,x,hl,nd,h=>by
  rcases List.eq_nil_or_concat xs with rfl | ⟨ys,y,e⟩
  ·simp at hl
  rw[List.concat_eq_append] at e
  subst e
  rw[qt]
  have hy:y ∉ ys:=fun z=>((List.nodup_append.mp nd).2.2 y z y (List.mem_singleton.mpr rfl)) rfl
  by_cases hi:i<ys.length
  ·rw[List.getElem?_append_left hi] at h
   exact pG (qu inj n (by simpa using hl) (List.nodup_append.mp nd).1 h)
  ·have hb:=(List.getElem?_eq_some_iff.mp h).1
   rw[List.length_append] at hb
   have hi2:i=ys.length:=by simp at hb;omega
   subst hi2
   rw[List.getElem?_append_right (Nat.le_refl _),Nat.sub_self] at h
   have:=Option.some.inj h
   subst this
   rw[jQ (mj inj hy)]
   exact bG rfl
end
theorem eJ.mk' {ps aM:List Str} {scope:Scope} (h1:scope.kind=.function) (h2:scope.isCoroutine=false) (h3:scope.isGenerator=false) (h4:∀x∈scope.names,x.2≠.cell) (h5:∀x∈ps,scope.names.lookup x=some .local) (h6:∀x∈aM,scope.names.lookup x=some .free)
  (h7:∀p∈scope.names,p.2=.free→p.1∈aM) (h8:(ps++aM).Nodup):eJ ps aM scope:=⟨h1,h2,h3,h4,h5,h6,fun x e=>h7 (x,.free) (PySem.mem_of_lookup e) rfl,h8⟩
def FnAt (P:Program) (w:World) (K:PySem.W.Frag) (mg:Str→Option Value) (base:Heap) (k:Nat) (f:Addr) (n:Nat) (sp:Sp):Prop:=
 ∃(o:Obj) (fd:FuncData) (ps:List Str),base.get? f=some o∧o.data=.func fd∧ps.length=n∧(∀us:List Value,us.length=ps.length→bindArgs fd ⟨us,[]⟩=pure (ps.zip us))∧aS P w K mg base bp k f fd ps sp
theorem ud {D:List Addr} {H1 H2:Hp} (s:Same (dm D H1) H2):Same H1 (jO D H1 H2):=fun b o e=>by
 by_cases hb:b∈D
 ·rw[zb hb];exact e
 ·rw[eK hb];exact s _ _ (by rw[gP hb];exact e)
theorem wI {D:List Addr} {H:Hp} {b:Addr} {o:HO} (hD:∀a∈D,∃φ,H a=some (.ext φ)) (e:H b=some o) (hn:∀φ,o≠.ext φ):dm D H b=some o:=by
 rw[gP fun z=>?_]
 ·exact e
 ·obtain⟨φ,q⟩:=hD b z
  rw[e] at q
  exact hn φ (Option.some.inj q)
def qv (c:Addr) (v:V):HO:=.ext fun h=>∃u,h.IsCell c (some u)∧RelV v u
theorem EN {P:Program} {w:World} {H:Hp} {h:Heap} {c:Addr} {v:V} {u:Value} (e:h.IsCell c (some u)) (r:RelV v u):bb P w H h c (qv c v):=
 ⟨⟨u,e,r⟩,(let ⟨o,ho,_⟩:=e;⟨o,ho⟩),fun h1 h2 ⟨u,⟨o,ho,hd⟩,r⟩ k=>⟨u,⟨o,k o ho,hd⟩,r⟩⟩
def je (cs:List (Addr×V)) (H:Hp):Hp:=fun b=>match cs.lookup b with
 | some v=>some (qv b v)
 | none=>H b
theorem zf {cs:List (Addr×V)} {H:Hp} {b:Addr} {v:V} (h:cs.lookup b=some v):je cs H b=some (qv b v):=by unfold je;rw[h]
theorem pH {cs:List (Addr×V)} {H:Hp} {b:Addr} (h:cs.lookup b=none):je cs H b=H b:=by unfold je;rw[h]
theorem j9 {cs:List (Addr×V)} {H:Hp} (h:∀c v,cs.lookup c=some v→H c=none):Same H (je cs H):=fun b o e=>by
 cases q:cs.lookup b with
 | none=>rw[pH q];exact e
 | some v=>rw[h b v q] at e;cases e
def gY (X:Cx) (σ:St) (cs:List (Addr×V)):Prop:=∀c v,cs.lookup c=some v→∃(i:Nat) (x:Str),X.N[i]? =some x∧σ[i]? =some (some v)∧X.env.scope.names.lookup x=some .cell∧X.env.cells.lookup x=some c
section
variable {X:Cx} {pins:List (Addr×Obj)} {σ:St} {H:Hp} {s:Shared} {cs:List (Addr×V)}
theorem gY.free (C:gY X σ cs) (I:Inv X pins σ H s):∀c v,cs.lookup c=some v→H c=none:=fun c v e=>by
 obtain⟨i,x,_,_,_,h⟩:=C c v e
 exact I.fN x c h
theorem gY.hok (C:gY X σ cs) (I:Inv X pins σ H s):cG X.prog X.w (je cs H) s.heap:=fun b u e=>by
 have sm:=j9 (C.free I)
 cases q:cs.lookup b with
 | some v=>
  rw[zf q] at e
  cases e
  obtain⟨i,x,h1,h2,h3,h4⟩:=C b v q
  obtain⟨m,_,hl⟩:=I.loc
  obtain⟨u,r,l⟩:=hl i x v h1 h2 (.inr (.inl h3))
  rcases l with⟨z,_⟩ | ⟨_,c,e,z⟩
  ·have z':X.env.scope.names.lookup x=some .local:=z
   rw[h3] at z';cases z'
  ·rw[h4] at e;cases e
   exact EN z r
 | none=>
  rw[pH q] at e
  exact(I.hok b u e).stay (fun _ _ _ z=>z) (fun d z=>sm _ _ z) fun d xs z=>sm _ _ z
theorem gY.un (C:gY X σ cs) (I:Inv X pins σ H s) (hfn:∀x,X.fn x=true) (hex:X.ex=[]):Un X.fs [] X.H₀ (je cs H) X.s₀.heap s.heap:=by
 have B:=I.base
 rw[hex] at B
 have sm:=j9 (C.free I)
 refine⟨B.keep,B.slot,fun b o e n hx=>?_,B.there,fun b xs e=>sm _ _ (B.tups b xs e),fun b o xs e=>sm _ _ (B.jD b o xs e),fun b ps e=>?_⟩
 ·cases q:cs.lookup b with
  | none=>rw[pH q];exact B.free b o e n hx
  | some v=>
   obtain⟨i,x,_,_,_,h4⟩:=C b v q
   exact absurd (Nat.lt_of_lt_of_le (Heap.lt_size e) (I.ok.cab x b (hfn x) h4)) (Nat.lt_irrefl _)
 ·obtain⟨m,z⟩:=B.jE b ps e
  exact⟨m,sm _ _ z⟩
end
abbrev TB:=(St→V→Hp→Prop)→St→Hp→Prop
def Vo (X:Cx) (pins:List (Addr×Obj)) (R:St→V→Hp→Prop) (f:Flow) (s':Shared):Prop:=
 match f with
 | .ret u=>∃v σ' H',Inv X pins σ' H' s'∧RelV v u∧R σ' v H'
 | _=>False
def ml (X:Cx) (st:List Stmt) (t:TB):Prop:=
 ∀(pins:List (Addr×Obj)) (s:Shared) (σ:St) (H:Hp) (R:St→V→Hp→Prop),Inv X pins σ H s→t R σ H→wpAny (model X.prog X.w) X.A (execs st X.env) (Vo X pins R) X.xe s
section
variable {X:Cx} {st:Stmt} {rest:List Stmt} {t:TS} {u:TB} {e:Expr} {te:TE} {pos:Pos}
theorem Ca (he:PE X e te):ml X [.Return (some e) pos] (fun R σ H=>te σ H (R σ)):=by
 intro pins s σ H R I h
 refine wpAny_execs_cons (wpAny_Return_some (aE (he pins s σ H _ I h) fun v s1 ⟨x,H1,I1,r1,q1⟩=>?_))
 exact⟨x,σ,H1,I1,r1,q1⟩
theorem jB (h1:PS X st t) (h2:ml X rest u):ml X (st::rest) (fun R σ H=>t {nx:=u R,rt:=fun _ _=>False} σ H):=by
 intro pins s σ H R I h
 refine wpAny_execs_cons (aE (h1 pins s σ H {nx:=u R,rt:=fun _ _=>False} I h) fun f s1 q=>?_)
 cases f with
 | next=>
  obtain⟨σ',H',I',q⟩:=q
  exact h2 pins s1 σ' H' R I' q
 | ret v=>obtain⟨_,_,_,_,_,z⟩:=q;exact z.elim
 | brk=>obtain⟨_,_,_,z⟩:=q;exact z.elim
 | cont=>obtain⟨_,_,_,z⟩:=q;exact z.elim
theorem ml.oR {st:List Stmt} (h:ml X.oR st u):ml X st u:=fun pins s σ H R I hw=>
 wpAny_mono (h pins s σ H R (I.wish _) hw) (fun f s' q=>by
  cases f with
  | ret v=>obtain⟨x,σ',H',J,r,z⟩:=q;exact⟨x,σ',H',J.g7,r,z⟩
  | next=>exact q
  | brk=>exact q
  | cont=>exact q) fun _ _ z=>False.elim z
end
theorem jP.okR {P:Program} {w:World} {K:PySem.W.Frag} {mg:Str→Option Value} {base:Heap} {x qual:Str} {st:Stmt} {f:Addr} {fd:FuncData} {cd:Value} {N ps:List Str} {k:Nat} {sp:Sp} (F:jP K x qual st f fd cd) (S:aN N ps (ag st)) (len:∀vs H Q E,sp vs H Q E→vs.length=ps.length)
  (hbody:∀(A:Around) (outer:List Env) (s:Shared) (H:Hp) (vs:List V) (Q:VK) (E:XK),(∀x y c,(envOfC qual (ag st) s.heap.objs.size f cd).cells.lookup x=some c→(envOfC qual (ag st) s.heap.objs.size f cd).cells.lookup y=some c→x=y)→aO k (A.deeper (envOfC qual (ag st) s.heap.objs.size f cd))→sp vs H Q E→
   ∃t,ml (jd bp P w K mg base N qual (ag st) f cd A outer s H E).oR (aB st) t∧t (fun σ v H2=>∃cs,gY (jd bp P w K mg base N qual (ag st) f cd A outer s H E) σ cs∧((∀c v,cs.lookup c=some v→H2 c=none)→Q v (je cs H2))) (start N vs) H):aS P w K mg base bp (k+1) f fd ps sp:=by
 obtain⟨oc,od,dV,kV,doc,pm,an,ct,osl,rfl,lk,hcd⟩:=F.ex
 refine⟨len,fun A outer s H args us vs Q E hr e0 hb r hsp=>?_⟩
 have hl:=len _ _ _ _ hsp
 have KX:K.In s.heap:=e0.mod.oP.keeps fun b o e=>(e0.bs b o e).1
 have lim:s.heap.NoLimit:=e0.mod.nolimit.keeps fun b o e=>(e0.bs b o e).1
 have hkind:∀y∈ps.zip us,(ag st).names.lookup y.1=some .local∨((ag st).names.lookup y.1=some .cell∧((cellsFrom (s.heap.objs.size+1) (ag st).names []).lookup y.1).isSome=true):=fun⟨n,v⟩ hy=>by
  rcases S.par n (List.of_mem_zip hy).1 with q | q
  ·exact .inl q
  ·exact .inr ⟨q,PySem.W.cellsFrom_some _ _ _ (.inl q)⟩
 refine codeAny_call_function hr.depth (KX _ _ lk) rfl S.co S.gen rfl (PySem.W.codeRec_of KX hcd) (hb _ _ _ _ ?_)
 refine wpAny_newFunctionEnv_cells S.kind hkind fun env he s1 x=>?_
 subst he
 refine⟨lim.keeps x.toInCall.keep,codeAny_func ?_⟩
 have I:Inv (jd bp P w K mg base N qual (ag st) f cd A outer s H E) [] (start N vs) H s1:=tP S hr.hd e0 hl r x
 obtain⟨t,ht,hq⟩:=hbody A outer s H vs Q E I.ok.inj (hr.deeper _) hsp
 refine wpAny_mono (ht.oR [] s1 (start N vs) H _ I hq) (fun fl s' hs=>?_) fun e s' hs=>hs
 cases fl with
 | ret u=>
  obtain⟨v,σ',H',J,rv,cs,C,q⟩:=hs
  exact⟨v,je cs H',J.os,J.bare,C.un J (fun _=>rfl) rfl,C.hok J,rv,q (C.free J)⟩
 | next=>exact False.elim hs
 | brk=>exact False.elim hs
 | cont=>exact False.elim hs
structure Ak (K:PySem.W.Frag) (mg:Str→Option Value) (base:Heap) (D:List Addr) (H:Hp) (base':Heap):Prop where
 sub:∀b o,base.get? b=some o→base'.get? b=some o
 mod:Mod K mg base'
 ext:∀a φ,a∈D→H a=some (.ext φ)→φ base'
theorem Wide.b {X:Cx} {σ:St} {D:List Addr} {H:Hp} {base':Heap} (W:Wide X σ D H base'):Ak X.K X.mg X.base D H base':=⟨W.sub,W.mod,W.ext⟩
def gQ (P:Program) (w:World) (K:PySem.W.Frag) (mg:Str→Option Value) (base:Heap) (H:Hp) (D:List Addr) (k:Nat) (f:Addr) (n:Nat) (sp:Sp):Prop:=∀base',Ak K mg base D H base'→FnAt P w K mg base' k f n sp
theorem gQ.same {P:Program} {w:World} {K:PySem.W.Frag} {mg:Str→Option Value} {base:Heap} {H H':Hp} {D:List Addr} {k:Nat} {f:Addr} {n:Nat} {sp:Sp} (F:gQ P w K mg base H D k f n sp) (k':∀b φ,b∈D→H b=some (.ext φ)→H' b=some (.ext φ)):gQ P w K mg base H' D k f n sp:=
 fun base' W=>F base' ⟨W.sub,W.mod,fun a φ ha e=>W.ext a φ ha (k' a φ ha e)⟩
theorem gQ.lam {X:Cx} {D:List Addr} {H:Hp} {params:Arguments} {body:Expr} {scope:Scope} {clos:List (Str×Addr)} {c' f:Addr} {ctv:Value} {ps aM:List Str} {fvs:List V} {k:Nat} {sp:Sp}
  (hf:H f=some (wF f (lamO X params body scope clos c' ctv))) (Vp:f∈D) (hc:H c'=some (ub c' (X.env.qual++"<lambda>"))) (hcD:c'∈D) (S:eJ ps aM scope) (QQ:∀x y c,X.env.cells.lookup x=some c→X.env.cells.lookup y=some c→x=y) (sub:∀p∈clos,X.env.cells.lookup p.1=some p.2∧p.1∈aM)
  (vals:Paired (fun(x:Str) (v:V)=>∃c,clos.lookup x=X.env.cells.lookup x∧X.env.cells.lookup x=some c∧c∈D∧H c=some (qv c v)) aM fvs)
  (hb:∀(us:List Value),us.length=ps.length→bindArgs (PySem.W.kla_fn "<lambda>" (X.env.qual++"<lambda>") params body scope clos ((X.mg "__name__").getD .none) (.ref c') ctv) ⟨us,[]⟩=pure (ps.zip us)) (len:∀vs H Q E,sp vs H Q E→vs.length=ps.length)
  (hbody:∀(base':Heap),Ak X.K X.mg X.base D H base'→∀(A:Around) (outer:List Env) (s:Shared) (H:Hp) (vs:List V) (Q:VK) (E:XK),aO k (A.deeper (PySem.W.envX (X.env.qual++"<lambda>") scope s.heap.objs.size f (.ref c') clos))→sp vs H Q E→
   ∃t,PE (B5 X.prog X.w X.K X.mg base' (ps++aM) (X.env.qual++"<lambda>") scope f (.ref c') clos A outer s H) body t∧t (vs.map some++fvs.map some) H Q):gQ X.prog X.w X.K X.mg X.base H D (k+1) f ps.length sp:=fun base' W=>by
 have ho:base'.get? f=some (lamO X params body scope clos c' ctv):=W.ext f _ Vp hf
 have JJ:base'.CodeRec (.ref c') (X.env.qual++"<lambda>"):=W.ext c' _ hcD hc
 have vals':Paired (fun(x:Str) (v:V)=>∃c u,clos.lookup x=some c∧base'.IsCell c (some u)∧RelV v u) aM fvs:=Paired.nr vals fun x v ⟨c,h0,h1,h2,h3⟩=>by
  obtain⟨u,e,r⟩:=W.ext c _ h2 h3
  exact⟨c,u,h0.trans h1,e,r⟩
 have sub':∀x c,clos.lookup x=some c→X.env.cells.lookup x=some c∧x∈aM:=fun x c e=>sub (x,c) (PySem.mem_of_lookup e)
 have C:pE base' clos aM fvs:=by
  refine⟨fun x y c h1 h2=>QQ x y c (sub' x c h1).1 (sub' y c h2).1,fun x c h=>?_,vals'⟩
  obtain⟨i,hi⟩:=List.getElem?_of_mem (sub' x c h).2
  obtain⟨v,_,c2,u,h1,h2,_⟩:=g9 vals' hi
  rw[h] at h1;cases h1
  exact⟨_,h2⟩
 exact⟨_,_,ps,ho,rfl,rfl,hb,JI ho JJ S C len (hbody base' W)⟩
theorem wJ {α β:Type} [BEq α] [LawfulBEq α]:∀{l:List (α×β)} {a:α} {b:β},l.lookup a=some b→(a,b)∈l
 | (x,y)::l,a,b,h=>by
  rw[List.lookup_cons] at h
  by_cases e:a=x
  ·subst e
   rw[beq_self_eq_true] at h
   cases h
   exact List.mem_cons_self
  ·rw[show(a == x)=false from beq_false_of_ne e] at h
   exact List.mem_cons_of_mem _ (wJ h)
structure uf (X:Cx) (σ:St) (l:List (Nat×Str×Addr×V)):Prop where
 at':∀q∈l,X.N[q.1]? =some q.2.1∧σ[q.1]? =some (some q.2.2.2)∧X.env.scope.names.lookup q.2.1=some .cell∧X.env.cells.lookup q.2.1=some q.2.2.1
 nd:(l.map (·.2.1)).Nodup
def ky (l:List (Nat×Str×Addr×V)):List (Addr×V):=l.map fun q=>(q.2.2.1,q.2.2.2)
theorem uf.cells {X:Cx} {σ:St} {l:List (Nat×Str×Addr×V)} (C:uf X σ l):gY X σ (ky l):=fun c v h=>by
 obtain⟨q,hq,e⟩:=List.mem_map.mp (show(c,v)∈ky l from wJ h)
 cases e
 obtain⟨h1,h2,h3,h4⟩:=C.at' q hq
 exact⟨q.1,q.2.1,h1,h2,h3,h4⟩
theorem lE {α β:Type} [BEq α] [LawfulBEq α]:∀{l:List (α×β)} {a:α} {b:β},(a,b)∈l→∃b',l.lookup a=some b'
 | (x,y)::l,a,b,h=>by
  rw[List.lookup_cons]
  by_cases e:a=x
  ·subst e;rw[beq_self_eq_true];exact⟨y,rfl⟩
  ·rw[show(a == x)=false from beq_false_of_ne e]
   rcases List.mem_cons.mp h with z | z
   ·cases z;exact absurd rfl e
   ·exact lE z
theorem zg:∀{l:List (Nat×Str×Addr×V)},(l.map (·.2.1)).Nodup→∀q∈l,∀p∈l,q.2.1=p.2.1→q=p
 | [],_=>fun _ h=>by cases h
 | x::l,nd=>fun q hq p hp e=>by
  rw[List.map_cons,List.nodup_cons] at nd
  rcases List.mem_cons.mp hq with z | z
  ·rcases List.mem_cons.mp hp with y | y
   ·rw[z,y]
   ·exact absurd (List.mem_map.mpr ⟨p,y,by rw[←e,z]⟩) nd.1
  ·rcases List.mem_cons.mp hp with y | y
   ·exact absurd (List.mem_map.mpr ⟨q,z,by rw[e,y]⟩) nd.1
   ·exact zg nd.2 q z p y e
theorem uf.look {X:Cx} {σ:St} {l:List (Nat×Str×Addr×V)} (C:uf X σ l) (inj:∀x y c,X.env.cells.lookup x=some c→X.env.cells.lookup y=some c→x=y) {q:Nat×Str×Addr×V} (hq:q∈l):(ky l).lookup q.2.2.1=some q.2.2.2:=by
 obtain⟨v,hv⟩:=lE (l:=ky l) (List.mem_map.mpr ⟨q,hq,rfl⟩)
 obtain⟨p,hp,e⟩:=List.mem_map.mp (show(q.2.2.1,v)∈ky l from wJ hv)
 injection e with e1 e2
 have:=zg C.nd q hq p hp (inj _ _ _ (C.at' q hq).2.2.2 (by rw[←e1];exact(C.at' p hp).2.2.2))
 rw[hv,←e2,this]
theorem uf.got {X:Cx} {σ:St} {l:List (Nat×Str×Addr×V)} (C:uf X σ l) (inj:∀x y c,X.env.cells.lookup x=some c→X.env.cells.lookup y=some c→x=y) (H:Hp) {q:Nat×Str×Addr×V} (hq:q∈l):je (ky l) H q.2.2.1=some (qv q.2.2.1 q.2.2.2):=zf (C.look inj hq)
abbrev cy (h:Heap) (z TI TO:Addr) (f0:Value) (fl:Bool):Prop:=h.get? z=some {cls:=.type "zip",dict:=none,data:=.fields #[f0,.bool fl,.bool false,.ref TI,.ref TO],slots:= #[]}
section
variable {prog:Program} {w:World} {A:Around} {E:Value→Shared→Prop} {s:Shared}
theorem ug {z TI TO i1 i2 l1 l2:Addr} {k:Nat} {f0:Value} {fl:Bool} {xs ys:Array Value} {x y a b:Value} {Q:Value→Shared→Prop} (D:ZipApart z TI TO i1 i2 l1 l2) (gz:cy s.heap z TI TO f0 fl) (hfree:∀Q':Bool→Shared→Prop,Q' true s→wpAny (model prog w) A (Builtin.SmallTypes.ownedTupleIsFree (.ref z)) Q' E s) (gI:IsPair s.heap TI (.ref i1) (.ref i2)) (gO:IsPair s.heap TO a b)
  (g1:s.heap.IsTupleIter i1 l1 k) (g2:s.heap.IsTupleIter i2 l2 k) (m1:s.heap.IsTuple l1 xs) (m2:s.heap.IsTuple l2 ys) (ex:xs[k]? =some x) (ey:ys[k]? =some y)
  (q:∀h',IsZip h' z TI TO (rawInt s.heap.objs.size)→IsPair h' TO x y→h'.IsTupleIter i1 l1 (k+1)→h'.IsTupleIter i2 l2 (k+1)→IsPair h' s.heap.objs.size x y→h'.objs.size=s.heap.objs.size+1→
   (∀c o,c≠z→c≠TO→c≠i1→c≠i2→s.heap.get? c=some o→h'.get? c=some o)→Q (.ref s.heap.objs.size) {s with heap:=h'}):
  wpAny (model prog w) A (Builtin.«zip.__next__» ⟨[.ref z],[]⟩) (fun fin s'=>∃v,fin=.done (.ret v)∧Q v s') E s:=by
 show wpAny _ _ (field (.ref z) 2 >>= _) _ _ _;refine wpAny_bind (wpAny_field gz rfl (x:=.bool false) rfl ?_)
 show wpAny _ _ (field (.ref z) 3 >>= _) _ _ _;refine wpAny_bind (wpAny_field gz rfl (x:=.ref TI) rfl ?_);refine wpAny_bind (wpAny_seqItems gI rfl ?_)
 show wpAny _ _ (Builtin.SmallTypes.ownedTupleIsFree (.ref z) >>= _) _ _ _;refine wpAny_bind (hfree _ ?_);simp only[if_true];refine wpAny_bind (wpAny_rule ?_)
 refine wpAny_bind (wpAny_field gz rfl (x:=.ref TO) rfl ?_);refine wpAny_bind (wpAny_setField_rec gz (by simp) fun h1 z1 s1=>?_)
 replace z1:cy h1 z TI TO .ellipsis fl:=z1
 refine wpAny_bind ?_;simp only[List.zipIdx_cons,List.zipIdx_nil,List.forIn_cons,List.forIn_nil];refine wpAny_bind (wpAny_bind (wpAny_onRaise ?_))
 show wpAny _ _ (Builtin.SmallTypes.nextOf (.ref i1) >>= _) _ _ _;refine wpAny_bind (gm (aY g1 s1.extBut D.i1z) (cE m1 s1.extBut D.l1z) ex fun h2 Cb s2=>wpAny_pure ?_)
 have O2:IsPair h2 TO a b:=s2.extBut _ _ D.TOi1 (s1.extBut _ _ D.TOz gO)
 refine wpAny_bind (wpAny_seqItems O2 rfl ?_);refine wpAny_bind (wpAny_updateSeq_pair O2 fun h3 O3 s3=>?_)
 replace O3:IsPair h3 TO x b:=O3
 refine wpAny_bind (wpAny_letGo (wpAny_pure ?_));refine wpAny_bind (wpAny_bind (wpAny_onRaise ?_))
 show wpAny _ _ (Builtin.SmallTypes.nextOf (.ref i2) >>= _) _ _ _;refine wpAny_bind (gm (aY (aY (aY g2 s1.extBut D.i2z) s2.extBut D.i12.symm) s3.extBut D.TOi2.symm) (cE (cE (cE m2 s1.extBut D.l2z) s2.extBut D.l2i1) s3.extBut D.l2TO) ey fun h4 JT s4=>wpAny_pure ?_)
 have O4:IsPair h4 TO x b:=s4.extBut _ _ D.TOi2 O3
 refine wpAny_bind (wpAny_seqItems O4 rfl ?_);refine wpAny_bind (wpAny_updateSeq_pair O4 fun h5 O5 s5=>?_)
 replace O5:IsPair h5 TO x y:=O5
 refine wpAny_bind (wpAny_letGo (wpAny_pure (wpAny_pure ?_)));refine wpAny_bind (wpAny_seqItems O5 rfl ?_);refine wpAny_bind (wpAny_newTuple ?_)
 have sz:h5.objs.size=s.heap.objs.size:=by rw[s5.1,s4.1,s3.1,s2.1,s1.1]
 have z5:cy h5 z TI TO .ellipsis fl:=s5.extBut _ _ D.TOz.symm (s4.extBut _ _ D.i2z.symm (s3.extBut _ _ D.TOz.symm (s2.extBut _ _ D.i1z.symm z1)))
 have k5:∀c o,c≠z→c≠TO→c≠i1→c≠i2→s.heap.get? c=some o→h5.get? c=some o:=fun c o c1 c2 c3 c4 e=>s5.extBut _ _ c2 (s4.extBut _ _ c4 (s3.extBut _ _ c2 (s2.extBut _ _ c3 (s1.extBut _ _ c1 e))))
 have a5:h5.IsTupleIter i1 l1 (k+1):=aY (aY (aY Cb s3.extBut D.TOi1.symm) s4.extBut D.i12) s5.extBut D.TOi1.symm
 have b5:h5.IsTupleIter i2 l2 (k+1):=aY JT s5.extBut D.TOi2.symm
 have Cc:z<h5.objs.size:=Heap.lt_size z5
 show wpAny _ _ (Builtin.SmallTypes.ownedTupleHandOut (.ref z) (.ref h5.objs.size) >>= _) _ _ _
 refine wpAny_bind ?_;unfold Builtin.SmallTypes.ownedTupleHandOut
 have z6:cy (h5.push {cls:=.type "tuple",data:=.seq #[x,y]}) z TI TO .ellipsis fl:=Heap.get?_push_of_some _ z5
 refine wpAny_bind (wpAny_setField_rec z6 (by simp) fun h7 z7 s7=>?_)
 replace z7:cy h7 z TI TO (rawInt h5.objs.size) fl:=z7
 refine wpAny_setField_rec z7 (by simp) fun h8 z8 s8=>?_
 replace z8:IsZip h8 z TI TO (rawInt h5.objs.size):=z8
 have up:∀c o,c≠z→h5.get? c=some o→h8.get? c=some o:=fun c o c1 e=>s8.extBut _ _ c1 (s7.extBut _ _ c1 (Heap.get?_push_of_some _ e))
 have T8:IsPair h8 h5.objs.size x y:=s8.extBut _ _ (Nat.ne_of_gt Cc) (s7.extBut _ _ (Nat.ne_of_gt Cc) (Heap.get?_push_size _ rfl))
 have e8:h8.objs.size=h5.objs.size+1:=by rw[s8.1,s7.1,Heap.size_push]
 rw[sz] at z8 T8 e8
 refine wpAny_pure ⟨_,rfl,?_⟩;show Q (.ref h5.objs.size) _;rw[sz]
 exact q h8 z8 (up _ _ D.TOz O5) (let ⟨o,ho,r⟩:=a5;⟨o,up _ _ D.i1z ho,r⟩) (let ⟨o,ho,r⟩:=b5;⟨o,up _ _ D.i2z ho,r⟩) T8 e8 fun c o c1 c2 c3 c4 e=>up c o c1 (k5 c o c1 c2 c3 c4 e)
theorem qw {z TI TO i1 i2 l1 l2:Addr} {k:Nat} {f0:Value} {fl:Bool} {xs ys:Array Value} {a b:Value} {Q:Fin→Shared→Prop} (hh:A.handled=none) (D:ZipApart z TI TO i1 i2 l1 l2) (gz:cy s.heap z TI TO f0 fl) (hfree:∀Q':Bool→Shared→Prop,Q' true s→wpAny (model prog w) A (Builtin.SmallTypes.ownedTupleIsFree (.ref z)) Q' E s) (gI:IsPair s.heap TI (.ref i1) (.ref i2)) (gO:IsPair s.heap TO a b)
  (g1:s.heap.IsTupleIter i1 l1 k) (g2:s.heap.IsTupleIter i2 l2 k) (m1:s.heap.IsTuple l1 xs) (m2:s.heap.IsTuple l2 ys) (ex:xs[k]? =none)
  (q:∀h' e,(∀c o,c≠z→c≠TO→c≠i1→c≠i2→s.heap.get? c=some o→h'.get? c=some o)→(∃o,h'.get? e=some o∧o.cls=.type "StopIteration")→E (.ref e) {s with heap:=h'}):
  wpAny (model prog w) A (Builtin.«zip.__next__» ⟨[.ref z],[]⟩) Q E s:=by
 show wpAny _ _ (field (.ref z) 2 >>= _) _ _ _;refine wpAny_bind (wpAny_field gz rfl (x:=.bool false) rfl ?_)
 show wpAny _ _ (field (.ref z) 3 >>= _) _ _ _;refine wpAny_bind (wpAny_field gz rfl (x:=.ref TI) rfl ?_);refine wpAny_bind (wpAny_seqItems gI rfl ?_)
 show wpAny _ _ (Builtin.SmallTypes.ownedTupleIsFree (.ref z) >>= _) _ _ _;refine wpAny_bind (hfree _ ?_);simp only[if_true];refine wpAny_bind (wpAny_rule ?_)
 refine wpAny_bind (wpAny_field gz rfl (x:=.ref TO) rfl ?_);refine wpAny_bind (wpAny_setField_rec gz (by simp) fun h1 z1 s1=>?_)
 replace z1:cy h1 z TI TO .ellipsis fl:=z1
 refine wpAny_bind ?_;simp only[List.zipIdx_cons,List.zipIdx_nil,List.forIn_cons,List.forIn_nil];refine wpAny_bind (wpAny_bind (wpAny_onRaise ?_))
 show wpAny _ _ (Builtin.SmallTypes.nextOf (.ref i1) >>= _) _ _ _;refine wpAny_bind (kr hh (aY g1 s1.extBut D.i1z) (cE m1 s1.extBut D.l1z) ex fun h2 e s2 he=>?_)
 obtain⟨oe,hoe,hce⟩:=he
 have z2:cy h2 z TI TO .ellipsis fl:=s2 _ _ D.i1z.symm z1
 have JU:e≠z:=fun x=>by subst x;rw[z2] at hoe;cases hoe;simp at hce
 refine wpAny_setField_rec z2 (by simp) fun h3 _ s3=>q h3 e (fun c o c1 _ c3 _ x=>s3.extBut _ _ c1 (s2 _ _ c3 (s1.extBut _ _ c1 x))) ⟨oe,s3.extBut _ _ JU hoe,hce⟩
theorem wK {z TI TO p:Addr} {fl:Bool} {op:Obj} (gz:cy s.heap z TI TO (rawInt p) fl) (gp:s.heap.get? p=some op):
  wpAny (model prog w) A (Builtin.SmallTypes.ownedTupleIsFree (.ref z)) (fun r s'=>r=false∧∃h0,s'={s with heap:=h0}∧cy h0 z TI TO (rawInt p) true∧Heap.SameBut z s.heap h0) E s:=by
 unfold Builtin.SmallTypes.ownedTupleIsFree
 refine wpAny_bind (wpAny_field gz rfl (x:=rawInt p) rfl ?_)
 show wpAny _ _ (loadIfAlive ((p:Int).toNat) >>= _) _ _ _
 rw[Int.toNat_natCast]
 refine wpAny_bind (PySem.W.kdx_alive gp ?_)
 simp only[Option.isNone_some,Bool.false_eq_true,if_false]
 refine wpAny_bind (wpAny_field gz rfl (x:=.bool fl) rfl ?_)
 cases fl with
 | true=>
  rw[if_neg (show ¬((Value.bool true != Value.bool true)=true) from Bool.false_ne_true)]
  exact wpAny_pure ⟨rfl,s.heap,rfl,gz,Heap.SameBut.refl _ _⟩
 | false=>
  rw[if_pos (show(Value.bool false != Value.bool true)=true from rfl)]
  refine wpAny_bind (wpAny_setField_rec gz (by simp) fun h₃ he₃ hs₃=>?_)
  exact wpAny_pure ⟨rfl,h₃,rfl,he₃,hs₃⟩
theorem wL {z TI TO p:Addr} {fl:Bool} (gz:cy s.heap z TI TO (rawInt p) fl) (gp:s.heap.get? p=none) (Q':Bool→Shared→Prop) (h:Q' true s):wpAny (model prog w) A (Builtin.SmallTypes.ownedTupleIsFree (.ref z)) Q' E s:=by
 unfold Builtin.SmallTypes.ownedTupleIsFree
 refine wpAny_bind (wpAny_field gz rfl (x:=rawInt p) rfl ?_)
 show wpAny _ _ (loadIfAlive ((p:Int).toNat) >>= _) _ _ _
 rw[Int.toNat_natCast]
 refine wpAny_bind ?_
 have al:∀Q:Option Obj→Shared→Prop,Q none s→wpAny (model prog w) A (loadIfAlive p) Q E s:=fun Q h=>by
  have h':Q (s.heap.get? p) s:=by rw[gp];exact h
  exact fun _ _ _=>h'
 refine al _ ?_
 exact wpAny_pure h
theorem wM {z TI TO:Addr} {fl:Bool} (gz:cy s.heap z TI TO .none fl) (Q':Bool→Shared→Prop) (h:Q' true s):wpAny (model prog w) A (Builtin.SmallTypes.ownedTupleIsFree (.ref z)) Q' E s:=by
 unfold Builtin.SmallTypes.ownedTupleIsFree
 refine wpAny_bind (wpAny_field gz rfl (x:=.none) rfl (wpAny_pure h))
theorem Cd {z TI TO i1 i2 l1 l2 p:Addr} {k:Nat} {fl:Bool} {op:Obj} {xs ys:Array Value} {x y a b:Value} {Q:Value→Shared→Prop} (D:ZipApart z TI TO i1 i2 l1 l2) (gz:cy s.heap z TI TO (rawInt p) fl) (gp:s.heap.get? p=some op) (gI:IsPair s.heap TI (.ref i1) (.ref i2)) (gO:IsPair s.heap TO a b)
  (g1:s.heap.IsTupleIter i1 l1 k) (g2:s.heap.IsTupleIter i2 l2 k) (m1:s.heap.IsTuple l1 xs) (m2:s.heap.IsTuple l2 ys) (ex:xs[k]? =some x) (ey:ys[k]? =some y)
  (q:∀h',cy h' z TI TO (rawInt p) true→IsPair h' TO a b→h'.IsTupleIter i1 l1 (k+1)→h'.IsTupleIter i2 l2 (k+1)→IsPair h' s.heap.objs.size x y→h'.objs.size=s.heap.objs.size+1→
   (∀c o,c≠z→c≠TO→c≠i1→c≠i2→s.heap.get? c=some o→h'.get? c=some o)→Q (.ref s.heap.objs.size) {s with heap:=h'}):
  wpAny (model prog w) A (Builtin.«zip.__next__» ⟨[.ref z],[]⟩) (fun fin s'=>∃v,fin=.done (.ret v)∧Q v s') E s:=by
 show wpAny _ _ (field (.ref z) 2 >>= _) _ _ _;refine wpAny_bind (wpAny_field gz rfl (x:=.bool false) rfl ?_)
 show wpAny _ _ (field (.ref z) 3 >>= _) _ _ _;refine wpAny_bind (wpAny_field gz rfl (x:=.ref TI) rfl ?_);refine wpAny_bind (wpAny_seqItems gI rfl ?_)
 show wpAny _ _ (Builtin.SmallTypes.ownedTupleIsFree (.ref z) >>= _) _ _ _
 refine wpAny_bind (wpAny_mono (wK gz gp) (fun r s' h=>?_) fun _ _ h=>h)
 obtain⟨rfl,h0,rfl,z0,sb⟩:=h
 simp only[Bool.false_eq_true,if_false,List.forIn_toArray,List.forIn_cons,List.forIn_nil]
 refine wpAny_bind (wpAny_bind (wpAny_bind (wpAny_holding ?_)))
 show wpAny _ _ (Builtin.SmallTypes.nextOf (.ref i1) >>= _) _ _ _
 refine wpAny_bind (gm (aY g1 sb.extBut D.i1z) (cE m1 sb.extBut D.l1z) ex fun h2 Cb s2=>wpAny_pure (wpAny_pure ?_))
 refine wpAny_bind (wpAny_bind (wpAny_holding ?_))
 show wpAny _ _ (Builtin.SmallTypes.nextOf (.ref i2) >>= _) _ _ _
 refine wpAny_bind (gm (aY (aY g2 sb.extBut D.i2z) s2.extBut D.i12.symm) (cE (cE m2 sb.extBut D.l2z) s2.extBut D.l2i1) ey fun h3 Vq s3=>wpAny_pure (wpAny_pure (wpAny_pure ?_)))
 show wpAny _ _ (newTuple [x,y] >>= _) _ _ _
 refine wpAny_bind (wpAny_newTuple ?_)
 have sz:h3.objs.size=s.heap.objs.size:=by rw[s3.1,s2.1,sb.1]
 refine wpAny_pure ⟨_,rfl,?_⟩
 have up:∀c o,h3.get? c=some o→(h3.push {cls:=.type "tuple",data:=.seq #[x,y]}).get? c=some o:=fun c o e=>Heap.get?_push_of_some _ e
 show Q (.ref h3.objs.size) _
 have T8:IsPair (h3.push {cls:=.type "tuple",data:=.seq #[x,y]}) h3.objs.size x y:=Heap.get?_push_size _ rfl
 have a3:h3.IsTupleIter i1 l1 (k+1):=aY Cb s3.extBut D.i12
 rw[sz] at T8 ⊢
 exact q _ (up _ _ (s3.extBut _ _ D.i2z.symm (s2.extBut _ _ D.i1z.symm z0))) (up _ _ (s3.extBut _ _ D.TOi2 (s2.extBut _ _ D.TOi1 (sb.extBut _ _ D.TOz gO)))) (let ⟨o,ho,r⟩:=a3;⟨o,up _ _ ho,r⟩) (let ⟨o,ho,r⟩:=Vq;⟨o,up _ _ ho,r⟩) T8 (by rw[Heap.size_push,sz]) fun c o c1 c2 c3 c4 e=>up _ _ (s3.extBut _ _ c4 (s2.extBut _ _ c3 (sb.extBut _ _ c1 e)))
theorem Al {z TI TO i1 i2 l1 l2 p:Addr} {k:Nat} {fl:Bool} {op:Obj} {xs ys:Array Value} {a b:Value} {Q:Fin→Shared→Prop} (hh:A.handled=none) (D:ZipApart z TI TO i1 i2 l1 l2) (gz:cy s.heap z TI TO (rawInt p) fl) (gp:s.heap.get? p=some op) (gI:IsPair s.heap TI (.ref i1) (.ref i2))
  (g1:s.heap.IsTupleIter i1 l1 k) (m1:s.heap.IsTuple l1 xs) (ex:xs[k]? =none)
  (q:∀h' e,(∀c o,c≠z→c≠TO→c≠i1→c≠i2→s.heap.get? c=some o→h'.get? c=some o)→(∃o,h'.get? e=some o∧o.cls=.type "StopIteration")→E (.ref e) {s with heap:=h'}):
  wpAny (model prog w) A (Builtin.«zip.__next__» ⟨[.ref z],[]⟩) Q E s:=by
 show wpAny _ _ (field (.ref z) 2 >>= _) _ _ _;refine wpAny_bind (wpAny_field gz rfl (x:=.bool false) rfl ?_)
 show wpAny _ _ (field (.ref z) 3 >>= _) _ _ _;refine wpAny_bind (wpAny_field gz rfl (x:=.ref TI) rfl ?_);refine wpAny_bind (wpAny_seqItems gI rfl ?_)
 show wpAny _ _ (Builtin.SmallTypes.ownedTupleIsFree (.ref z) >>= _) _ _ _
 refine wpAny_bind (wpAny_mono (wK gz gp) (fun r s' h=>?_) fun _ _ h=>h)
 obtain⟨rfl,h0,rfl,z0,sb⟩:=h
 simp only[Bool.false_eq_true,if_false,List.forIn_toArray,List.forIn_cons,List.forIn_nil]
 refine wpAny_bind (wpAny_bind (wpAny_bind (wpAny_holding ?_)))
 show wpAny _ _ (Builtin.SmallTypes.nextOf (.ref i1) >>= _) _ _ _
 exact wpAny_bind (kr hh (aY g1 sb.extBut D.i1z) (cE m1 sb.extBut D.l1z) ex fun h2 e s2 he=>q h2 e (fun c o c1 _ c3 _ x=>s2 _ _ c3 (sb.extBut _ _ c1 x)) he)
theorem Ce {z TI TO i1 i2 l1 l2:Addr} {k:Nat} {f0:Value} {fl:Bool} {xs ys:Array Value} {x y a b:Value} {Q:Option Value→Shared→Prop} (D:ZipApart z TI TO i1 i2 l1 l2) (gz:cy s.heap z TI TO f0 fl) (hf:f0=.none∨∃p:Nat,f0=rawInt p) (gI:IsPair s.heap TI (.ref i1) (.ref i2)) (gO:IsPair s.heap TO a b)
  (g1:s.heap.IsTupleIter i1 l1 k) (g2:s.heap.IsTupleIter i2 l2 k) (m1:s.heap.IsTuple l1 xs) (m2:s.heap.IsTuple l2 ys) (ex:xs[k]? =some x) (ey:ys[k]? =some y)
  (q:∀h' f0' JV a' b',cy h' z TI TO f0' JV→(∃p:Nat,f0'=rawInt p)→(f0=.none→f0'=rawInt s.heap.objs.size∧JV=false)→IsPair h' TO a' b'→h'.IsTupleIter i1 l1 (k+1)→h'.IsTupleIter i2 l2 (k+1)→IsPair h' s.heap.objs.size x y→h'.objs.size=s.heap.objs.size+1→
   (∀c o,c≠z→c≠TO→c≠i1→c≠i2→s.heap.get? c=some o→h'.get? c=some o)→Q (some (.ref s.heap.objs.size)) {s with heap:=h'}):wpAny (model prog w) A (pyNext (.ref z)) Q E s:=by
 have ty:s.TypeIs (.ref z) "zip":=⟨_,gz,rfl⟩
 unfold pyNext
 refine wpAny_bind (wpAny_attempt (wpAny_callSpecial?_slot (name:=Str.ofString "__next__") ty PySem.F.slot_zip_next (wpAny_call_entry PySem.F.slot_zip_next ty PySem.F.entry_zip_next ?_ (PySem.F.args_zip_next_1 _))))
 rcases hf with rfl | ⟨p,rfl⟩
 ·exact ug D gz (wM gz) gI gO g1 g2 m1 m2 ex ey fun h' a1 a2 a3 a4 a5 a6 a7=>wpAny_pure (q h' _ _ _ _ a1 ⟨_,rfl⟩ (fun _=>⟨rfl,rfl⟩) a2 a3 a4 a5 a6 a7)
 ·cases gp:s.heap.get? p with
  | none=>exact ug D gz (wL gz gp) gI gO g1 g2 m1 m2 ex ey fun h' a1 a2 a3 a4 a5 a6 a7=>wpAny_pure (q h' _ _ _ _ a1 ⟨_,rfl⟩ (fun z=>nomatch z) a2 a3 a4 a5 a6 a7)
  | some op=>exact Cd D gz gp gI gO g1 g2 m1 m2 ex ey fun h' a1 a2 a3 a4 a5 a6 a7=>wpAny_pure (q h' _ _ _ _ a1 ⟨_,rfl⟩ (fun z=>nomatch z) a2 a3 a4 a5 a6 a7)
theorem Am {z TI TO i1 i2 l1 l2:Addr} {k:Nat} {f0:Value} {fl:Bool} {xs ys:Array Value} {a b:Value} {Q:Option Value→Shared→Prop} (hh:A.handled=none) (D:ZipApart z TI TO i1 i2 l1 l2) (gz:cy s.heap z TI TO f0 fl) (hf:f0=.none∨∃p:Nat,f0=rawInt p) (gI:IsPair s.heap TI (.ref i1) (.ref i2)) (gO:IsPair s.heap TO a b)
  (g1:s.heap.IsTupleIter i1 l1 k) (g2:s.heap.IsTupleIter i2 l2 k) (m1:s.heap.IsTuple l1 xs) (m2:s.heap.IsTuple l2 ys) (ex:xs[k]? =none)
  (q:∀h',(∀c o,c≠z→c≠TO→c≠i1→c≠i2→s.heap.get? c=some o→h'.get? c=some o)→Q none {s with heap:=h'}):wpAny (model prog w) A (pyNext (.ref z)) Q E s:=by
 have ty:s.TypeIs (.ref z) "zip":=⟨_,gz,rfl⟩
 unfold pyNext
 refine wpAny_bind (wpAny_attempt (wpAny_callSpecial?_slot (name:=Str.ofString "__next__") ty PySem.F.slot_zip_next (wpAny_call_entry PySem.F.slot_zip_next ty PySem.F.entry_zip_next ?_ (PySem.F.args_zip_next_1 _))))
 rcases hf with rfl | ⟨p,rfl⟩
 ·exact qw hh D gz (wM gz) gI gO g1 g2 m1 m2 ex fun h' e hk he=>(by
   obtain⟨o,ho,hc⟩:=he
   exact wpAny_bind (wpAny_isInstance (T:="StopIteration") (b:=true) ⟨o,ho,hc⟩ isSubtype_stop (wpAny_pure (q _ hk))))
 ·cases gp:s.heap.get? p with
  | none=>exact qw hh D gz (wL gz gp) gI gO g1 g2 m1 m2 ex fun h' e hk he=>(by
    obtain⟨o,ho,hc⟩:=he
    exact wpAny_bind (wpAny_isInstance (T:="StopIteration") (b:=true) ⟨o,ho,hc⟩ isSubtype_stop (wpAny_pure (q _ hk))))
  | some op=>exact Al (ys:=ys) (a:=a) (b:=b) hh D gz gp gI g1 m1 ex fun h' e hk he=>(by
    obtain⟨o,ho,hc⟩:=he
    exact wpAny_bind (wpAny_isInstance (T:="StopIteration") (b:=true) ⟨o,ho,hc⟩ isSubtype_stop (wpAny_pure (q _ hk))))
abbrev Cf (h:Heap) (l1 l2:Addr):Heap:=(h.push (nR l1)).push (nR l2)
abbrev Gk (h:Heap) (l1 l2:Addr):Heap:=(Cf h l1 l2).push {cls:=.type "tuple",data:=.seq #[.ref h.objs.size,.ref (h.push (nR l1)).objs.size]}
abbrev Cg (h:Heap) (l1 l2:Addr):Heap:=(Gk h l1 l2).push {cls:=.type "tuple",data:=.seq #[.none,.none]}
abbrev uh (h:Heap) (l1 l2:Addr):Heap:=(Cg h l1 l2).push {cls:=.type "zip",data:=.fields #[.none,.bool false,.bool false,.ref (Cf h l1 l2).objs.size,.ref (Gk h l1 l2).objs.size]}
theorem An (l1 l2:Addr) (xs ys:Array Value):Meets (Builtin.«zip.__new__» ⟨[.type "zip",.ref l1,.ref l2],[]⟩) (fun _ R s=>s.heap.IsTuple l1 xs∧s.heap.IsTuple l2 ys∧R (.ok (.ret (.ref (Cg s.heap l1 l2).objs.size))) {s with heap:=uh s.heap l1 l2}):=
 .of_wp fun prog w A R s h=>by
  obtain⟨hp,g,d,tk,os⟩:=s;obtain⟨m1,m2,h⟩:=h
  have hsub:=PySem.sub_zip
  have L1:Heap.IsTuple (Shared.heap ⟨hp,g,d,tk,os⟩) l1 xs:=m1
  have L2:Heap.IsTuple (Shared.heap ⟨hp.push (nR l1),g,d,tk,os⟩) l2 ys:=let ⟨o,ho,r⟩:=m2;⟨o,Heap.get?_push_of_some _ ho,r⟩
  wp_walk using wpAny_pyIter_tuple L1,wpAny_pyIter_tuple L2
  exact⟨_,rfl,h⟩
theorem Ci {l1 l2:Addr} {xs ys:Array Value} {Q:Value→Shared→Prop} (m1:s.heap.IsTuple l1 xs) (m2:s.heap.IsTuple l2 ys)
  (q:∀h',IsZip h' (s.heap.objs.size+4) (s.heap.objs.size+2) (s.heap.objs.size+3) .none→IsPair h' (s.heap.objs.size+2) (.ref s.heap.objs.size) (.ref (s.heap.objs.size+1))→
   IsPair h' (s.heap.objs.size+3) .none .none→h'.IsTupleIter s.heap.objs.size l1 0→h'.IsTupleIter (s.heap.objs.size+1) l2 0→
   (∀c o,s.heap.get? c=some o→h'.get? c=some o)→Q (.ref (s.heap.objs.size+4)) {s with heap:=h'}):wpAny (model prog w) A (call (.type "zip") [.ref l1,.ref l2]) Q E s:=by
 refine callType_new PySem.F.called_zip (by decide) (PySem.F.typeCall_zip_2 _ _) (PySem.F.newCall_zip_2 _ _) (fun obj=>PySem.F.args_object_init_3 obj _ _) PySem.F.entry_zip_new (An l1 l2 xs ys) ⟨m1,m2,?_⟩
 have e1:(s.heap.push (nR l1)).objs.size=s.heap.objs.size+1:=Heap.size_push ..
 have e2:(Cf s.heap l1 l2).objs.size=s.heap.objs.size+2:=by rw[Heap.size_push,e1]
 have e3:(Gk s.heap l1 l2).objs.size=s.heap.objs.size+3:=by rw[Heap.size_push,e2]
 have e4:(Cg s.heap l1 l2).objs.size=s.heap.objs.size+4:=by rw[Heap.size_push,e3]
 have p5:(uh s.heap l1 l2).get? (Cg s.heap l1 l2).objs.size=some _:=Heap.get?_push_size _ rfl
 have up:∀{c:Addr} {o:Obj},(Cg s.heap l1 l2).get? c=some o→(uh s.heap l1 l2).get? c=some o:=fun x=>Heap.get?_push_of_some _ x
 have p4:(uh s.heap l1 l2).get? (Gk s.heap l1 l2).objs.size=some _:=up (Heap.get?_push_size _ rfl)
 have p3:(uh s.heap l1 l2).get? (Cf s.heap l1 l2).objs.size=some _:=up (Heap.get?_push_of_some _ (Heap.get?_push_size _ rfl))
 have wN:∀{c:Addr} {o:Obj},(Cf s.heap l1 l2).get? c=some o→(uh s.heap l1 l2).get? c=some o:=fun x=>up (Heap.get?_push_of_some _ (Heap.get?_push_of_some _ x))
 have p2:(uh s.heap l1 l2).get? (s.heap.push (nR l1)).objs.size=some _:=wN (Heap.get?_push_size _ rfl)
 have p1:(uh s.heap l1 l2).get? s.heap.objs.size=some _:=wN (Heap.get?_push_of_some _ (Heap.get?_push_size _ rfl))
 show _∧_
 rw[e2,e3,e4] at p5
 rw[e1,e2] at p3
 rw[e3] at p4
 rw[e1] at p2
 rw[e4]
 exact⟨⟨_,p5,rfl⟩,q _ p5 p3 p4 ⟨_,p1,rfl,rfl⟩ ⟨_,p2,rfl,rfl⟩ fun c o x=>wN (Heap.get?_push_of_some _ (Heap.get?_push_of_some _ x))⟩
end
def wO (K:PySem.W.Frag) (a b:Addr):It:=
 ⟨fun i H=>∃xs ys x y,aW K H a xs∧aW K H b ys∧xs[i]? =some x∧ys[i]? =some y,
  fun i H v H'=>∃x y p,(∀xs,aW K H a xs→xs[i]? =some x)∧(∀ys,aW K H b ys→ys[i]? =some y)∧H p=none∧v=.ref p∧H'=upd H p (.tup [x,y]),
  fun i H=>∃xs ys,aW K H a xs∧aW K H b ys∧xs.length≤i⟩
theorem Cj {P:Program} {w:World} {K:PySem.W.Frag} {elts:List Expr} {x1} {tpos:Pos} (a b z TI TO i1 i2:Addr) (D:ZipApart z TI TO i1 i2 a b):
  Turn P w K (.Tuple elts x1 tpos) (wO K a b) [z,TO,i1,i2,TI] z (fun i h=>IsZip h z TI TO .none∧IsPair h TI (.ref i1) (.ref i2)∧(∃x y,IsPair h TO x y)∧h.IsTupleIter i1 a i∧h.IsTupleIter i2 b i) where
 mem:=by simp
 obj:=fun i h st c hc=>by
  obtain⟨hz,hTI,⟨x,y,hTO⟩,h1,h2⟩:=st
  have hc':c=z∨c=TO∨c=i1∨c=i2∨c=TI:=by simpa using hc
  rcases hc' with q | q | q | q | q
  ·subst q;exact⟨_,hz,fun v e=>nomatch e⟩
  ·subst q;exact⟨_,hTO,fun v e=>nomatch e⟩
  ·subst q
   obtain⟨o,e,_,d⟩:=h1
   exact⟨o,e,fun v q=>by rw[d] at q;cases q⟩
  ·subst q
   obtain⟨o,e,_,d⟩:=h2
   exact⟨o,e,fun v q=>by rw[d] at q;cases q⟩
  ·subst q;exact⟨_,hTI,fun v e=>nomatch e⟩
 keep:=fun i h h' st k=>by
  obtain⟨hz,hTI,⟨x,y,hTO⟩,h1,h2⟩:=st
  exact⟨k z (by simp) _ hz,k TI (by simp) _ hTI,⟨x,y,k TO (by simp) _ hTO⟩,let ⟨o,ho,r⟩:=h1;⟨o,k i1 (by simp) o ho,r⟩,let ⟨o,ho,r⟩:=h2;⟨o,k i2 (by simp) o ho,r⟩⟩
 item:=by
  intro X hP hw hK hc i pins s σ H E I hf st hg
  subst hP hw hK
  obtain⟨hz,hTI,⟨u1,u2,hTO⟩,h1,h2⟩:=st
  obtain⟨xs,ys,x,y,hq,hq2,hx,hy⟩:=hg
  obtain⟨its,rv,p,_⟩:=I.tuple hq
  obtain⟨its2,jo,p2,_⟩:=I.tuple hq2
  obtain⟨u,hu,ru⟩:=rv.get hx
  obtain⟨v,hv,rv'⟩:=jo.get hy
  refine Ce D hz (.inl rfl) hTI hTO h1 h2 (show s.heap.IsTuple a its.toArray from p) (show s.heap.IsTuple b its2.toArray from p2) (x:=u) (y:=v) (by simpa using hu) (by simpa using hv) fun h1' f0' JV a' b' a1 _ aw a2 a3 a4 a5 a6 kk=>?_
  obtain⟨rfl,rfl⟩:=aw rfl
  have nn:H s.heap.objs.size=none:=I.hok.fresh (Nat.le_refl _)
  have nP:∀c∈[z,TO,i1,i2],fi X pins H c:=fun c hc=>hf c (by
   have hc':c=z∨c=TO∨c=i1∨c=i2:=by simpa using hc
   rcases hc' with q | q | q | q<;>simp[q])
  have I1:Inv X pins σ (upd H s.heap.objs.size (.tup [x,y])) {s with heap:=h1',toks:=s.toks}:=
   I.lX (ch:=[z,TO,i1,i2]) nP (fun c o hc q=>kk c o (fun e=>hc (by simp[e])) (fun e=>hc (by simp[e])) (fun e=>hc (by simp[e])) (fun e=>hc (by simp[e])) q) (Nat.le_refl _)
    ⟨⟨by show 2≤sizeLine;decide,_,a5,rfl⟩,[u,v],.cons ru (.cons rv' .nil),⟨_,a5,rfl,_,rfl⟩⟩
  have lz:z<s.heap.objs.size:=Heap.lt_size hz
  have BR:TI<s.heap.objs.size:=Heap.lt_size hTI
  have BS:TO<s.heap.objs.size:=Heap.lt_size hTO
  have l1:i1<s.heap.objs.size:=by obtain⟨o,q,_⟩:=id h1;exact Heap.lt_size q
  have l2:i2<s.heap.objs.size:=by obtain⟨o,q,_⟩:=id h2;exact Heap.lt_size q
  refine⟨_,rfl,wpAny_letOwnedTupleGo_zip a1 fun h2' e2 sb=>?_⟩
  obtain⟨f0,f1,f2,f3,f4,f5⟩:=hf z (by simp)
  have I2:=I1.turned (h':=h2') (t':=s.toks) (it:=z) (fun c o hc q=>(sb.2 c hc).trans q) (by rw[au (Nat.ne_of_lt lz)];exact f0) f1 f3 f4 f5
  refine⟨.ref s.heap.objs.size,_,I2,rfl,⟨x,y,s.heap.objs.size,fun zs hy=>by rw[I.iU hy hq];exact hx,fun zs hz'=>by rw[I.iU hz' hq2];exact hy,nn,rfl,rfl⟩,
   ⟨e2,(sb.2 TI D.TIz).trans (kk _ _ D.TIz D.TITO D.TIi1 D.TIi2 hTI),⟨_,_,(sb.2 TO D.TOz).trans a2⟩,let ⟨o,ho,r⟩:=a3;⟨o,(sb.2 i1 D.i1z).trans ho,r⟩,let ⟨o,ho,r⟩:=a4;⟨o,(sb.2 i2 D.i2z).trans ho,r⟩⟩,fun c hc=>?_⟩
  have hlt:c<s.heap.objs.size:=by
   have hc':c=z∨c=TO∨c=i1∨c=i2∨c=TI:=by simpa using hc
   rcases hc' with q | q | q | q | q
   ·rw[q];exact lz
   ·rw[q];exact BS
   ·rw[q];exact l1
   ·rw[q];exact l2
   ·rw[q];exact BR
  rw[au (Nat.ne_of_lt hlt)]
  exact(hf c hc).1
 done:=by
  intro X hP hw hK hc i pins s σ H E I hf st hg
  subst hP hw hK
  obtain⟨hz,hTI,⟨u1,u2,hTO⟩,h1,h2⟩:=st
  obtain⟨xs,ys,hq,hq2,hx⟩:=hg
  obtain⟨its,rv,p,_⟩:=I.tuple hq
  obtain⟨its2,jo,p2,_⟩:=I.tuple hq2
  have hl:=rv.length
  have nP:∀c∈[z,TO,i1,i2],fi X pins H c:=fun c hc=>hf c (by
   have hc':c=z∨c=TO∨c=i1∨c=i2:=by simpa using hc
   rcases hc' with q | q | q | q<;>simp[q])
  exact Am (I.ok.hd hc) D hz (.inl rfl) hTI hTO h1 h2 (show s.heap.IsTuple a its.toArray from p) (show s.heap.IsTuple b its2.toArray from p2) (by simp;omega) fun h' kk=>
   ⟨rfl,I.rL (t':=s.toks) (ch:=[z,TO,i1,i2]) nP (fun c o hc q=>kk c o (fun e=>hc (by simp[e])) (fun e=>hc (by simp[e])) (fun e=>hc (by simp[e])) (fun e=>hc (by simp[e])) q)⟩
 self:=fun _ _ _ _ _ st h=>wpAny_pyIter_zip st.1 h
def Nv (K:PySem.W.Frag) (ta:TA):TI:=fun σ H R=>ta σ H fun vs H1=>∃a b,vs=[.ref a,.ref b]∧(∃xs,aW K H1 a xs)∧(∃ys,aW K H1 b ys)∧R (wO K a b) H1
theorem HR {X:Cx} {elts:List Expr} {x1} {tpos:Pos} {a b:Expr} {ta:TA} {p pos:Pos} (hg:Gl X "zip") (hm:X.mg "zip"=none) (ha:PA X [a,b] ta)
  (hs:starEach [a,b] X.env=[(false,eval a X.env),(false,eval b X.env)]:=by rfl) (hs2:starEach [b] X.env=[(false,eval b X.env)]:=by rfl):
  PI X (.Tuple elts x1 tpos) (.Call (.Name "zip" p) [a,b] [] pos) (Nv X.K ta):=by
 intro pins s σ H R I h
 refine Call_ (gi I hg hm boot_zip (PyProof.Rows.callWith_type1 (aE (ha pos pins s σ H _ I h) fun us s1 ⟨vs,H1,I1,r1,q1⟩=>?_) (by rw[hs,hs2]) (by rw[hs2];rfl)))
 obtain⟨l1,l2,e,⟨xs,hq⟩,⟨ys,hq2⟩,q⟩:=q1
 subst e
 cases r1 with
 | cons r rr=>
  cases rr with
  | cons r' rr=>
   cases rr
   cases r
   cases r'
   obtain⟨its,rv,pl,_⟩:=I1.tuple hq
   obtain⟨its2,jo,tZ,_⟩:=I1.tuple hq2
   have a1:l1<s1.heap.objs.size:=by obtain⟨_,e,_⟩:=(show s1.heap.IsTuple l1 its.toArray from pl);exact Heap.lt_size e
   have a2:l2<s1.heap.objs.size:=by obtain⟨_,e,_⟩:=(show s1.heap.IsTuple l2 its2.toArray from tZ);exact Heap.lt_size e
   refine Ci (show s1.heap.IsTuple l1 its.toArray from pl) (show s1.heap.IsTuple l2 its2.toArray from tZ) fun h' hz hTI hTO hi1 hi2 kk=>?_
   have I2:Inv X pins σ H1 {s1 with heap:=h'}:=I1.kept (t':=s1.toks) kk
   refine wpAny_pyIter_zip hz ?_
   refine⟨s1.heap.objs.size+4,[s1.heap.objs.size+4,s1.heap.objs.size+3,s1.heap.objs.size,s1.heap.objs.size+1,s1.heap.objs.size+2],_,_,H1,rfl,I2,Cj l1 l2 _ _ _ _ _ (zipApart_new a1 a2),⟨hz,hTI,⟨_,_,hTO⟩,hi1,hi2⟩,fun c hc=>?_,q⟩
   have hle:s1.heap.objs.size≤c:=by
    have hc':c=s1.heap.objs.size+4∨c=s1.heap.objs.size+3∨c=s1.heap.objs.size∨c=s1.heap.objs.size+1∨c=s1.heap.objs.size+2:=by simpa using hc
    rcases hc' with q | q | q | q | q<;>(rw[q];first | exact Nat.le_add_right _ _ | exact Nat.le_refl _)
   exact I1.jc hle (I1.hok.fresh hle)
theorem EO {K:PySem.W.Frag} {a b:Addr} {xs ys:List V} {g:TG} {tb:TS} {D:Ends} {σ:St} {H:Hp} (Pv:Nat→St→Hp→Prop) (hlen:xs.length=ys.length) (h0:Pv 0 σ H) (hl:∀i σ H,i≤xs.length→Pv i σ H→aW K H a xs∧aW K H b ys)
  (hs:∀i x y p σ H,xs[i]? =some x→ys[i]? =some y→Pv i σ H→H p=none→g (.ref p) σ (upd H p (.tup [x,y])) fun σ2 H2=>tb {D with nx:=Pv (i+1),ct:=Pv (i+1),bk:=D.nx} σ2 H2) (hd:∀σ H,Pv xs.length σ H→D.nx σ H):
  ∃W:Nat→Nat→St→Hp→Prop,(∃m,W 0 m σ H)∧∀i m σ H,W i m σ H→
   ((wO K a b).stop i H∧D.nx σ H)∨((wO K a b).go i H∧∃N:St→Hp→Prop,(∀σ' H',N σ' H'→∃m',m'<m∧W (i+1) m' σ' H')∧∀x H',(wO K a b).nF i H x H'→g x σ H' fun σ2 H2=>tb {D with nx:=N,ct:=N,bk:=D.nx} σ2 H2):=by
 refine⟨fun i m σ H=>m=xs.length-i∧i≤xs.length∧Pv i σ H,⟨xs.length,by simp,Nat.zero_le _,h0⟩,?_⟩
 rintro i m σ H ⟨rfl,hi,p⟩
 obtain⟨q,q'⟩:=hl i σ H hi p
 by_cases hlt:i<xs.length
 ·refine .inr ⟨⟨xs,ys,xs[i],ys[i],q,q',by simp[hlt],by simp⟩,Pv (i+1),fun σ' H' p'=>⟨xs.length-(i+1),by omega,rfl,hlt,p'⟩,fun v H' y=>?_⟩
  obtain⟨x,y,pa,hx,hy,hn,e1,e2⟩:=y
  subst e1 e2
  exact hs i x y pa σ H (hx xs q) (hy ys q') p hn
 ·have e:i=xs.length:=by omega
  subst e
  exact .inl ⟨⟨xs,ys,q,q',Nat.le_refl _⟩,hd σ H p⟩
theorem bu {t u:TS} {D:Ends} {σ:St} {H:Hp} (h:∀R:St→Hp→Prop,R=u D→t {D with nx:=R} σ H):nB t u D σ H:=h _ rfl
theorem ui {t u:TS} {D:Ends} {σ:St} {H:Hp} (Pv:St→Hp→Prop) (h1:∀σ H,Pv σ H→u D σ H) (h2:∀R:St→Hp→Prop,(∀σ H,Pv σ H→R σ H)→t {D with nx:=R} σ H):nB t u D σ H:=h2 _ h1
def vJ (J:It) (g:TG) (tb:TS) (D:Ends) (σ:St) (H:Hp):Prop:=∃W:Nat→Nat→St→Hp→Prop,(∃m,W 0 m σ H)∧∀i m σ H,W i m σ H→
 (J.stop i H∧D.nx σ H)∨(J.go i H∧∃N:St→Hp→Prop,(∀σ' H',N σ' H'→∃m',m'<m∧W (i+1) m' σ' H')∧∀x H',J.nF i H x H'→g x σ H' fun σ2 H2=>tb {D with nx:=N,ct:=N,bk:=D.nx} σ2 H2)
theorem Ck {K:PySem.W.Frag} {a:Addr} {xs:List V} {g:TG} {tb:TS} {D:Ends} {σ:St} {H:Hp} (Pv:Nat→St→Hp→Prop) (h0:Pv 0 σ H) (hl:∀i σ H,i≤xs.length→Pv i σ H→a_ K H a xs)
  (hs:∀i x σ H (N:St→Hp→Prop),(∀σ H,Pv (i+1) σ H→N σ H)→xs[i]? =some x→Pv i σ H→g x σ H fun σ2 H2=>tb {D with nx:=N,ct:=N,bk:=D.nx} σ2 H2) (hd:∀σ H,Pv xs.length σ H→D.nx σ H):vJ (vT K a) g tb D σ H:=
 ig Pv h0 hl (fun i x σ H e p=>hs i x σ H _ (fun _ _ z=>z) e p) hd
theorem ER {K:PySem.W.Frag} {a:Addr} {xs:List V} {g:TG} {tb:TS} {D:Ends} {σ:St} {H:Hp} (Pv:Nat→St→Hp→Prop) (h0:Pv 0 σ H) (hl:∀i σ H,i≤xs.length→Pv i σ H→aW K H a xs)
  (hs:∀i x σ H (N:St→Hp→Prop),(∀σ H,Pv (i+1) σ H→N σ H)→xs[i]? =some x→Pv i σ H→g x σ H fun σ2 H2=>tb {D with nx:=N,ct:=N,bk:=D.nx} σ2 H2) (hd:∀σ H,Pv xs.length σ H→D.nx σ H):vJ (vU K a) g tb D σ H:=
 yN Pv h0 hl (fun i x σ H e p=>hs i x σ H _ (fun _ _ z=>z) e p) hd
theorem qx {lo:Int} {n:Nat} {g:TG} {tb:TS} {D:Ends} {σ:St} {H:Hp} (Pv:Nat→St→Hp→Prop) (h0:Pv 0 σ H)
  (hs:∀i σ H (N:St→Hp→Prop),(∀σ H,Pv (i+1) σ H→N σ H)→i<n→Pv i σ H→g (.int (lo+i)) σ H fun σ2 H2=>tb {D with nx:=N,ct:=N,bk:=D.nx} σ2 H2) (hd:∀σ H,Pv n σ H→D.nx σ H):vJ (tJ lo n) g tb D σ H:=
 iV (lo:=lo) Pv h0 (fun i σ H e p=>hs i σ H _ (fun _ _ z=>z) e p) hd
theorem Cm {d:Addr} {ob:Obj} {kvs:List (Key×V)} {g:TG} {tb:TS} {D:Ends} {σ:St} {H:Hp} (Pv:Nat→St→Hp→Prop) (h0:Pv 0 σ H) (hl:∀i σ H,i≤kvs.length→Pv i σ H→H d=some (.c_ ob (.dK kvs)))
  (hs:∀i k v σ H (N:St→Hp→Prop),(∀σ H,Pv (i+1) σ H→N σ H)→kvs[i]? =some (k,v)→Pv i σ H→g (kV k) σ H fun σ2 H2=>tb {D with nx:=N,ct:=N,bk:=D.nx} σ2 H2) (hd:∀σ H,Pv kvs.length σ H→D.nx σ H):vJ (y9 d ob kvs) g tb D σ H:=
 Ey Pv h0 hl (fun i k v σ H e p=>hs i k v σ H _ (fun _ _ z=>z) e p) hd
theorem HS {c:TT} {tb:TS} {D:Ends} {σ:St} {H:Hp} (W:Nat→St→Hp→Prop) (h0:∃m,W m σ H)
  (hs:∀m σ H (N:St→Hp→Prop),(∀σ' H' m',m'<m→W m' σ' H'→N σ' H')→W m σ H→c σ H fun b H1=>if b=true then tb {D with nx:=N,ct:=N,bk:=D.nx} σ H1 else D.nx σ H1)
  (mono:∀σ H Q Q',(∀b H1,Q b H1→Q' b H1)→c σ H Q→c σ H Q'):nE c tb D σ H:=JS W h0 (fun m σ H w=>hs m σ H _ (fun _ _ m' h w'=>⟨m',h,w'⟩) w) mono
theorem ES {K:PySem.W.Frag} {a b:Addr} {xs ys:List V} {g:TG} {tt:TT} {te:TE} {D:Addr} {σ:St} {H:Hp} {R:Hp→Prop} (Pv:Nat→St→Hp→Prop) (hlen:xs.length=ys.length) (h0:Pv 0 σ H) (hl:∀i σ H,i≤xs.length→Pv i σ H→a_ K H a xs∧a_ K H b ys)
  (hs:∀i x y p σ H,xs[i]? =some x→ys[i]? =some y→Pv i σ H→H p=none→g (.ref p) σ (upd H p (.tup [x,y])) fun σ2 H2=>tt σ2 H2 fun b H3=>if b=true then te σ2 H3 fun y H4=>∃ys,H4 D=some (.lst ys)∧ys.length<sizeLine∧Pv (i+1) σ2 (upd H4 D (.lst (ys++[y]))) else Pv (i+1) σ2 H3)
  (hd:∀σ H,Pv xs.length σ H→R H):md (Jw K a b) g tt te D σ H R:=by
 refine⟨fun i m σ H=>m=xs.length-i∧i≤xs.length∧Pv i σ H,⟨xs.length,by simp,Nat.zero_le _,h0⟩,?_⟩
 rintro i m σ H ⟨rfl,hi,p⟩
 obtain⟨q1,q2⟩:=hl i σ H hi p
 by_cases hlt:i<xs.length
 ·refine .inr ⟨⟨xs,ys,xs[i],ys[i]'(by omega),q1,q2,by simp[hlt],by simp[hlen▸hlt]⟩,Pv (i+1),fun σ' H' p'=>⟨xs.length-(i+1),by omega,rfl,hlt,p'⟩,fun v H' y=>?_⟩
  obtain⟨x,y,p',e1,e2,e3,rfl,rfl⟩:=y
  exact hs i x y p' σ H (e1 xs q1) (e2 ys q2) p e3
 ·have e:i=xs.length:=by omega
  subst e
  exact .inl ⟨⟨xs,ys,q1,q2,.inl (Nat.le_refl _)⟩,hd σ H p⟩
def wQ (P:Program) (w:World) (H:Hp) (a:Addr) (y:V) (o:Option V):Prop:=∀(X:Cx) (pins:List (Addr×Obj)) (σ:St) (s:Shared) (u:Value),X.prog=P→X.w=w→Inv X pins σ H s→RelV y u→s.TypeIs (.ref a) "dict"∧
 ∀(A:Around) (E:Value→Shared→Prop),A.units+1<cLine→
  (∀(v:V) (Q:Value→Shared→Prop),o=some v→(∀w' s',Inv X pins σ H s'→RelV v w'→Q w' s')→wpAny (model X.prog X.w) A (getItem (.ref a) u) Q E s)∧
  (∀Q:Value→Shared→Prop,(∀s',Inv X pins σ H s'→Q (.bool o.isSome) s')→wpAny (model X.prog X.w) A (compareOp .In u (.ref a)) Q E s)∧
  ∀Q:Value→Shared→Prop,(∀s',Inv X pins σ H s'→Q (.bool (!o.isSome)) s')→wpAny (model X.prog X.w) A (compareOp .NotIn u (.ref a)) Q E s
def ET (P:Program) (w:World) (H:Hp) (a:Addr) (y v:V) (H':Hp):Prop:=∀(X:Cx) (pins:List (Addr×Obj)) (σ:St) (s:Shared) (u r:Value),X.prog=P→X.w=w→Inv X pins σ H s→RelV y u→RelV v r→
 ∀(A:Around) (E:Value→Shared→Prop) (Q:Unit→Shared→Prop),A.units+1<cLine→(∀s',Inv X pins σ H' s'→Q () s')→wpAny (model X.prog X.w) A (setItem (.ref a) u r) Q E s
def Nw (P:Program) (w:World) (td ty:TE):TE:=fun σ H Q=>td σ H fun x H1=>ty σ H1 fun y H2=>∃a v,x=.ref a∧wQ P w H2 a y (some v)∧Q v H2
def HU (P:Program) (w:World) (ty td:TE):TE:=fun σ H Q=>ty σ H fun y H1=>td σ H1 fun x H2=>∃a o,x=.ref a∧wQ P w H2 a y o∧Q (.bl (!o.isSome)) H2
def Nx (P:Program) (w:World) (td ty tv:TE):TS:=fun D σ H=>tv σ H fun v H1=>td σ H1 fun x H2=>ty σ H2 fun y H3=>∃a H4,x=.ref a∧ET P w H3 a y v H4∧D.nx σ H4
section
variable {X:Cx} {P:Program} {w:World} {o i e value:Expr} {pos pos' tpos:Pos} {td ty tv:TE}
theorem HV (hu:X.A.units+1<cLine) (ho:PE X o td) (hi:PE X i ty) (hs:Ek i) (hP:X.prog=P:=by rfl) (hw:X.w=w:=by rfl):PE X (.Subscript o i pos) (Nw P w td ty):=by
 intro pins s σ H Q I h
 refine yV PySem.F.slot_dict_getitem.lookup hs (aE (ho pins s σ H _ I h) fun u s1 ⟨x,H1,I1,rx,q1⟩=>aE (hi pins s1 σ H1 _ I1 q1) fun iv s2 ⟨y,H2,I2,ry,a,v,ex,g,q2⟩=>?_)
 subst ex
 obtain rfl:u=Value.ref a:=rx
 obtain⟨t1,g1⟩:=g X pins σ s2 iv hP hw I2 ry
 exact⟨t1,(g1 _ _ hu).1 v _ rfl fun w' s3 I3 jH=>⟨v,H2,I3,jH,q2⟩⟩
theorem Cn (hu:X.A.units+1<cLine) (hi:PE X i ty) (ho:PE X o td) (hP:X.prog=P:=by rfl) (hw:X.w=w:=by rfl):PC X .NotIn i o (HU P w ty td):=by
 intro pins s σ H Q I h
 refine aE (hi pins s σ H _ I h) fun iv s1 ⟨y,H1,I1,ry,q1⟩=>aE (ho pins s1 σ H1 _ I1 q1) fun u s2 ⟨x,H2,I2,rx,a,ov,ex,g,q2⟩=>?_
 subst ex
 obtain rfl:u=Value.ref a:=rx
 obtain⟨t1,g1⟩:=g X pins σ s2 iv hP hw I2 ry
 exact(g1 _ _ hu).2.2 _ fun s3 I3=>⟨.bl (!ov.isSome),H2,I3,rfl,q2⟩
theorem HW (hu:X.A.units+1<cLine) (ho:PE X o td) (hi:PE X i ty) (hv:PE X value tv) (hs:swapsWith value (some (.Subscript o i pos')) pos.line X.env=pure false) (hP:X.prog=P:=by rfl) (hw:X.w=w:=by rfl):
  PS X (.Assign [.Subscript o i pos'] value pos) (Nx P w td ty tv):=by
 intro pins s σ H D I h
 refine wpAny_Assign_Subscript (aE (hv pins s σ H _ I h) fun r s1 ⟨v,H1,I1,rv,q1⟩=>aE (ho pins s1 σ H1 _ I1 q1) fun u s2 ⟨x,H2,I2,rx,q2⟩=>aE (hi pins s2 σ H2 _ I2 q2) fun iv s3 ⟨y,H3,I3,ry,a,H4,ex,g,q3⟩=>?_) hs
 subst ex
 obtain rfl:u=Value.ref a:=rx
 exact g X pins σ s3 iv r hP hw I3 ry rv _ _ _ hu fun s4 I4=>⟨σ,H4,I4,q3⟩
end
structure mn (P:Program) (w:World) (α:Type) where
 Rep:α→V→Hp→Prop
 Num:Hp→Addr→List α→Prop
 same:∀{x:α} {v:V} {H H':Hp},Rep x v H→bt H H'→Rep x v H'
 keep:∀{H H':Hp} {D:Addr} {xs:List α},Num H D xs→H' D=H D→Num H' D xs
 isD:∀{H:Hp} {D:Addr} {xs:List α},Num H D xs→∃o,H D=some o∧(∀l,o≠.lst l)∧(∀l,o≠.tup l)
 there:∀{H:Hp} {D:Addr} {xs:List α} {i:Nat} {x:α} {v:V},Num H D xs→Rep x v H→xs.Nodup→xs[i]? =some x→wQ P w H D v (some (.int ((i:Nat):Int)))
 miss:∀{H:Hp} {D:Addr} {xs:List α} {x:α} {v:V},Num H D xs→Rep x v H→x ∉ xs→wQ P w H D v none
 put:∀{H:Hp} {D:Addr} {xs:List α} {x:α} {v:V},Num H D xs→Rep x v H→x ∉ xs→xs.length<sizeLine→∃H',ET P w H D v (.int ((xs.length:Nat):Int)) H'∧KB D H H'∧Num H' D (xs++[x])
 JW:∀{X:Cx} {pos kpos cpos:Pos} {x:Str} {i j:Nat},X.A.units+1<cLine→PE X (.Name x kpos) (Eb i)→PE X (.Constant (.int 0) j cpos) (tC (.int 0))→X.prog=P→X.w=w→PE X (.Dict [some (.Name x kpos)] [.Constant (.int 0) j cpos] pos)
  (fun σ H Q=>∃y v,σ[i]? =some (some v)∧Rep y v H∧∀D H',H D=none→Same H H'→Num H' D [y]→Q (.ref D) H')
def Gm:Option Int→Value→Bool
 | none,.none=>true
 | some i,v=>Value.isInt i v
 | _,_=>false
theorem dG {k:Option Int} {v:Value} (h:Gm k v=true):(k=none∧v=Value.none)∨∃i t,k=some i∧v=Value.int i t:=by
 cases k with
 | none=>
  cases v with
  | none=>exact .inl ⟨rfl,rfl⟩
  | _=>exact absurd h (by simp[Gm])
 | some i=>
  obtain⟨t,e⟩:=Value.isInt_shape (k:=i) (v:=v) (by simpa[Gm] using h)
  exact .inr ⟨i,t,rfl,e⟩
def oH (w:World):Option Int→Int
 | none=>PySem.W.hashW w.params .none
 | some i=>hashInt i
def Ao (prog:Program) (w:World):PySem.KeyKind prog w (Option Int) where
 is:=Gm
 hash:=oH w
 inj:=fun v a b ha hb=>by
  rcases dG ha with⟨rfl,rfl⟩ | ⟨i,t,rfl,rfl⟩
  ·rcases dG hb with⟨rfl,_⟩ | ⟨j,u,_,e⟩
   ·rfl
   ·exact nomatch e
  ·rcases dG hb with⟨_,e⟩ | ⟨j,u,rfl,e⟩
   ·exact nomatch e
   ·injection e with e1 _;rw[e1]
 byValue:=fun k v h=>by
  rcases dG h with⟨rfl,rfl⟩ | ⟨i,t,rfl,rfl⟩<;>rfl
 pyHash:=fun hv h=>by
  rcases dG hv with⟨rfl,rfl⟩ | ⟨i,t,rfl,rfl⟩
  ·exact PySem.W.pyHash_slot (T:="NoneType") rfl PySem.F.slot_NoneType_hash PySem.F.entry_NoneType_hash (PySem.F.args_NoneType_hash_1 _) (beq_builtin_none _) (.inl rfl) (wpAny_bind (wpAny_pure (wpAny_bind (wpAny_mkInt (wpAny_pure ⟨_,_,rfl,h⟩)))))
  ·exact wpAny_pyHash_int h
 eqBool:=fun {A E s a b u v Q} hu hv h=>by
  rcases dG hu with⟨rfl,rfl⟩ | ⟨i,t,rfl,rfl⟩
  ·rcases dG hv with⟨rfl,rfl⟩ | ⟨j,u,rfl,rfl⟩
   ·exact SeqAt.EqAt.same _ _ _ _ _ (by simpa using h)
   ·exact SeqAt.EqAt.none_int j u _ _ _ _ (by simpa using h)
  ·rcases dG hv with⟨rfl,rfl⟩ | ⟨j,u,rfl,rfl⟩
   ·exact SeqAt.EqAt.int_none i t _ _ _ _ (by simpa using h)
   ·refine wpAny_eqBool_int ?_
    have e:decide ((some i:Option Int)=some j)=(i == j):=by
     by_cases z:i=j
     ·subst z;simp
     ·rw[decide_eq_false (fun y=>z (Option.some.inj y))];exact(beq_eq_false_iff_ne.mpr z).symm
    rw[←e];exact h
 «strs» :=fun k x t v h=>by
  rcases dG h with⟨_,e⟩ | ⟨_,_,_,e⟩<;>exact nomatch e
def oV:Option Int→V
 | none=>.non
 | some i=>.int i
theorem qy {P:Program} {w:World} {k:Option Int} {u:Value} (r:RelV (oV k) u):(Ao P w).is k u=true:=by
 cases k with
 | none=>cases(show u=Value.none from r);rfl
 | some i=>obtain⟨t,rfl⟩:=(show ∃t,u=Value.int i t from r);show Value.isInt i (.int i t)=true;simp[Value.isInt]
def dO (P:Program) (w:World) (a:Addr) (kvs:List (Option Int×V)):Heap→Prop:=fun h=>kvs.length≤sizeLine∧(a == sysModules)=false∧∃vs,KV kvs vs∧h.DictOf (Ao P w) a vs
theorem wR {P:Program} {w:World} {H:Hp} {h:Heap} {a:Addr} {kvs:List (Option Int×V)} (d:dO P w a kvs h):bb P w H h a (.ext (dO P w a kvs)):=
 ⟨d,let ⟨_,_,_,_,o,_,_,e,_⟩:=d;⟨o,e⟩,fun _ _ ⟨z,y,vs,r,o,es,ep,e,t⟩ k=>⟨z,y,vs,r,o,es,ep,k o e,t⟩⟩
section
variable {X:Cx} {pins:List (Addr×Obj)} {σ:St} {H:Hp} {s:Shared} {a:Addr} {kvs:List (Option Int×V)}
theorem Ap (I:Inv X pins σ H s) (e:H a=some (.ext (dO X.prog X.w a kvs))):dO X.prog X.w a kvs s.heap:=(show bb X.prog X.w H s.heap a (.ext (dO X.prog X.w a kvs)) from I.hok a _ e).1
end
theorem JX {P:Program} {w:World} {H:Hp} {a:Addr} {kvs:List (Option Int×V)} {k:Option Int} (e:H a=some (.ext (dO P w a kvs))):wQ P w H a (oV k) (aR kvs k):=by
 intro X pins σ s u hP hw I ry
 subst hP hw
 obtain⟨z,hd,vs,rel,dd⟩:=Ap I e
 refine⟨dd.typeIs,fun A E hu=>⟨fun v Q l h=>?_,fun Q h=>?_,fun Q h=>?_⟩⟩
 ·obtain⟨w',hw,jH⟩:=fm.some_of (v:=v) (o:=valueAt vs k) (by rw[←l];exact rel.val k)
  exact wpAny_getItem_of (qy ry) dd.mapOf hw (h w' _ (I.tok _) jH)
 ·refine wpAny_in_of (qy ry) hd dd.mapOf ?_
  rw[←(rel.val k).iX]
  exact h _ (I.tok _)
 ·refine wpAny_notIn_of (qy ry) hd dd.mapOf ?_
  rw[←(rel.val k).iX]
  exact h _ (I.tok _)
theorem QR {P:Program} {w:World} {H:Hp} {a:Addr} {kvs:List (Option Int×V)} {k:Option Int} {v:V} (e:H a=some (.ext (dO P w a kvs))) (l:kvs.length<sizeLine):ET P w H a (oV k) v (upd H a (.ext (dO P w a (putK kvs k v)))):=by
 intro X pins σ s u r hP hw I ry rv A E Q hu h
 subst hP hw
 obtain⟨z,hd,vs,rel,dd⟩:=Ap I e
 have hz:vs.length≤sizeLine:=by rw[←rel.length];exact z
 have hl:(putK kvs k v).length≤sizeLine:=by have:=gj kvs k v;omega
 refine wpAny_setItem_pairs (hsz:=hz) (qy ry) dd fun h' kX hs=>h _ ?_
 have he:∃q,h'.get? a=some q:=let ⟨q,_,_,hq,_⟩:=kX;⟨q,hq⟩
 exact kU I (by rw[e];exact True.intro) hs he (wR ⟨hl,hd,_,rel.put k rv,kX⟩)
theorem EU {P:Program} {w:World} {H:Hp} (h:Heap) (hb:sysModules<h.objs.size):bb P w H (h.push {cls:=.type "dict",data:=.dict #[]}) h.objs.size (.ext (dO P w h.objs.size [])):=
 wR ⟨Nat.zero_le _,beq_eq_false_iff_ne.mpr (Ne.symm (Nat.ne_of_lt hb)),[],.nil,Heap.DictOf.new h⟩
def JY (P:Program) (w:World) (tk tv:TE):TE:=fun σ H Q=>∀p,H p=none→tk σ (upd H p (.ext (dO P w p []))) fun x H1=>tv σ H1 fun y H2=>H2 p=some (.ext (dO P w p []))∧∃k,x=oV k∧Q (.ref p) (upd H2 p (.ext (dO P w p [(k,y)])))
theorem EV {X:Cx} {P:Program} {w:World} {pos:Pos} {k v:Expr} {tk tv:TE} (hk:PE X k tk) (hv:PE X v tv) (hP:X.prog=P) (hw:X.w=w):PE X (.Dict [some k] [v] pos) (JY P w tk tv):=by
 subst hP hw
 intro pins s σ H Q I q
 have hn:=I.hok.fresh (Nat.le_refl s.heap.objs.size)
 have I1:=I.laid (a:=s.heap.objs.size) (o:=.ext (dO X.prog X.w s.heap.objs.size [])) (h':=s.heap.push {cls:=.type "dict",data:=.dict #[]}) (t':=s.toks) (fun _ _ q=>Heap.get?_push_of_some _ q) (Nat.le_refl _) (EU s.heap I.big)
 have hp:BG X pos [some k] [v] [(tk,tv)]:=lW hk hv yW
 refine wpAny_Dict_walk (knd:=Ao X.prog X.w) rfl rfl (fun z=>nomatch z) (show 1≤15 by decide) (aE (hp pins _ σ _ (fun ps H2=>match ps with | [(x,y)]=>H2 s.heap.objs.size=some (.ext (dO X.prog X.w s.heap.objs.size []))∧∃k,x=oV k∧Q (.ref s.heap.objs.size) (upd H2 s.heap.objs.size (.ext (dO X.prog X.w s.heap.objs.size [(k,y)]))) | _=>False) I1 (q _ hn)) fun ws s2 ⟨ps,H2,I2,rel,q2⟩=>?_)
 cases rel with
 | nil=>exact False.elim q2
 | @cons p0 w0 ps' ws' r0 rt=>
  cases rt with
  | cons r1 YM=>exact False.elim q2
  | nil=>
   obtain⟨x0,y0⟩:=p0
   obtain⟨kv,vv⟩:=w0
   obtain⟨e,kk,ek,q3⟩:=q2
   subst ek
   obtain⟨z,hd,UW,rx,dd⟩:=Ap I2 e
   cases rx
   refine⟨[(kk,vv)],⟨qy r0.1,rfl,True.intro⟩,dd,fun h' kX hs=>⟨.ref s.heap.objs.size,_,?_,rfl,q3⟩⟩
   have he:∃q,h'.get? s.heap.objs.size=some q:=let ⟨q,_,_,hq,_⟩:=kX;⟨q,hq⟩
   exact kU I2 (by rw[e];exact True.intro) hs he (wR ⟨by show 1≤sizeLine;decide,hd,_,.cons ⟨rfl,r0.2⟩ .nil,kX⟩)
theorem wU {α:Type} (a b:α) (h:id a=id b):a=b:=h
def wV (P:Program) (w:World):mn P w (Option Int) where
 Rep:=fun x v _=>v=oV x
 Num:=fun H D xs=>H D=some (.ext (dO P w D (kvsOf id xs)))
 same:=fun h _=>h
 keep:=fun h e=>e.trans h
 isD:=fun h=>⟨_,h,(fun l z=>by cases z),(fun l z=>by cases z)⟩
 there:=fun {H D xs i x v} h r nd e=>by
  subst r
  have:=JX (k:=x) h
  rw[show aR (kvsOf id xs) x=some (.int ((i:Nat):Int)) from qu wU _ rfl nd e] at this
  exact this
 miss:=fun {H D xs x v} h r n=>by
  subst r
  have:=JX (k:=x) h
  rw[show aR (kvsOf id xs) x=none from mj wU n] at this
  exact this
 put:=fun {H D xs x v} h r n hl=>by
  subst r
  refine⟨_,QR (k:=x) h (by rw[B'];exact hl),KB.write,?_⟩
  rw[af,jJ _ (show aR (kvsOf id xs) x=none from mj wU n),qt]
  rfl
 JW:=fun {X pos kpos cpos x i j} hu h1 h2 hP hw pins s σ H Q I q=>by
  obtain⟨y,v,hv,rfl,q⟩:=q
  refine EV h1 h2 hP hw pins s σ H Q I fun p hp=>⟨_,hv,?_⟩
  refine⟨af,y,rfl,q p _ hp ((Same.new hp).kbn hp KB.write) ?_⟩
  rw[af];rfl
theorem ka:typeLookup (.type "tuple") "keys"=pure none:=by rw[typeLookup_type,builtinLookup_eq_fast];kernel_rfl
section
variable {P:Program} {w:World} {A:Around} {E:Value→Shared→Prop} {s:Shared}
theorem uQ {a:Addr} {xs:Array Value} {k:Nat} {sl:Array (Option Value)} {Q:Option Value→Shared→Prop} (hx:s.heap.get? a=some ⟨.type "tuple",none,.seq xs k,sl⟩) (hA:A.handled=none)
  (h:∀h' tk,(∀b o,s.heap.get? b=some o→h'.get? b=some o)→Q none {s with heap:=h',toks:=tk}):wpAny (model P w) A (getAttr? (.ref a) "keys") Q E s:=by
 obtain⟨hp,g,d,tk,os⟩:=s
 have hT:∀tk',(⟨hp,g,d,tk',os⟩:Shared).TypeIs (.ref a) "tuple":=fun _=>⟨_,hx,rfl⟩
 have f1:=sub_AttributeError
 have f3:=F.slot_tuple_getattribute.lookup
 have f4:=F.slot_tuple_getattribute.bind (.ref a)
 have f5:=am_tuple_getattr_none
 have f6:=ka
 unfold getAttr? getAttrBy? getAttrBy
 repeat (any_goals (first | assumption | exact hT _ | ((with_reducible show wpAny _ _ (call (Value.builtin "tuple.__getattribute__") _ _) _ _ _);refine call_meets F.slot_tuple_getattribute (hT _) am_entry_tuple_getattribute (F.args_tuple_getattribute_2 _ _) (meets_getattribute_miss_tuple a xs k sl "keys" _ ka (by decide+kernel) (by size_fits)) ⟨hx,hA,fun h' tk' e hx'=>?_⟩) | wp_step))
 obtain⟨t',u',he⟩:=hx'.there
 show wpAny _ _ (getattributeRaised _ _ _ _ _ _ _) _ _ _
 unfold getattributeRaised
 repeat (any_goals (first | assumption | wp_step))
 exact h _ _ hx'.keeps
theorem rQ {l:Addr} {its:Array Value} {nl:Nat} {sl:Array (Option Value)} {more:List (Key×Value)} {Q:Value→Shared→Prop} (hh:A.handled=none) (hl:s.heap.get? l=some ⟨.type "tuple",none,.seq its nl,sl⟩)
  (hp:∀(i:Nat) (v:Value),its[i]? =some v→∃p k key u o m,v=.ref p∧more[i]? =some (k,u)∧(aV P w).is k key=true∧s.heap.get? p=some o∧o.cls=.type "tuple"∧o.data=.seq #[key,u] m) (hml:more.length=its.size) (hb:its.size<sizeLine)
  (h:∀h' tk,h'.DictOf (aV P w) s.heap.objs.size (merged [] more)→(∀b o,s.heap.get? b=some o→h'.get? b=some o)→Q (.ref s.heap.objs.size) {s with heap:=h',toks:=tk}):
  wpAny (model P w) A (call (.type "dict") [.ref l]) Q E s:=by
 refine callType_codes (Q₁:=fun obj s₁=>obj=.ref s.heap.objs.size∧s₁={s with heap:=s.heap.push {cls:=.type "dict",data:=.dict #[]}}) F.kt_called_dict (F.kt_typeCall_dict_1 _) F.entry_dict_init (kt_code_dict_new _ ⟨rfl,rfl⟩) ?_
 rintro obj s₁ ⟨rfl,rfl⟩
 have hnew:(s.heap.push {cls:=.type "dict",data:=.dict #[]}).DictOf (aV P w) s.heap.objs.size []:=Heap.DictOf.new s.heap
 have hl1:(s.heap.push {cls:=.type "dict",data:=.dict #[]}).get? l=some ⟨.type "tuple",none,.seq its nl,sl⟩:=Heap.get?_push_of_some _ hl
 have lS:l<s.heap.objs.size:=Heap.lt_size hl
 refine⟨hnew.typeIs,F.args_dict_init_2 _ _,?_⟩
 unfold Builtin.«dict.__init__»
 refine wpAny_bind ?_
 unfold Builtin.Dict.selfAndRest
 refine wpAny_bind (wpAny_notOrdered_dict hnew.typeIs ?_)
 show wpAny _ _ (pure (s.heap.objs.size,[Value.ref l])) _ _ _
 refine wpAny_pure ?_
 show wpAny _ _ (Builtin.Dict.updateFrom "dict.__init__" s.heap.objs.size (.ref l) [] .none) _ _ _
 unfold Builtin.Dict.updateFrom
 refine wpAny_bind (wpAny_typeOf (show Shared.TypeIs {s with heap:=s.heap.push {cls:=.type "dict",data:=.dict #[]}} (.ref l) "tuple" from⟨_,hl1,rfl⟩) ?_)
 rw[if_pos (by decide)]
 refine wpAny_bind (uQ hl1 (by simp[hh]) fun h1 tk1 k1=>?_)
 rw[show(none:Option Value).isNone=true from rfl,if_pos rfl]
 refine wpAny_bind (wpAny_rule ?_)
 have hl2:h1.IsTuple l its:=⟨_,k1 _ _ hl1,rfl,nl,rfl⟩
 refine wpAny_bind (wpAny_pyIter_tuple hl2 ?_)
 refine wpAny_pure ⟨plainId_quiet cR _,?_⟩
 have JQ:l<h1.objs.size:=Heap.lt_size (k1 _ _ hl1)
 have t5:l≠h1.objs.size:=Nat.ne_of_lt JQ
 have wH:s.heap.objs.size<h1.objs.size:=by
  obtain⟨o,es,ep,ho,_⟩:=hnew
  exact Heap.lt_size (k1 _ _ ho)
 have nf:s.heap.objs.size ∉ [h1.objs.size,l]:=by
  simp only[List.mem_cons,List.not_mem_nil,or_false,not_or]
  exact⟨Nat.ne_of_lt wH,Nat.ne_of_gt lS⟩
 have hh3:A.in1.in1.handled=none:=by simp[hh]
 refine uc ((Walks.tuple hh3 _ l t5 its).toS) nf more hml hb (its.size-0) 0 0 _ (by omega) (Nat.zero_le _) ⟨⟨_,Heap.get?_push_size _ rfl,rfl,rfl⟩,hl2.push _⟩ (fun i v hv=>?_) ?_ fun s' mv hd=>?_
 ·obtain⟨p,k,key,u,o,m,e1,e2,e3,e4,e5,e6⟩:=hp i v hv
  have lp:=Heap.lt_size e4
  refine⟨p,k,key,u,o,m,e1,e2,e3,Heap.get?_push_of_some _ (k1 _ _ (Heap.get?_push_of_some _ e4)),e5,e6,Nat.ne_of_lt lp,fun z=>?_⟩
  have e9:p=h1.objs.size:=List.mem_singleton.mp z
  rw[e9] at lp
  exact absurd (Nat.lt_trans lp wH) (Nat.lt_irrefl _)
 ·show Heap.DictOf _ _ _ (merged [] (more.take 0))
  obtain⟨o,es,ep,ho,r⟩:=hnew
  exact⟨o,es,ep,Heap.get?_push_of_some _ (k1 _ _ ho),r⟩
 ·obtain⟨h',g',d',tk',os'⟩:=s'
  have eg:g'=s.gens:=mv.gens
  have ed:d'=s.drawn:=mv.drawn
  have eo:os'=s.os:=mv.os
  subst eg ed eo
  refine⟨rfl,h h' tk' hd fun b o e=>mv.heap b o (fun z=>?_) (Heap.get?_push_of_some _ (k1 _ _ (Heap.get?_push_of_some _ e)))⟩
  have lb:=Heap.lt_size e
  simp only[List.mem_cons,List.not_mem_nil,or_false] at z
  rcases z with z | z
  ·rw[z] at lb;exact Nat.lt_irrefl _ lb
  ·rw[z] at lb;exact Nat.lt_irrefl _ (Nat.lt_trans lb wH)
end
section
variable {X:Cx}
def JZ:List V→Hp→VK→Prop:=fun vs H Q=>∃(l:Addr) (ps:List Addr) (kvs:List (Key×V)),vs=[.ref l]∧H l=some (.tup (ps.map V.ref))∧Paired (fun(p:Addr) (q:Key×V)=>H p=some (.tup [kV q.1,q.2])) ps kvs∧kvs.length<sizeLine∧∀D,H D=none→Q (.ref D) (upd H D (.dK (br [] kvs)))
theorem ju (hA:X.A.handled=none):cv X (.type "dict") JZ:=by
 intro pins s σ H xs us Q I r h
 obtain⟨l,ps,kvs,rfl,hl,hp,hb,q⟩:=h
 obtain⟨u,rfl,ru⟩:=vals1 r
 cases ru
 obtain⟨⟨z,o0,Ox,hd0⟩,its,rv,⟨o1,ho1,hc1,n,hd1⟩⟩:=I.hok l _ hl
 rw[Ox] at ho1
 cases ho1
 obtain⟨Yz,YN,Yv,Oy⟩:=o0
 simp only at hc1 hd1 hd0
 subst hc1 hd1 hd0
 have e:=Ox
 have key:∀(ps:List Addr) (kvs:List (Key×V)) (its:List Value),Paired (fun(p:Addr) (q:Key×V)=>H p=some (.tup [kV q.1,q.2])) ps kvs→Vals (ps.map V.ref) its→
   ∃more:List (Key×Value),KV kvs more∧∀(i:Nat) (v:Value),its[i]? =some v→∃p k key u o m,v=.ref p∧more[i]? =some (k,u)∧(aV X.prog X.w).is k key=true∧s.heap.get? p=some o∧o.cls=.type "tuple"∧o.data=.seq #[key,u] m:=by
  intro ps kvs its a
  induction a generalizing its with
  | nil=>intro b;cases b;exact⟨[],.nil,fun i v hv=>by simp at hv⟩
  | @cons p q ps kvs h t ih=>
   intro b
   cases b with
   | cons rp rt=>
    obtain⟨more,m1,m2⟩:=ih _ rt
    obtain⟨z2,its2,jo,o,ho,hc,m,hd⟩:=I.hok p _ h
    cases jo with
    | cons r1 r2=>
     cases r2 with
     | cons r2 r3=>
      cases r3
      cases(show _=Value.ref p from rp)
      refine⟨(q.1,_)::more,.cons ⟨rfl,r2⟩ m1,fun i v hv=>?_⟩
      cases i with
      | zero=>
       have e:Value.ref p=v:=by simpa using hv
       exact⟨p,q.1,_,_,o,m,e.symm,rfl,j4 r1,ho,hc,hd⟩
      | succ i=>exact m2 i v (by simpa using hv)
 obtain⟨more,m1,m2⟩:=key ps kvs its hp rv
 have len1:more.length=its.length:=by rw[←Paired.length m1,←Paired.length hp,←rv.length,List.length_map]
 have len2:its.length=kvs.length:=by rw[←len1,←Paired.length m1]
 refine rQ (nl:=n) (its:=its.toArray) (more:=more) hA e (fun i v hv=>m2 i v (by simpa using hv)) (by simpa using len1) (by rw[List.size_toArray,len2];exact hb) fun h' tk dd kp=>?_
 have bg:(s.heap.objs.size == sysModules)=false:=beq_eq_false_iff_ne.mpr (Ne.symm (Nat.ne_of_lt I.big))
 have hz:(br [] kvs).length≤sizeLine:=by
  have h1:=gy kvs []
  rw[List.length_nil] at h1
  omega
 exact⟨.ref s.heap.objs.size,_,I.laid (a:=s.heap.objs.size) (o:=.dK (br [] kvs)) (t':=tk) kp (Nat.le_refl _) ⟨hz,bg,_,m1.merge .nil,dd⟩,rfl,q _ (I.hok.fresh (Nat.le_refl _))⟩
end
section
variable {prog:Program} {w:World} {A:Around} {E:Value→Shared→Prop} {s:Shared}
theorem Co {z TI TO i1 i2 l1 l2:Addr} {k:Nat} {xs ys:Array Value} {x y a b:Value} {Q:Value→Shared→Prop} (D:ZipApart z TI TO i1 i2 l1 l2) (gz:IsZip s.heap z TI TO .none) (gI:IsPair s.heap TI (.ref i1) (.ref i2)) (gO:IsPair s.heap TO a b)
  (g1:s.heap.IsTupleIter i1 l1 k) (g2:s.heap.IsListIter i2 l2 k) (m1:s.heap.IsTuple l1 xs) (m2:s.heap.IsList l2 ys) (ex:xs[k]? =some x) (ey:ys[k]? =some y)
  (q:∀h',IsZip h' z TI TO (rawInt s.heap.objs.size)→IsPair h' TO x y→h'.IsTupleIter i1 l1 (k+1)→h'.IsListIter i2 l2 (k+1)→IsPair h' s.heap.objs.size x y→h'.objs.size=s.heap.objs.size+1→
   (∀c o,c≠z→c≠TO→c≠i1→c≠i2→s.heap.get? c=some o→h'.get? c=some o)→Q (.ref s.heap.objs.size) {s with heap:=h'}):
  wpAny (model prog w) A (Builtin.«zip.__next__» ⟨[.ref z],[]⟩) (fun fin s'=>∃v,fin=.done (.ret v)∧Q v s') E s:=by
 show wpAny _ _ (field (.ref z) 2 >>= _) _ _ _;refine wpAny_bind (wpAny_field gz rfl (x:=.bool false) rfl ?_)
 show wpAny _ _ (field (.ref z) 3 >>= _) _ _ _;refine wpAny_bind (wpAny_field gz rfl (x:=.ref TI) rfl ?_);refine wpAny_bind (wpAny_seqItems gI rfl ?_)
 show wpAny _ _ (Builtin.SmallTypes.ownedTupleIsFree (.ref z) >>= _) _ _ _;refine wpAny_bind ?_;unfold Builtin.SmallTypes.ownedTupleIsFree
 refine wpAny_bind (wpAny_field gz rfl (x:=.none) rfl (wpAny_pure ?_));simp only[if_true];refine wpAny_bind (wpAny_rule ?_)
 refine wpAny_bind (wpAny_field gz rfl (x:=.ref TO) rfl ?_);refine wpAny_bind (wpAny_setField_rec gz (by simp) fun h1 z1 s1=>?_)
 replace z1:IsZip h1 z TI TO .ellipsis:=z1
 refine wpAny_bind ?_;simp only[List.zipIdx_cons,List.zipIdx_nil,List.forIn_cons,List.forIn_nil];refine wpAny_bind (wpAny_bind (wpAny_onRaise ?_))
 show wpAny _ _ (Builtin.SmallTypes.nextOf (.ref i1) >>= _) _ _ _;refine wpAny_bind (gm (aY g1 s1.extBut D.i1z) (cE m1 s1.extBut D.l1z) ex fun h2 Cb s2=>wpAny_pure ?_)
 have O2:IsPair h2 TO a b:=s2.extBut _ _ D.TOi1 (s1.extBut _ _ D.TOz gO)
 refine wpAny_bind (wpAny_seqItems O2 rfl ?_);refine wpAny_bind (wpAny_updateSeq_pair O2 fun h3 O3 s3=>?_)
 replace O3:IsPair h3 TO x b:=O3
 refine wpAny_bind (wpAny_letGo (wpAny_pure ?_));refine wpAny_bind (wpAny_bind (wpAny_onRaise ?_))
 show wpAny _ _ (Builtin.SmallTypes.nextOf (.ref i2) >>= _) _ _ _;refine wpAny_bind (wpAny_nextOf_list_item (((g2.extBut s1.extBut D.i2z).extBut s2.extBut D.i12.symm).extBut s3.extBut D.TOi2.symm) (((m2.extBut s1.extBut D.l2z).extBut s2.extBut D.l2i1).extBut s3.extBut D.l2TO) ey fun h4 JT s4=>wpAny_pure ?_)
 have O4:IsPair h4 TO x b:=s4.extBut _ _ D.TOi2 O3
 refine wpAny_bind (wpAny_seqItems O4 rfl ?_);refine wpAny_bind (wpAny_updateSeq_pair O4 fun h5 O5 s5=>?_)
 replace O5:IsPair h5 TO x y:=O5
 refine wpAny_bind (wpAny_letGo (wpAny_pure (wpAny_pure ?_)));refine wpAny_bind (wpAny_seqItems O5 rfl ?_);refine wpAny_bind (wpAny_newTuple ?_)
 have sz:h5.objs.size=s.heap.objs.size:=by rw[s5.1,s4.1,s3.1,s2.1,s1.1]
 have z5:IsZip h5 z TI TO .ellipsis:=s5.extBut _ _ D.TOz.symm (s4.extBut _ _ D.i2z.symm (s3.extBut _ _ D.TOz.symm (s2.extBut _ _ D.i1z.symm z1)))
 have k5:∀c o,c≠z→c≠TO→c≠i1→c≠i2→s.heap.get? c=some o→h5.get? c=some o:=fun c o c1 c2 c3 c4 e=>s5.extBut _ _ c2 (s4.extBut _ _ c4 (s3.extBut _ _ c2 (s2.extBut _ _ c3 (s1.extBut _ _ c1 e))))
 have a5:h5.IsTupleIter i1 l1 (k+1):=aY (aY (aY Cb s3.extBut D.TOi1.symm) s4.extBut D.i12) s5.extBut D.TOi1.symm
 have b5:h5.IsListIter i2 l2 (k+1):=JT.extBut s5.extBut D.TOi2.symm
 have Cc:z<h5.objs.size:=Heap.lt_size z5
 show wpAny _ _ (Builtin.SmallTypes.ownedTupleHandOut (.ref z) (.ref h5.objs.size) >>= _) _ _ _
 refine wpAny_bind ?_;unfold Builtin.SmallTypes.ownedTupleHandOut
 have z6:IsZip (h5.push {cls:=.type "tuple",data:=.seq #[x,y]}) z TI TO .ellipsis:=Heap.get?_push_of_some _ z5
 refine wpAny_bind (wpAny_setField_rec z6 (by simp) fun h7 z7 s7=>?_)
 replace z7:IsZip h7 z TI TO (rawInt h5.objs.size):=z7
 refine wpAny_setField_rec z7 (by simp) fun h8 z8 s8=>?_
 replace z8:IsZip h8 z TI TO (rawInt h5.objs.size):=z8
 have up:∀c o,c≠z→h5.get? c=some o→h8.get? c=some o:=fun c o c1 e=>s8.extBut _ _ c1 (s7.extBut _ _ c1 (Heap.get?_push_of_some _ e))
 have T8:IsPair h8 h5.objs.size x y:=s8.extBut _ _ (Nat.ne_of_gt Cc) (s7.extBut _ _ (Nat.ne_of_gt Cc) (Heap.get?_push_size _ rfl))
 have e8:h8.objs.size=h5.objs.size+1:=by rw[s8.1,s7.1,Heap.size_push]
 rw[sz] at z8 T8 e8
 refine wpAny_pure ⟨_,rfl,?_⟩;show Q (.ref h5.objs.size) _;rw[sz]
 exact q h8 z8 (up _ _ D.TOz O5) (let ⟨o,ho,r⟩:=a5;⟨o,up _ _ D.i1z ho,r⟩) (b5.at fun o e=>up _ o D.i2z e) T8 e8 fun c o c1 c2 c3 c4 e=>up c o c1 (k5 c o c1 c2 c3 c4 e)
theorem EW {z TI TO i1 i2 l1 l2:Addr} {k:Nat} {xs ys:Array Value} {a b:Value} {Q:Fin→Shared→Prop} (hh:A.handled=none) (D:ZipApart z TI TO i1 i2 l1 l2) (gz:IsZip s.heap z TI TO .none) (gI:IsPair s.heap TI (.ref i1) (.ref i2)) (gO:IsPair s.heap TO a b)
  (g1:s.heap.IsTupleIter i1 l1 k) (g2:s.heap.IsListIter i2 l2 k) (m1:s.heap.IsTuple l1 xs) (m2:s.heap.IsList l2 ys) (ex:xs[k]? =none)
  (q:∀h' e,(∀c o,c≠z→c≠TO→c≠i1→c≠i2→s.heap.get? c=some o→h'.get? c=some o)→(∃o,h'.get? e=some o∧o.cls=.type "StopIteration")→E (.ref e) {s with heap:=h'}):
  wpAny (model prog w) A (Builtin.«zip.__next__» ⟨[.ref z],[]⟩) Q E s:=by
 show wpAny _ _ (field (.ref z) 2 >>= _) _ _ _;refine wpAny_bind (wpAny_field gz rfl (x:=.bool false) rfl ?_)
 show wpAny _ _ (field (.ref z) 3 >>= _) _ _ _;refine wpAny_bind (wpAny_field gz rfl (x:=.ref TI) rfl ?_);refine wpAny_bind (wpAny_seqItems gI rfl ?_)
 show wpAny _ _ (Builtin.SmallTypes.ownedTupleIsFree (.ref z) >>= _) _ _ _;refine wpAny_bind ?_;unfold Builtin.SmallTypes.ownedTupleIsFree
 refine wpAny_bind (wpAny_field gz rfl (x:=.none) rfl (wpAny_pure ?_));simp only[if_true];refine wpAny_bind (wpAny_rule ?_)
 refine wpAny_bind (wpAny_field gz rfl (x:=.ref TO) rfl ?_);refine wpAny_bind (wpAny_setField_rec gz (by simp) fun h1 z1 s1=>?_)
 replace z1:IsZip h1 z TI TO .ellipsis:=z1
 refine wpAny_bind ?_;simp only[List.zipIdx_cons,List.zipIdx_nil,List.forIn_cons,List.forIn_nil];refine wpAny_bind (wpAny_bind (wpAny_onRaise ?_))
 show wpAny _ _ (Builtin.SmallTypes.nextOf (.ref i1) >>= _) _ _ _;refine wpAny_bind (kr hh (aY g1 s1.extBut D.i1z) (cE m1 s1.extBut D.l1z) ex fun h2 e s2 he=>?_)
 obtain⟨oe,hoe,hce⟩:=he
 have z2:IsZip h2 z TI TO .ellipsis:=s2 _ _ D.i1z.symm z1
 have JU:e≠z:=fun x=>by subst x;rw[z2] at hoe;cases hoe;simp at hce
 refine wpAny_setField_rec z2 (by simp) fun h3 _ s3=>q h3 e (fun c o c1 _ c3 _ x=>s3.extBut _ _ c1 (s2 _ _ c3 (s1.extBut _ _ c1 x))) ⟨oe,s3.extBut _ _ JU hoe,hce⟩
theorem Cp {z TI TO i1 i2 l1 l2:Addr} {k:Nat} {xs ys:Array Value} {x y a b:Value} {Q:Option Value→Shared→Prop} (D:ZipApart z TI TO i1 i2 l1 l2) (gz:IsZip s.heap z TI TO .none) (gI:IsPair s.heap TI (.ref i1) (.ref i2)) (gO:IsPair s.heap TO a b)
  (g1:s.heap.IsTupleIter i1 l1 k) (g2:s.heap.IsListIter i2 l2 k) (m1:s.heap.IsTuple l1 xs) (m2:s.heap.IsList l2 ys) (ex:xs[k]? =some x) (ey:ys[k]? =some y)
  (q:∀h',IsZip h' z TI TO (rawInt s.heap.objs.size)→IsPair h' TO x y→h'.IsTupleIter i1 l1 (k+1)→h'.IsListIter i2 l2 (k+1)→IsPair h' s.heap.objs.size x y→h'.objs.size=s.heap.objs.size+1→
   (∀c o,c≠z→c≠TO→c≠i1→c≠i2→s.heap.get? c=some o→h'.get? c=some o)→Q (some (.ref s.heap.objs.size)) {s with heap:=h'}):wpAny (model prog w) A (pyNext (.ref z)) Q E s:=by
 have ty:s.TypeIs (.ref z) "zip":=⟨_,gz,rfl⟩
 unfold pyNext
 exact wpAny_bind (wpAny_attempt (wpAny_callSpecial?_slot (name:=Str.ofString "__next__") ty PySem.F.slot_zip_next (wpAny_call_entry PySem.F.slot_zip_next ty PySem.F.entry_zip_next (Co D gz gI gO g1 g2 m1 m2 ex ey fun h' a1 a2 a3 a4 a5 a6 a7=>wpAny_pure (q h' a1 a2 a3 a4 a5 a6 a7)) (PySem.F.args_zip_next_1 _))))
theorem Aq {z TI TO i1 i2 l1 l2:Addr} {k:Nat} {xs ys:Array Value} {a b:Value} {Q:Option Value→Shared→Prop} (hh:A.handled=none) (D:ZipApart z TI TO i1 i2 l1 l2) (gz:IsZip s.heap z TI TO .none) (gI:IsPair s.heap TI (.ref i1) (.ref i2)) (gO:IsPair s.heap TO a b)
  (g1:s.heap.IsTupleIter i1 l1 k) (g2:s.heap.IsListIter i2 l2 k) (m1:s.heap.IsTuple l1 xs) (m2:s.heap.IsList l2 ys) (ex:xs[k]? =none)
  (q:∀h',(∀c o,c≠z→c≠TO→c≠i1→c≠i2→s.heap.get? c=some o→h'.get? c=some o)→Q none {s with heap:=h'}):wpAny (model prog w) A (pyNext (.ref z)) Q E s:=by
 have ty:s.TypeIs (.ref z) "zip":=⟨_,gz,rfl⟩
 unfold pyNext
 refine wpAny_bind (wpAny_attempt (wpAny_callSpecial?_slot (name:=Str.ofString "__next__") ty PySem.F.slot_zip_next (wpAny_call_entry PySem.F.slot_zip_next ty PySem.F.entry_zip_next (EW hh D gz gI gO g1 g2 m1 m2 ex fun h' e hk he=>?_) (PySem.F.args_zip_next_1 _))))
 obtain⟨o,ho,hc⟩:=he
 exact wpAny_bind (wpAny_isInstance (T:="StopIteration") (b:=true) ⟨o,ho,hc⟩ isSubtype_stop (wpAny_pure (q _ hk)))
abbrev Cq (h:Heap) (l1 l2:Addr):Heap:=(h.push (nR l1)).push (Vh l2)
abbrev Gn (h:Heap) (l1 l2:Addr):Heap:=(Cq h l1 l2).push {cls:=.type "tuple",data:=.seq #[.ref h.objs.size,.ref (h.push (nR l1)).objs.size]}
abbrev Cr (h:Heap) (l1 l2:Addr):Heap:=(Gn h l1 l2).push {cls:=.type "tuple",data:=.seq #[.none,.none]}
abbrev uj (h:Heap) (l1 l2:Addr):Heap:=(Cr h l1 l2).push {cls:=.type "zip",data:=.fields #[.none,.bool false,.bool false,.ref (Cq h l1 l2).objs.size,.ref (Gn h l1 l2).objs.size]}
theorem As (l1 l2:Addr) (xs ys:Array Value):Meets (Builtin.«zip.__new__» ⟨[.type "zip",.ref l1,.ref l2],[]⟩) (fun _ R s=>s.heap.IsTuple l1 xs∧s.heap.IsList l2 ys∧R (.ok (.ret (.ref (Cr s.heap l1 l2).objs.size))) {s with heap:=uj s.heap l1 l2}):=
 .of_wp fun prog w A R s h=>by
  obtain⟨hp,g,d,tk,os⟩:=s;obtain⟨m1,m2,h⟩:=h
  have hsub:=PySem.sub_zip
  have L1:Heap.IsTuple (Shared.heap ⟨hp,g,d,tk,os⟩) l1 xs:=m1
  have L2:Heap.IsList (Shared.heap ⟨hp.push (nR l1),g,d,tk,os⟩) l2 ys:=let ⟨o,ho,r⟩:=m2;⟨o,Heap.get?_push_of_some _ ho,r⟩
  wp_walk using wpAny_pyIter_tuple L1,wpAny_pyIter_list L2
  exact⟨_,rfl,h⟩
theorem Cs {l1 l2:Addr} {xs ys:Array Value} {Q:Value→Shared→Prop} (m1:s.heap.IsTuple l1 xs) (m2:s.heap.IsList l2 ys)
  (q:∀h',IsZip h' (s.heap.objs.size+4) (s.heap.objs.size+2) (s.heap.objs.size+3) .none→IsPair h' (s.heap.objs.size+2) (.ref s.heap.objs.size) (.ref (s.heap.objs.size+1))→
   IsPair h' (s.heap.objs.size+3) .none .none→h'.IsTupleIter s.heap.objs.size l1 0→h'.IsListIter (s.heap.objs.size+1) l2 0→
   (∀c o,s.heap.get? c=some o→h'.get? c=some o)→Q (.ref (s.heap.objs.size+4)) {s with heap:=h'}):wpAny (model prog w) A (call (.type "zip") [.ref l1,.ref l2]) Q E s:=by
 refine callType_new PySem.F.called_zip (by decide) (PySem.F.typeCall_zip_2 _ _) (PySem.F.newCall_zip_2 _ _) (fun obj=>PySem.F.args_object_init_3 obj _ _) PySem.F.entry_zip_new (As l1 l2 xs ys) ⟨m1,m2,?_⟩
 have e1:(s.heap.push (nR l1)).objs.size=s.heap.objs.size+1:=Heap.size_push ..
 have e2:(Cq s.heap l1 l2).objs.size=s.heap.objs.size+2:=by rw[Heap.size_push,e1]
 have e3:(Gn s.heap l1 l2).objs.size=s.heap.objs.size+3:=by rw[Heap.size_push,e2]
 have e4:(Cr s.heap l1 l2).objs.size=s.heap.objs.size+4:=by rw[Heap.size_push,e3]
 have p5:(uj s.heap l1 l2).get? (Cr s.heap l1 l2).objs.size=some _:=Heap.get?_push_size _ rfl
 have up:∀{c:Addr} {o:Obj},(Cr s.heap l1 l2).get? c=some o→(uj s.heap l1 l2).get? c=some o:=fun x=>Heap.get?_push_of_some _ x
 have p4:(uj s.heap l1 l2).get? (Gn s.heap l1 l2).objs.size=some _:=up (Heap.get?_push_size _ rfl)
 have p3:(uj s.heap l1 l2).get? (Cq s.heap l1 l2).objs.size=some _:=up (Heap.get?_push_of_some _ (Heap.get?_push_size _ rfl))
 have wN:∀{c:Addr} {o:Obj},(Cq s.heap l1 l2).get? c=some o→(uj s.heap l1 l2).get? c=some o:=fun x=>up (Heap.get?_push_of_some _ (Heap.get?_push_of_some _ x))
 have p2:(uj s.heap l1 l2).get? (s.heap.push (nR l1)).objs.size=some _:=wN (Heap.get?_push_size _ rfl)
 have p1:(uj s.heap l1 l2).get? s.heap.objs.size=some _:=wN (Heap.get?_push_of_some _ (Heap.get?_push_size _ rfl))
 show _∧_
 rw[e2,e3,e4] at p5
 rw[e1,e2] at p3
 rw[e3] at p4
 rw[e1] at p2
 rw[e4]
 exact⟨⟨_,p5,rfl⟩,q _ p5 p3 p4 ⟨_,p1,rfl,rfl⟩ ⟨_,p2,rfl,rfl⟩ fun c o x=>wN (Heap.get?_push_of_some _ (Heap.get?_push_of_some _ x))⟩
end
def EX (K:PySem.W.Frag) (a b:Addr):It:=
 ⟨fun i H=>∃xs ys x y,aW K H a xs∧a_ K H b ys∧xs[i]? =some x∧ys[i]? =some y,
  fun i H v H'=>∃x y p,(∀xs,aW K H a xs→xs[i]? =some x)∧(∀ys,a_ K H b ys→ys[i]? =some y)∧H p=none∧v=.ref p∧H'=upd H p (.tup [x,y]),
  fun i H=>∃xs ys,aW K H a xs∧a_ K H b ys∧xs.length≤i⟩
theorem Ct {P:Program} {w:World} {K:PySem.W.Frag} {elts:List Expr} {x1} {tpos:Pos} (a b z TI TO i1 i2:Addr) (D:ZipApart z TI TO i1 i2 a b):
  Turn P w K (.Tuple elts x1 tpos) (EX K a b) [z,TO,i1,i2,TI] z (fun i h=>IsZip h z TI TO .none∧IsPair h TI (.ref i1) (.ref i2)∧(∃x y,IsPair h TO x y)∧h.IsTupleIter i1 a i∧h.IsListIter i2 b i) where
 mem:=by simp
 obj:=fun i h st c hc=>by
  obtain⟨hz,hTI,⟨x,y,hTO⟩,h1,h2⟩:=st
  have hc':c=z∨c=TO∨c=i1∨c=i2∨c=TI:=by simpa using hc
  rcases hc' with q | q | q | q | q
  ·subst q;exact⟨_,hz,fun v e=>nomatch e⟩
  ·subst q;exact⟨_,hTO,fun v e=>nomatch e⟩
  ·subst q
   obtain⟨o,e,_,d⟩:=h1
   exact⟨o,e,fun v q=>by rw[d] at q;cases q⟩
  ·subst q
   obtain⟨o,e,_,d⟩:=h2
   exact⟨o,e,fun v q=>by rw[d] at q;cases q⟩
  ·subst q;exact⟨_,hTI,fun v e=>nomatch e⟩
 keep:=fun i h h' st k=>by
  obtain⟨hz,hTI,⟨x,y,hTO⟩,h1,h2⟩:=st
  exact⟨k z (by simp) _ hz,k TI (by simp) _ hTI,⟨x,y,k TO (by simp) _ hTO⟩,let ⟨o,ho,r⟩:=h1;⟨o,k i1 (by simp) o ho,r⟩,h2.at fun o q=>k i2 (by simp) o q⟩
 item:=by
  intro X hP hw hK hc i pins s σ H E I hf st hg
  subst hP hw hK
  obtain⟨hz,hTI,⟨u1,u2,hTO⟩,h1,h2⟩:=st
  obtain⟨xs,ys,x,y,hq,hq2,hx,hy⟩:=hg
  obtain⟨its,rv,p,_⟩:=I.tuple hq
  obtain⟨its2,jo,p2,_⟩:=I.list hq2
  obtain⟨u,hu,ru⟩:=rv.get hx
  obtain⟨v,hv,rv'⟩:=jo.get hy
  refine Cp D hz hTI hTO h1 h2 (show s.heap.IsTuple a its.toArray from p) p2.isList (x:=u) (y:=v) (by simpa using hu) (by simpa using hv) fun h1' a1 a2 a3 a4 a5 a6 kk=>?_
  have nn:H s.heap.objs.size=none:=I.hok.fresh (Nat.le_refl _)
  have nP:∀c∈[z,TO,i1,i2],fi X pins H c:=fun c hc=>hf c (by
   have hc':c=z∨c=TO∨c=i1∨c=i2:=by simpa using hc
   rcases hc' with q | q | q | q<;>simp[q])
  have I1:Inv X pins σ (upd H s.heap.objs.size (.tup [x,y])) {s with heap:=h1',toks:=s.toks}:=
   I.lX (ch:=[z,TO,i1,i2]) nP (fun c o hc q=>kk c o (fun e=>hc (by simp[e])) (fun e=>hc (by simp[e])) (fun e=>hc (by simp[e])) (fun e=>hc (by simp[e])) q) (Nat.le_refl _)
    ⟨⟨by show 2≤sizeLine;decide,_,a5,rfl⟩,[u,v],.cons ru (.cons rv' .nil),⟨_,a5,rfl,_,rfl⟩⟩
  have lz:z<s.heap.objs.size:=Heap.lt_size hz
  have BR:TI<s.heap.objs.size:=Heap.lt_size hTI
  have BS:TO<s.heap.objs.size:=Heap.lt_size hTO
  have l1:i1<s.heap.objs.size:=by obtain⟨o,q,_⟩:=id h1;exact Heap.lt_size q
  have l2:i2<s.heap.objs.size:=by obtain⟨o,q,_⟩:=id h2;exact Heap.lt_size q
  refine⟨_,rfl,wpAny_letOwnedTupleGo_zip a1 fun h2' e2 sb=>?_⟩
  obtain⟨f0,f1,f2,f3,f4,f5⟩:=hf z (by simp)
  have I2:=I1.turned (h':=h2') (t':=s.toks) (it:=z) (fun c o hc q=>(sb.2 c hc).trans q) (by rw[au (Nat.ne_of_lt lz)];exact f0) f1 f3 f4 f5
  refine⟨.ref s.heap.objs.size,_,I2,rfl,⟨x,y,s.heap.objs.size,fun zs hy=>by rw[I.iU hy hq];exact hx,fun zs hz'=>by rw[I.ie hz' hq2];exact hy,nn,rfl,rfl⟩,
   ⟨e2,(sb.2 TI D.TIz).trans (kk _ _ D.TIz D.TITO D.TIi1 D.TIi2 hTI),⟨_,_,(sb.2 TO D.TOz).trans a2⟩,let ⟨o,ho,r⟩:=a3;⟨o,(sb.2 i1 D.i1z).trans ho,r⟩,a4.at fun o q=>(sb.2 i2 D.i2z).trans q⟩,fun c hc=>?_⟩
  have hlt:c<s.heap.objs.size:=by
   have hc':c=z∨c=TO∨c=i1∨c=i2∨c=TI:=by simpa using hc
   rcases hc' with q | q | q | q | q
   ·rw[q];exact lz
   ·rw[q];exact BS
   ·rw[q];exact l1
   ·rw[q];exact l2
   ·rw[q];exact BR
  rw[au (Nat.ne_of_lt hlt)]
  exact(hf c hc).1
 done:=by
  intro X hP hw hK hc i pins s σ H E I hf st hg
  subst hP hw hK
  obtain⟨hz,hTI,⟨u1,u2,hTO⟩,h1,h2⟩:=st
  obtain⟨xs,ys,hq,hq2,hx⟩:=hg
  obtain⟨its,rv,p,_⟩:=I.tuple hq
  obtain⟨its2,jo,p2,_⟩:=I.list hq2
  have hl:=rv.length
  have nP:∀c∈[z,TO,i1,i2],fi X pins H c:=fun c hc=>hf c (by
   have hc':c=z∨c=TO∨c=i1∨c=i2:=by simpa using hc
   rcases hc' with q | q | q | q<;>simp[q])
  exact Aq (I.ok.hd hc) D hz hTI hTO h1 h2 (show s.heap.IsTuple a its.toArray from p) p2.isList (by simp;omega) fun h' kk=>
   ⟨rfl,I.rL (t':=s.toks) (ch:=[z,TO,i1,i2]) nP (fun c o hc q=>kk c o (fun e=>hc (by simp[e])) (fun e=>hc (by simp[e])) (fun e=>hc (by simp[e])) (fun e=>hc (by simp[e])) q)⟩
 self:=fun _ _ _ _ _ st h=>wpAny_pyIter_zip st.1 h
def Ny (K:PySem.W.Frag) (ta:TA):TI:=fun σ H R=>ta σ H fun vs H1=>∃a b,vs=[.ref a,.ref b]∧(∃xs,aW K H1 a xs)∧(∃ys,a_ K H1 b ys)∧R (EX K a b) H1
theorem HX {X:Cx} {elts:List Expr} {x1} {tpos:Pos} {a b:Expr} {ta:TA} {p pos:Pos} (hg:Gl X "zip") (hm:X.mg "zip"=none) (ha:PA X [a,b] ta)
  (hs:starEach [a,b] X.env=[(false,eval a X.env),(false,eval b X.env)]:=by rfl) (hs2:starEach [b] X.env=[(false,eval b X.env)]:=by rfl):
  PI X (.Tuple elts x1 tpos) (.Call (.Name "zip" p) [a,b] [] pos) (Ny X.K ta):=by
 intro pins s σ H R I h
 refine Call_ (gi I hg hm boot_zip (PyProof.Rows.callWith_type1 (aE (ha pos pins s σ H _ I h) fun us s1 ⟨vs,H1,I1,r1,q1⟩=>?_) (by rw[hs,hs2]) (by rw[hs2];rfl)))
 obtain⟨l1,l2,e,⟨xs,hq⟩,⟨ys,hq2⟩,q⟩:=q1
 subst e
 cases r1 with
 | cons r rr=>
  cases rr with
  | cons r' rr=>
   cases rr
   cases r
   cases r'
   obtain⟨its,rv,pl,_⟩:=I1.tuple hq
   obtain⟨its2,jo,tZ,_⟩:=I1.list hq2
   have a1:l1<s1.heap.objs.size:=by obtain⟨_,e,_⟩:=(show s1.heap.IsTuple l1 its.toArray from pl);exact Heap.lt_size e
   have a2:l2<s1.heap.objs.size:=by obtain⟨_,e,_⟩:=tZ.isList;exact Heap.lt_size e
   refine Cs (show s1.heap.IsTuple l1 its.toArray from pl) tZ.isList fun h' hz hTI hTO hi1 hi2 kk=>?_
   have I2:Inv X pins σ H1 {s1 with heap:=h'}:=I1.kept (t':=s1.toks) kk
   refine wpAny_pyIter_zip hz ?_
   refine⟨s1.heap.objs.size+4,[s1.heap.objs.size+4,s1.heap.objs.size+3,s1.heap.objs.size,s1.heap.objs.size+1,s1.heap.objs.size+2],_,_,H1,rfl,I2,Ct l1 l2 _ _ _ _ _ (zipApart_new a1 a2),⟨hz,hTI,⟨_,_,hTO⟩,hi1,hi2⟩,fun c hc=>?_,q⟩
   have hle:s1.heap.objs.size≤c:=by
    have hc':c=s1.heap.objs.size+4∨c=s1.heap.objs.size+3∨c=s1.heap.objs.size∨c=s1.heap.objs.size+1∨c=s1.heap.objs.size+2:=by simpa using hc
    rcases hc' with q | q | q | q | q<;>(rw[q];first | exact Nat.le_add_right _ _ | exact Nat.le_refl _)
   exact I1.jc hle (I1.hok.fresh hle)
theorem Cu {K:PySem.W.Frag} {a b:Addr} {xs ys:List V} {g:TG} {tt:TT} {te:TE} {D:Addr} {σ:St} {H:Hp} {R:Hp→Prop} (Pv:Nat→St→Hp→Prop) (hlen:xs.length=ys.length) (h0:Pv 0 σ H) (hl:∀i σ H,i≤xs.length→Pv i σ H→aW K H a xs∧a_ K H b ys)
  (hs:∀i x y p σ H,xs[i]? =some x→ys[i]? =some y→Pv i σ H→H p=none→g (.ref p) σ (upd H p (.tup [x,y])) fun σ2 H2=>tt σ2 H2 fun b H3=>if b=true then te σ2 H3 fun y H4=>∃ys,H4 D=some (.lst ys)∧ys.length<sizeLine∧Pv (i+1) σ2 (upd H4 D (.lst (ys++[y]))) else Pv (i+1) σ2 H3)
  (hd:∀σ H,Pv xs.length σ H→R H):md (EX K a b) g tt te D σ H R:=by
 refine⟨fun i m σ H=>m=xs.length-i∧i≤xs.length∧Pv i σ H,⟨xs.length,by simp,Nat.zero_le _,h0⟩,?_⟩
 rintro i m σ H ⟨rfl,hi,p⟩
 obtain⟨q1,q2⟩:=hl i σ H hi p
 by_cases hlt:i<xs.length
 ·refine .inr ⟨⟨xs,ys,xs[i],ys[i]'(by omega),q1,q2,by simp[hlt],by simp[hlen▸hlt]⟩,Pv (i+1),fun σ' H' p'=>⟨xs.length-(i+1),by omega,rfl,hlt,p'⟩,fun v H' y=>?_⟩
  obtain⟨x,y,p',e1,e2,e3,rfl,rfl⟩:=y
  exact hs i x y p' σ H (e1 xs q1) (e2 ys q2) p e3
 ·have e:i=xs.length:=by omega
  subst e
  exact .inl ⟨⟨xs,ys,q1,q2,Nat.le_refl _⟩,hd σ H p⟩
end L2
namespace My
open PySem L2
def top (i:Nat):Stmt:=PySem.Challenge.pw_figurejudge_k33_same_and_less_by_sums.main.body.getD i (.Pass ⟨0,0,0,0⟩)
abbrev fz:Stmt:=top 1
abbrev cL:Stmt:=top 2
abbrev fB:Stmt:=top 4
abbrev bC:Stmt:=top 6
abbrev dZ:Stmt:=top 7
abbrev cM:Stmt:=top 11
abbrev df:Stmt:=top 12
abbrev cA:Stmt:=top 13
abbrev cm:Stmt:=top 14
abbrev dg:Stmt:=top 15
abbrev cB:Stmt:=top 16
abbrev d_:Stmt:=top 17
abbrev eO:Stmt:=top 19
abbrev gR:Stmt:=top 20
abbrev cN:Stmt:=top 21
abbrev cO:Stmt:=top 22
abbrev dv:Stmt:=top 23
abbrev bz:Stmt:=top 24
abbrev bA:Stmt:=top 25
abbrev fC:Stmt:=top 26
abbrev gn:Stmt:=top 27
abbrev bY:Stmt:=top 28
abbrev bQ:Stmt:=top 29
abbrev dw:Stmt:=top 30
abbrev cq:Stmt:=top 31
abbrev gT:Stmt:=top 33
abbrev iy:Stmt:=top 34
abbrev gZ:Stmt:=top 35
abbrev d7:Stmt:=top 36
abbrev g_:Stmt:=top 37
abbrev gU:Stmt:=top 38
abbrev fD:Stmt:=top 39
abbrev gV:Stmt:=top 40
abbrev eP:Stmt:=top 41
abbrev iz:Stmt:=top 42
abbrev fR:Stmt:=top 43
set_option genInjectivity false in
set_option genSizeOf false in
structure bR where
 jR:Addr
 mV:FuncData
 gA:Addr
 iA:FuncData
 jS:Addr
 mW:FuncData
 hG:Addr
 gB:FuncData
 wW:Addr
 hJ:Addr
 jf:FuncData
 dA:Addr
 d4:FuncData
 fE:Addr
 gC:FuncData
 dh:Addr
 dS:FuncData
 dH:Addr
 eQ:FuncData
 fF:Addr
 gD:FuncData
 di:Addr
 dU:FuncData
 fG:Addr
 gE:FuncData
 jv:Addr
 kz:FuncData
 mq:Addr
 nT:FuncData
 gF:Addr
 iB:FuncData
 gG:Addr
 iC:FuncData
 eV:Addr
 fS:FuncData
 cP:Addr
 iD:FuncData
 eX:Addr
 bN:Addr
 cQ:Addr
 iE:FuncData
 eY:Addr
 bO:Addr
 jT:Addr
 mX:FuncData
 kB:Addr
 nV:FuncData
 gH:Addr
 iF:FuncData
 mY:Addr
 eZ:Addr
 fU:Addr
 hU:FuncData
 lF:Addr
 d5:Addr
 gJ:Addr
 iG:FuncData
 i_:Addr
 hV:FuncData
 Cv:Addr
 mr:Addr
 nW:FuncData
 mx:Addr
 nX:FuncData
 kc:Addr
 my:FuncData
 kd:Addr
 mz:FuncData
 ke:Addr
 mB:FuncData
 mC:Addr
 nY:FuncData
 kf:Addr
 mD:FuncData
 mE:Addr
 n_:FuncData
 jw:Addr
 kD:FuncData
 mF:Addr
 n8:FuncData
 Au:Addr
 Cw:FuncData
structure Txt (K:PySem.W.Frag) (mg:Str→Option Value) (a:bR):Prop where
 J_:cD K "figures_of" "figures_of" fz a.jR a.mV
 J7:mg "figures_of"=some (.ref a.jR)
 J8:PySem.W.keepIn K (.ref a.jR)=true
 J9:Binds K a.mV ["base","number"] []
 uR:cD K "all_letters" "all_letters" cL a.gA a.iA
 mZ:mg "all_letters"=some (.ref a.gA)
 m_:PySem.W.keepIn K (.ref a.gA)=true
 m3:Binds K a.iA ["base","many"] []
 J':cD K "room_after" "room_after" fB a.jS a.mW
 Ka:mg "room_after"=some (.ref a.jS)
 Kb:PySem.W.keepIn K (.ref a.jS)=true
 Kc:Binds K a.mW ["moves","room","figures"] []
 wX:jP K "grown_from" "grown_from" bC a.hG a.gB (.ref a.wW)
 wY:mg "grown_from"=some (.ref a.hG)
 wZ:PySem.W.keepIn K (.ref a.hG)=true
 w_:Binds K a.gB ["first","many","onward","is_yes","most"] []
 Kd:∃t,Binds K a.gB ["first","many","onward","is_yes","most"] [.int 2000 t]
 xa:cD K "machine_of" "machine_of" dZ a.hJ a.jf
 xb:mg "machine_of"=some (.ref a.hJ)
 xc:PySem.W.keepIn K (.ref a.hJ)=true
 xf:Binds K a.jf ["base","names","growth","most"] []
 uS:cD K "inner_parts" "inner_parts" cM a.dA a.d4
 m4:mg "inner_parts"=some (.ref a.dA)
 m5:PySem.W.keepIn K (.ref a.dA)=true
 m6:Binds K a.d4 ["saying"] []
 xg:cD K "term_names" "term_names" df a.fE a.gC
 xh:mg "term_names"=some (.ref a.fE)
 xi:PySem.W.keepIn K (.ref a.fE)=true
 xj:Binds K a.gC ["saying"] []
 pI:cD K "parts_in_order" "parts_in_order" cA a.dh a.dS
 pJ:mg "parts_in_order"=some (.ref a.dh)
 pK:PySem.W.keepIn K (.ref a.dh)=true
 pL:Binds K a.dS ["saying"] []
 qz:cD K "told_of_parts" "told_of_parts" cm a.dH a.eQ
 qA:mg "told_of_parts"=some (.ref a.dH)
 qB:PySem.W.keepIn K (.ref a.dH)=true
 qC:Binds K a.eQ ["told","place","saying"] []
 xk:cD K "names_over" "names_over" dg a.fF a.gD
 xl:mg "names_over"=some (.ref a.fF)
 xm:PySem.W.keepIn K (.ref a.fF)=true
 xn:Binds K a.gD ["saying","inner"] []
 pM:cD K "names_by_place" "names_by_place" cB a.di a.dU
 pN:mg "names_by_place"=some (.ref a.di)
 pO:PySem.W.keepIn K (.ref a.di)=true
 pP:Binds K a.dU ["saying"] []
 xo:cD K "free_names" "free_names" d_ a.fG a.gE
 xp:mg "free_names"=some (.ref a.fG)
 xq:PySem.W.keepIn K (.ref a.fG)=true
 xr:Binds K a.gE ["saying"] []
 Av:cD K "times_of" "times_of" eO a.jv a.kz
 qD:mg "times_of"=some (.ref a.jv)
 qE:PySem.W.keepIn K (.ref a.jv)=true
 qF:Binds K a.kz ["term","names"] []
 EY:cD K "sum_of" "sum_of" gR a.mq a.nT
 EZ:mg "sum_of"=some (.ref a.mq)
 E_:PySem.W.keepIn K (.ref a.mq)=true
 E1:Binds K a.nT ["letter","times"] []
 uT:cD K "letter_sums" "letter_sums" cN a.gF a.iB
 m7:mg "letter_sums"=some (.ref a.gF)
 m8:PySem.W.keepIn K (.ref a.gF)=true
 m9:Binds K a.iB ["base","times"] []
 uV:cD K "differences" "differences" cO a.gG a.iC
 ng:mg "differences"=some (.ref a.gG)
 nh:PySem.W.keepIn K (.ref a.gG)=true
 ni:Binds K a.iC ["saying","names"] []
 uW:cD K "same_onward" "same_onward" dv a.eV a.fS
 uX:mg "same_onward"=some (.ref a.eV)
 uY:PySem.W.keepIn K (.ref a.eV)=true
 uZ:Binds K a.fS ["base","room","total"] []
 u_:jP K "same_growth" "same_growth" bz a.cP a.iD (.ref a.eX)
 nj:PySem.W.codeHdIn K a.eX a.bN=true
 u0:mg "same_growth"=some (.ref a.cP)
 u3:PySem.W.keepIn K (.ref a.cP)=true
 u4:Binds K a.iD ["base","names","saying"] []
 u5:jP K "less_growth" "less_growth" bA a.cQ a.iE (.ref a.eY)
 nq:PySem.W.codeHdIn K a.eY a.bO=true
 u6:mg "less_growth"=some (.ref a.cQ)
 u9:PySem.W.keepIn K (.ref a.cQ)=true
 vb:Binds K a.iE ["base","names","saying"] []
 Ke:cD K "row_onward" "row_onward" fC a.jT a.mX
 Kf:mg "row_onward"=some (.ref a.jT)
 Kg:PySem.W.keepIn K (.ref a.jT)=true
 Kh:Binds K a.mX ["base","row","pair","total"] []
 M1:cD K "sign_from" "sign_from" gn a.kB a.nV
 M3:mg "sign_from"=some (.ref a.kB)
 M4:PySem.W.keepIn K (.ref a.kB)=true
 M5:Binds K a.nV ["base","row","pair"] []
 vd:jP K "sign_growth" "sign_growth" bY a.gH a.iF (.ref a.mY)
 Iy:PySem.W.codeHdIn K a.mY a.eZ=true
 ve:mg "sign_growth"=some (.ref a.gH)
 vf:PySem.W.keepIn K (.ref a.gH)=true
 vg:Binds K a.iF ["world","names","saying"] []
 rR:jP K "alike_growth" "alike_growth" bQ a.fU a.hU (.ref a.lF)
 HY:PySem.W.codeHdIn K a.lF a.d5=true
 rS:mg "alike_growth"=some (.ref a.fU)
 rV:PySem.W.keepIn K (.ref a.fU)=true
 rW:Binds K a.hU ["world","names","saying"] []
 vh:cD K "atom_growth" "atom_growth" dw a.gJ a.iG
 vi:mg "atom_growth"=some (.ref a.gJ)
 vj:PySem.W.keepIn K (.ref a.gJ)=true
 vm:Binds K a.iG ["world","names","saying"] []
 Cy:jP K "atom_of" "atom_of" cq a.i_ a.hV (.ref a.Cv)
 um:mg "atom_of"=some (.ref a.i_)
 uo:PySem.W.keepIn K (.ref a.i_)=true
 Oz:Binds K a.hV ["world","saying","most"] []
 Cz:∃t,Binds K a.hV ["world","saying","most"] [.int 2000 t]
 E2:cD K "_law_feed" "_law_feed" gT a.mr a.nW
 E3:mg "_law_feed"=some (.ref a.mr)
 E4:PySem.W.keepIn K (.ref a.mr)=true
 E5:Binds K a.nW ["_law_script"] []
 E6:cD K "_law_draw" "_law_draw" iy a.mx a.nX
 bT:mg "_law_draw"=some (.ref a.mx)
 bU:PySem.W.keepIn K (.ref a.mx)=true
 bV:Binds K a.nX ["_law_feed_here","_law_many"] []
 CA:cD K "_law_after" "_law_after" gZ a.kc a.my
 CB:mg "_law_after"=some (.ref a.kc)
 CD:PySem.W.keepIn K (.ref a.kc)=true
 CF:Binds K a.my ["_law_word"] []
 CG:cD K "_law_names" "_law_names" d7 a.kd a.mz
 CH:mg "_law_names"=some (.ref a.kd)
 CI:PySem.W.keepIn K (.ref a.kd)=true
 CJ:Binds K a.mz ["_law_feed_here","_law_many"] []
 CK:cD K "_law_great" "_law_great" g_ a.ke a.mB
 CL:mg "_law_great"=some (.ref a.ke)
 CM:PySem.W.keepIn K (.ref a.ke)=true
 CN:Binds K a.mB ["_law_feed_here"] []
 E7:cD K "_law_term" "_law_term" gU a.mC a.nY
 xt:mg "_law_term"=some (.ref a.mC)
 xu:PySem.W.keepIn K (.ref a.mC)=true
 xv:Binds K a.nY ["_law_feed_here","_law_names_here"] []
 CO:cD K "_law_worth" "_law_worth" fD a.kf a.mD
 kg:mg "_law_worth"=some (.ref a.kf)
 kh:PySem.W.keepIn K (.ref a.kf)=true
 ki:Binds K a.mD ["_law_term_here","_law_values"] []
 E8:cD K "_law_says" "_law_says" gV a.mE a.n_
 xx:mg "_law_says"=some (.ref a.mE)
 xy:PySem.W.keepIn K (.ref a.mE)=true
 xA:Binds K a.n_ ["_law_base","_law_machine","_law_numbers"] []
 Aw:cD K "_law_formed" "_law_formed" eP a.jw a.kD
 qG:mg "_law_formed"=some (.ref a.jw)
 qH:PySem.W.keepIn K (.ref a.jw)=true
 qI:Binds K a.kD ["_law_base","_law_machine","_law_names_here"] []
 E9:cD K "_law_near" "_law_near" iz a.mF a.n8
 Fb:mg "_law_near"=some (.ref a.mF)
 Fc:PySem.W.keepIn K (.ref a.mF)=true
 Fd:Binds K a.n8 ["_law_feed_here","_law_one","_law_other","_law_values"] []
 Nz:cD K "law" "law" fR a.Au a.Cw
 Yw:mg "law"=some (.ref a.Au)
 fV:mg "range"=none
 d6:mg "tuple"=none
 fj:mg "len"=none
 CP:mg "list"=none
 jU:mg "dict"=none
 Ax:mg "sum"=none
 Ay:mg "zip"=none
 yF:mg "enumerate"=none
 Az:mg "reversed"=none
 xB:mg "sorted"=none
 Gp:mg "abs"=none
 CQ:mg "bool"=none
 NA:mg "set"=none
 fH:mg "isinstance"=none
 NB:mg "max"=none
 NC:mg "all"=none
 tne01:a.bN≠a.bO
 tne02:a.bN≠a.eZ
 tne03:a.bN≠a.d5
 tne12:a.bO≠a.eZ
 tne13:a.bO≠a.d5
 tne23:a.eZ≠a.d5
theorem rX {c:TT} {tb:TS} {D:Ends} {σ:St} {H:Hp} (W:Nat→St→Hp→Prop) (h0:∃m,W m σ H)
  (hs:∀m σ H,W m σ H→c σ H fun b H1=>if b=true then tb {D with nx:=fun σ' H'=>∃m',m'<m∧W m' σ' H',ct:=fun σ' H'=>∃m',m'<m∧W m' σ' H',bk:=D.nx} σ H1 else D.nx σ H1)
  (mono:∀σ H Q Q',(∀b H1,Q b H1→Q' b H1)→c σ H Q→c σ H Q'):nE c tb D σ H:=by
 refine⟨W,h0,fun m σ H w=>mono σ H _ _ (fun b H1 q=>?_) (hs m σ H w)⟩
 cases b with
 | true=>exact⟨_,fun σ' H' p=>p,q⟩
 | false=>exact q
theorem iP {H:Hp} {D:Addr} {kvs:List (Key×V)} {x:Str} {v:V} (h:Rd H D (.dK kvs)) (e:aR kvs (Sum.inr x)=some v):lV H D (.str x) (some v):=.inl ⟨kvs,Sum.inr x,h,rfl,e.symm⟩
def fd (L:Addr) (n sd:Int):List (Key×V):=[(Sum.inr ("left":Str),.ref L),(Sum.inr ("number":Str),.int n),(Sum.inr ("seed":Str),.int sd)]
theorem zh (L:Addr) (n sd:Int):aR (fd L n sd) (Sum.inr ("left":Str))=some (.ref L):=bG rfl
theorem i3 (L:Addr) (n sd:Int):aR (fd L n sd) (Sum.inr ("number":Str))=some (.int n):=by
 unfold fd
 rw[bw (show ¬((Sum.inr ("left":Str):Key)=Sum.inr ("number":Str)) by decide+kernel),bG rfl]
theorem rY (L:Addr) (n sd:Int):aR (fd L n sd) (Sum.inr ("seed":Str))=some (.int sd):=by
 unfold fd
 rw[bw (show ¬((Sum.inr ("left":Str):Key)=Sum.inr ("seed":Str)) by decide+kernel),bw (show ¬((Sum.inr ("number":Str):Key)=Sum.inr ("seed":Str)) by decide+kernel),bG rfl]
theorem zi (L:Addr) (n sd v:Int):putK (fd L n sd) (Sum.inr ("number":Str)) (.int v)=fd L v sd:=by
 unfold putK fd
 have a1:¬((Sum.inr ("left":Str):Key)=Sum.inr ("number":Str)):=by decide+kernel
 have a2:¬((Sum.inr ("seed":Str):Key)=Sum.inr ("number":Str)):=by decide+kernel
 simp only[List.any_cons,List.any_nil,List.map_cons,List.map_nil,a1,a2,if_false,if_true,decide_true,decide_false,Bool.true_or,Bool.or_true]
theorem HZ (L:Addr) (n sd v:Int):putK (fd L n sd) (Sum.inr ("seed":Str)) (.int v)=fd L n v:=by
 unfold putK fd
 have a1:¬((Sum.inr ("left":Str):Key)=Sum.inr ("seed":Str)):=by decide+kernel
 have a2:¬((Sum.inr ("number":Str):Key)=Sum.inr ("seed":Str)):=by decide+kernel
 simp only[List.any_cons,List.any_nil,List.map_cons,List.map_nil,a1,a2,if_false,if_true,decide_true,decide_false,Bool.true_or,Bool.or_true]
structure bD (H:Hp) (F L:Addr):Prop where
 ex:∃(ms:List Int) (n sd:Int),H F=some (.dK (fd L n sd))∧H L=some (.lst (ms.map V.int))∧0≤n∧(∀m∈ms,0≤m)∧0≤sd∧sd<2147483648
theorem bD.same {H H':Hp} {F L:Addr} (h:bD H F L) (s:Same H H'):bD H' F L:=by
 obtain⟨ms,n,sd,a,b,c⟩:=h.ex
 exact⟨ms,n,sd,s _ _ a,s _ _ b,c⟩
def Ki:Sp:=fun vs H Q _=>∃(F L:Addr) (m:Nat),vs=[.ref F,.int m]∧bD H F L∧0<m∧m<2 ^ 1000∧∀(r:Nat) (H':Hp),r<m→cW F L H H'→bD H' F L→Q (.int (r:Nat)) H'
section
variable {P:Program} {w:World} {K:PySem.W.Frag} {mg:Str→Option Value} {base:Heap}
theorem kj:aN ["_law_feed_here","_law_many","_law_found","_law_one","_law_two"] ["_law_feed_here","_law_many"] (ag iy):=⟨rfl,rfl,rfl,by decide+kernel,rfl,by decide+kernel,by decide+kernel⟩
theorem i4 {a:bR} (T:Txt K mg a):aS P w K mg base bp 1 a.mx a.nX ["_law_feed_here","_law_many"] Ki:=by
 refine T.E6.ok kj (fun vs H Q E h=>?_) (fun cdv A outer s H vs Q E hr h=>?_)
 ·obtain⟨F,L,m,rfl,_⟩:=h
  rfl
 ·obtain⟨F,L,many,rfl,hf,hm0,hm1,k⟩:=h
  refine⟨_,(ai (jG PassesOwn.never (PW.pt (IJ (bh lR (cH (bP hr) (pv 0) bo (fun _ _=>rfl)) aj (bB _)) (Ho (bh (BN K hr.units) (cH (bP hr) (pv 0) bo (fun _ _=>rfl)) (dc ah) (bB _)))))
   (aq (kY (bP hr) (pv 0) bo (By PySem.F.plainAttrs_list PySem.F.slot_list_pop PySem.F.type_list_pop Bz (cH (bP hr) (pv 0) bo (fun _ _=>rfl))) rfl)))
  (ai (dB (bh vH (cH (bP hr) (pv 0) bo (fun _ _=>rfl)) aj (bB _))
   (ai (ay (i:=2) kj.nd rfl (Or.inl rfl) (aG fg (cH (bP hr) (pv 0) bo (fun _ _=>rfl)) (pv 1)))
   (ai (kY (bP hr) (pv 0) bo (aG il (cH (bP hr) (pv 0) bo (fun _ _=>rfl)) (pv 1)) rfl)
   (aq (aQ (pv 2)))))
   b_)
  (ai (ay (i:=3) kj.nd rfl (Or.inl rfl) (aG fg (aG dY (aG ft (cH (bP hr) (pv 0) bo (fun _ _=>rfl)) aj) aj) aj))
  (ai (kY (bP hr) (pv 0) bo (aG fg (aG dY (aG ft (pv 3) aj) aj) aj) rfl)
  (ai (ay (i:=4) kj.nd rfl (Or.inl rfl) (aG fg (aG ft (cH (bP hr) (pv 0) bo (fun _ _=>rfl)) (cH (bP hr) (pv 0) bo (fun _ _=>rfl))) aj))
  (aq (aQ (aG fg (aG dY (aG ft (aG fg (aG ft (pv 3) (pv 3)) aj) aj) (pv 4)) (pv 1))))))))),?_⟩
  obtain⟨Vr,n0,Vs,e0,l0,hn0,QS,hs0,hs1⟩:=hf.ex
  have zj:F≠L:=dR e0 l0 (fun z=>nomatch z)
  have put:∀{H':Hp} {kv:List (Key×V)},H' F=some (.dK kv)→kv.length=3→kv.length<sizeLine:=fun _ z=>by rw[z];decide
  refine rX (fun m σ H'=>∃(ms:List Int) (n sd:Int),m=ms.length∧σ=[some (.ref F),some (.int (many:Nat)),none,none,none]∧cW F L H H'∧H' F=some (.dK (fd L n sd))∧H' L=some (.lst (ms.map V.int))∧0≤n∧(∀m∈ms,0≤m)∧0≤sd∧sd<2147483648)
   ⟨_,Vr,n0,Vs,rfl,rfl,fun b o e _ _=>e,e0,l0,hn0,QS,hs0,hs1⟩ ?_ ?_
  ·rintro m σ H1 ⟨ms,n,sd,rfl,rfl,k1,e1,l1,hn,hms,hs,hs'⟩
   have Fe:∀kv:List (Key×V),kv.length=3→kv.length<sizeLine:=fun kv z=>by rw[z];decide
   refine⟨_,rfl,F,.int n,rfl,iP (.inl e1) (i3 ..),rfl,_,rfl,?_⟩
   refine cj (fun hz=>?_) (fun hz=>?_)
   ·have hz':n=0:=V.int.inj (of_decide_eq_true hz)
    subst hz'
    refine⟨_,rfl,F,.ref L,rfl,iP (.inl e1) (zh ..),by decide,fun E hE=>?_⟩
    have sE:=Same.new (o:=.lst []) hE
    have e2:=sE _ _ e1
    have l2:=sE _ _ l1
    have k2:cW F L H (upd H1 E (.lst [])):=k1.trans sE.kb2
    refine⟨⟨.lst (ms.map .int),.lst [],oA (.of l2) (nL ms),oA (.of af) dP,rfl,rfl,?dep,_,rfl,?_⟩,.lst (ms.map .int),.lst [],oA (.of l2) (nL ms),oA (.of af) dP,.inr ⟨_,_,rfl,rfl⟩⟩
    case dep=>rw[Dt.dep,tW];decide
    have eb:(if true=true then !(Dt.lst (ms.map .int)).beq (.lst []) else(Dt.lst (ms.map .int)).beq (.lst []))=decide (ms≠[]):=by
     rw[if_pos rfl,Dt.beq]
     cases ms with
     | nil=>simp[Dt.eE]
     | cons y ys=>simp[Dt.eE]
    rw[eb]
    generalize upd H1 E (.lst [])=H2 at e2 l2 k2 ⊢
    refine cj (fun hne=>?_) (fun hem=>?_)
    ·have hne':ms≠[]:=of_decide_eq_true hne
     have hl:0<ms.length:=List.length_pos_iff.mpr hne'
     obtain⟨x,hx⟩:∃x,ms[ms.length-1]? =some x:=⟨_,List.getElem?_eq_getElem (by omega)⟩
     have hx0:=hms x (List.mem_of_getElem? hx)
     refine⟨_,rfl,F,.ref L,rfl,iP (.inl e2) (zh ..),.inl ⟨rfl,_,.of l2⟩,L,_,.int x,rfl,rfl,l2,by rw[List.length_map,List.getElem?_map,hx];rfl,?_⟩
     have e3:(upd H2 L (.lst (ms.map V.int).dropLast)) F=some (.dK (fd L 0 sd)):=by rw[au zj];exact e2
     refine⟨_,rfl,F,_,rfl,kq.k (k:=Sum.inr ("number":Str)) e3 (Fe _ rfl),?_⟩
     refine⟨ms.dropLast.length,by rw[List.length_dropLast];omega,ms.dropLast,x,sd,rfl,rfl,?_,?_,?_,hx0,fun m hm=>hms m (List.dropLast_subset _ hm),hs,hs'⟩
     ·exact k2.trans ((KB.r KB.write).trans (KB.l KB.write))
     ·rw[af,zi]
     ·rw[au zj.symm,af,List.map_dropLast]
    ·
     refine⟨_,rfl,F,.int 0,rfl,iP (.inl e2) (i3 ..),_,_,rfl,rfl,_,rfl,?_⟩
     refine cj (fun z=>absurd (of_decide_eq_true z) (by decide)) (fun _=>?_)
     refine⟨_,rfl,F,.int sd,rfl,iP (.inl e2) (rY ..),_,_,rfl,rfl,.inr (by constructor<;>decide),_,_,rfl,rfl,_,_,rfl,rfl,cpos (by decide),?_⟩
     have o0:0≤(sd*48271+7919) % 2147483647:=Int.emod_nonneg _ (by decide)
     have o1:(sd*48271+7919) % 2147483647<2147483647:=Int.emod_lt_of_pos _ (by decide)
     dsimp only[aL]
     generalize (sd*48271+7919) % 2147483647=one at o0 o1 ⊢
     refine⟨_,rfl,_,_,rfl,rfl,.inr (by constructor<;>decide),_,_,rfl,rfl,_,_,rfl,rfl,cpos (by decide),_,rfl,F,_,rfl,kq.k (k:=Sum.inr ("seed":Str)) e2 (Fe _ rfl),?_⟩
     have t0:0≤(one*40692+104729) % 2147483399:=Int.emod_nonneg _ (by decide)
     have t1:(one*40692+104729) % 2147483399<2147483399:=Int.emod_lt_of_pos _ (by decide)
     rw[HZ]
     generalize (one*40692+104729) % 2147483399=s2 at t0 t1 ⊢
     have e3:(upd H2 F (.dK (fd L 0 s2))) F=some (.dK (fd L 0 s2)):=af
     have l3:(upd H2 F (.dK (fd L 0 s2))) L=some (.lst (ms.map V.int)):=by rw[au zj.symm];exact l2
     have k3:cW F L H (upd H2 F (.dK (fd L 0 s2))):=k2.trans (KB.l KB.write)
     generalize upd H2 F (.dK (fd L 0 s2))=H3 at e3 l3 k3 ⊢
     refine⟨_,rfl,F,.int s2,rfl,iP (.inl e3) (rY ..),_,rfl,F,.int s2,rfl,iP (.inl e3) (rY ..),_,_,rfl,rfl,.inl (by constructor<;>omega),_,_,rfl,rfl,cpos (by decide),?_⟩
     refine⟨_,rfl,_,rfl,_,_,rfl,rfl,.inl (by constructor<;>omega),_,_,rfl,rfl,cpos (by decide),_,_,rfl,rfl,.inr (by constructor<;>decide),_,rfl,_,_,rfl,rfl,_,rfl,_,_,rfl,rfl,cpos (by omega),?_⟩
     have f0:0≤(one*one % 2147483629*2147483563+s2*s2 % 2147483563) % (many:Int):=Int.emod_nonneg _ (by omega)
     have f1:(one*one % 2147483629*2147483563+s2*s2 % 2147483563) % (many:Int)<(many:Int):=Int.emod_lt_of_pos _ (by omega)
     obtain⟨r,hr'⟩:∃r:Nat,(one*one % 2147483629*2147483563+s2*s2 % 2147483563) % (many:Int)=(r:Int):=⟨_,(Int.toNat_of_nonneg f0).symm⟩
     have:=k r H3 (by omega) k3 ⟨ms,0,s2,e3,l3,Int.le_refl _,hms,t0,by omega⟩
     rw[←hr'] at this
     exact this
   ·
    have hn0':0<n:=by
     have:n≠0:=fun z=>hz (by rw[z];simp)
     omega
    refine gb ⟨_,rfl,F,.int n,rfl,iP (.inl e1) (i3 ..),_,_,rfl,rfl,_,rfl,?_⟩
    refine cj (fun _=>?_) (fun z=>absurd (decide_eq_true hn0') z)
    refine⟨_,rfl,F,.int n,rfl,iP (.inl e1) (i3 ..),_,rfl,_,_,rfl,rfl,cpos (by omega),?_⟩
    refine⟨_,rfl,F,.int n,rfl,iP (.inl e1) (i3 ..),_,rfl,_,_,rfl,rfl,⟨by omega,?log⟩,_,rfl,F,_,rfl,kq.k (k:=Sum.inr ("number":Str)) e1 (Fe _ rfl),?_⟩
    case log=>
     rw[Int.natAbs_natCast,Nat.log2_lt (by omega)]
     exact Nat.lt_of_lt_of_le hm1 (Nat.pow_le_pow_right (by decide) (by decide))
    refine⟨_,rfl,?_⟩
    have f0:0≤n % (many:Int):=Int.emod_nonneg _ (by omega)
    have f1:n % (many:Int)<(many:Int):=Int.emod_lt_of_pos _ (by omega)
    obtain⟨r,hr'⟩:∃r:Nat,n % (many:Int)=(r:Int):=⟨_,(Int.toNat_of_nonneg f0).symm⟩
    rw[zi]
    have:=k r (upd H1 F (.dK (fd L (n / (many:Int)) sd))) (by omega) (k1.trans (KB.l KB.write)) ⟨ms,n / (many:Int),sd,af,by rw[au zj.symm];exact l1,Int.ediv_nonneg hn (by omega),hms,hs,hs'⟩
    rw[←hr'] at this
    exact this
  ·rintro σ H Q Q' hQ ⟨v,e1,a,y,e2,e3,e4,b,e5,q⟩
   refine⟨v,e1,a,y,e2,e3,e4,b,e5,?_⟩
   revert q
   cases b with
   | false=>exact fun q=>hQ _ _ q
   | true=>
    rintro⟨v,e1,a,y,e2,e3,z,q⟩
    refine⟨v,e1,a,y,e2,e3,z,fun p hp=>?_⟩
    obtain⟨⟨d,d',a1,a2,a3,a4,a5,b,a6,q⟩,z2⟩:=q p hp
    exact⟨⟨d,d',a1,a2,a3,a4,a5,b,a6,hQ _ _ q⟩,z2⟩
def Kj (K:PySem.W.Frag):Sp:=fun vs H Q _=>∃(a:Addr) (ns:List Int),vs=[.ref a]∧a_ K H a (ns.map V.int)∧ns.length≤63∧∀(F L:Addr) (H':Hp),H F=none→H L=none→Same H H'→bD H' F L→Q (.ref F) H'
def H_:Sp:=fun vs H Q _=>∃(F L:Addr),vs=[.ref F]∧bD H F L∧∀(r:Nat) (H':Hp),r<10 ^ 60→cW F L H H'→bD H' F L→Q (.int (r:Nat)) H'
theorem fW:aN ["_law_feed_here","_law_found","_law_k","_law_turn"] ["_law_feed_here"] (ag g_):=⟨rfl,rfl,rfl,by decide+kernel,rfl,by decide+kernel,by decide+kernel⟩
theorem AA {a:bR} (T:Txt K mg a):aS P w K mg base bp 2 a.ke a.mB ["_law_feed_here"] H_:=by
 have bE:=i4 (P:=P) (w:=w) (base:=base) T
 refine T.CK.ok fW (fun vs H Q E h=>?_) (fun cdv A outer s H vs Q E hr h=>?_)
 ·obtain⟨F,L,rfl,_⟩:=h
  rfl
 ·obtain⟨F,L,rfl,hf,k⟩:=h
  have bj:aO 1 _:=hr
  refine⟨_,(ai (dB (bh lR (az bE bj rfl T.bT T.bU T.bV .nil aJ (ae (pv 0) (ae aj ah))) aj (bB _))
   (aq (aQ (az bE bj rfl T.bT T.bU T.bV .nil aJ (ae (pv 0) (ae aj ah)))))
   b_)
  (ai (ay (i:=1) fW.nd rfl (Or.inl rfl) aj)
  (ai (cx PassesOwn.never rfl (dD rfl T.fV (ae (aG dY aj (az bE bj rfl T.bT T.bU T.bV .nil aJ (ae (pv 0) (ae aj ah)))) ah)) (aF (i:=2) fW.nd rfl (Or.inl rfl))
   (aq (ay (i:=1) fW.nd rfl (Or.inl rfl) (aG dY (aG ft (pv 1) (aG vV aj aj)) (az bE bj rfl T.bT T.bU T.bV .nil aJ (ae (pv 0) (ae (aG vV aj aj) ah)))))))
  (ai (cx PassesOwn.never rfl (dD rfl T.fV (ae (az bE bj rfl T.bT T.bU T.bV .nil aJ (ae (pv 0) (ae aj ah))) ah)) (aF (i:=3) fW.nd rfl (Or.inl rfl))
   (aq (ay (i:=1) fW.nd rfl (Or.inl rfl) (aG il (pv 1) aj))))
  (aq (aQ (pv 1))))))),?_⟩
  have p1:(3:Nat)<2 ^ 1000:=Nat.lt_of_lt_of_le (show 3<2 ^ 2 by decide) (Nat.pow_le_pow_right (by decide) (by decide))
  have Vt:(40:Nat)<2 ^ 1000:=Nat.lt_of_lt_of_le (show 40<2 ^ 6 by decide) (Nat.pow_le_pow_right (by decide) (by decide))
  have Vu:(18:Nat)<2 ^ 1000:=Nat.lt_of_lt_of_le (show 18<2 ^ 6 by decide) (Nat.pow_le_pow_right (by decide) (by decide))
  have pg:(10 ^ 18:Nat)<2 ^ 1000:=Nat.lt_of_lt_of_le (show(10 ^ 18:Nat)<2 ^ 60 by decide) (Nat.pow_le_pow_right (by decide) (by decide))
  refine⟨_,rfl,F,L,3,rfl,hf,by decide,p1,fun r H1 r1 k1 f1=>⟨rfl,_,rfl,?_⟩⟩
  refine cj (fun _=>?_) (fun _=>?_)
  ·exact⟨_,rfl,F,L,40,rfl,f1,by decide,Vt,fun q H2 q1 k2 f2=>k q H2 (Nat.lt_of_lt_of_le (show q<10 ^ 2 by omega) (Nat.pow_le_pow_right (by decide) (by decide))) (k1.trans k2) f2⟩
  ·refine⟨_,rfl,F,L,3,rfl,f1,by decide,p1,fun t H2 t1 k2 f2=>⟨_,_,rfl,rfl,_,rfl,by omega,by omega,iV (n:=(1+(t:Int)).toNat) (fun i σ H'=>∃(f:Nat) (v2:Option V),σ=[some (.ref F),some (.int (f:Nat)),v2,none]∧cW F L H2 H'∧bD H' F L∧f<(10 ^ 18) ^ i)
    ⟨0,none,rfl,fun b o e _ _=>e,f2,by simp⟩ ?_ ?_⟩⟩
   ·rintro i σ H3 hi ⟨f,v2,rfl,k3,f3,Kk⟩
    refine⟨_,rfl,_,_,rfl,rfl,⟨by decide,by decide,by decide⟩,_,_,rfl,rfl,.inr (by constructor<;>decide),_,rfl,_,_,rfl,rfl,⟨by decide,by decide,by decide⟩,F,L,10 ^ 18,rfl,f3,by decide,pg,fun q H4 q1 k4 f4=>⟨_,_,rfl,rfl,f*10 ^ 18+q,some (.int (0+(i:Int))),?_,k3.trans k4,f4,?_⟩⟩
    ·rw[Int.natCast_add,Int.natCast_mul];rfl
    ·have h1:(f+1)*10 ^ 18≤(10 ^ 18) ^ i*10 ^ 18:=Nat.mul_le_mul_right _ Kk
     rw[Nat.pow_succ (10 ^ 18) i]
     omega
   ·rintro σ H3 ⟨f,v2,rfl,k3,f3,Kk⟩
    have hb:f<10 ^ 60:=by
     have:(10 ^ 18:Nat) ^ (1+(t:Int)).toNat≤(10 ^ 18) ^ 3:=Nat.pow_le_pow_right (by decide) (by omega)
     exact Nat.lt_of_lt_of_le Kk (Nat.le_trans this (by decide))
    refine⟨_,rfl,F,L,18,rfl,f3,by decide,Vu,fun u H4 u1 k4 f4=>⟨_,rfl,by omega,by omega,iV (n:=(u:Int).toNat) (fun i σ H'=>∃(f:Nat) (v3:Option V),σ=[some (.ref F),some (.int (f:Nat)),v2,v3]∧cW F L H4 H'∧bD H' F L∧f<10 ^ 60)
     ⟨f,none,rfl,fun b o e _ _=>e,f4,hb⟩ ?_ ?_⟩⟩
    ·rintro i σ H5 hi ⟨g,v3,rfl,k5,f5,hg⟩
     refine⟨_,rfl,_,_,rfl,rfl,⟨by decide,by decide⟩,g / 10,some (.int (0+(i:Int))),?_,k5,f5,Nat.lt_of_le_of_lt (Nat.div_le_self _ _) hg⟩
     rw[Int.natCast_ediv];rfl
    ·rintro σ H5 ⟨g,v3,rfl,k5,f5,hg⟩
     exact⟨_,rfl,k g H5 hg (k1.trans (k2.trans (k3.trans (k4.trans k5)))) f5⟩
theorem Ia (ms:List Int) (n:Nat):ph (ms.map V.int) none (some (n:Int))=(ms.take n).map V.int:=by
 unfold ph
 rw[show HT.iW (ms.map V.int).length 0 none=0 from rfl,HT.Hs]
 rw[List.drop_zero,List.length_map,Nat.sub_zero,←List.map_take]
 congr 1
 by_cases h:n≤ms.length
 ·rw[Nat.min_eq_left h]
 ·rw[Nat.min_eq_right (by omega),List.take_of_length_le (Nat.le_refl _),List.take_of_length_le (by omega)]
theorem Ff (L:Addr) (n sd:Int):br [] (fd L n sd)=fd L n sd:=by
 have a1:¬((Sum.inr ("left":Str):Key)=Sum.inr ("number":Str)):=by decide+kernel
 have a2:¬((Sum.inr ("left":Str):Key)=Sum.inr ("seed":Str)):=by decide+kernel
 have a3:¬((Sum.inr ("number":Str):Key)=Sum.inr ("seed":Str)):=by decide+kernel
 unfold br fd
 simp only[List.foldl_cons,List.foldl_nil]
 rw[jJ _ px]
 rw[jJ _ (show aR ([]++[((Sum.inr ("left":Str):Key),V.ref L)]) (Sum.inr ("number":Str))=none from(bw a1).trans px)]
 rw[jJ _ (show aR ([]++[((Sum.inr ("left":Str):Key),V.ref L)]++[((Sum.inr ("number":Str):Key),V.int n)]) (Sum.inr ("seed":Str))=none from(bw a2).trans ((bw a3).trans px))]
 rfl
theorem i5:aN ["_law_script","_law_seed","_law_cell","_law_great_here"] ["_law_script"] (ag gT):=⟨rfl,rfl,rfl,by decide+kernel,rfl,by decide+kernel,by decide+kernel⟩
theorem CS {a:bR} (T:Txt K mg a):aS P w K mg base bp 1 a.mr a.nW ["_law_script"] (Kj K):=by
 refine T.E2.ok i5 (fun vs H Q E h=>?_) (fun cdv A outer s H vs Q E hr h=>?_)
 ·obtain⟨sa,ns,rfl,_⟩:=h
  rfl
 ·obtain⟨sa,ns,rfl,hS,hns,k⟩:=h
  refine⟨_,(ai (ay (i:=1) i5.nd rfl (Or.inl rfl) aj)
  (ai (cx PassesOwn.never rfl (du (pe (wt K) (pv 0) ik (kQ aj))) (aF (i:=2) i5.nd rfl (Or.inl rfl))
   (aq (ay (i:=1) i5.nd rfl (Or.inl rfl) (aG fg (aG dY (aG ft (pv 1) aj) (pv 2)) aj))))
  (ai (fO (i:=3) (aI.mk' (esc:=ag gT) (N:=["_law_script","_law_seed","_law_cell","_law_great_here"]) (own:=["_law_cell"]) (aM:=[]) (bH:=[]) rfl rfl (by decide+kernel)) rfl (du (pe (wt K) (pv 0) ik (kQ aj))) (fun _ _ _ _=>(aF (i:=0) (show List.Nodup (["_law_cell"]:List Str) by decide+kernel) rfl (Or.inl rfl))) (fun _ _ _ _=>(lZ (bh FW (aU vW (by rfl) T.Gp BL (ae (pv 0) ah)) (aG vV aj aj) (bB _)))) (fun _ _ _ _=>(aU vW (by rfl) T.Gp BL (ae (pv 0) ah))) i5.nd rfl rfl)
  (aq (aQ (HA (lW bo (HH K (pv 3) ik ik (kQ (FU Bl aj))) (lW bo aj (lW bo (pv 1) yW))) rfl rfl (fun z=>nomatch z) (by decide))))))),?_⟩
  have ec:ph (ns.map V.int) none (some (63:Int))=(ns.take 63).map V.int:=by rw[show(some (63:Int))=some ((63:Nat):Int) from rfl,Ia]
  dsimp only[nB,rB,tC,aL]
  refine⟨_,rfl,_,rfl,sa,_,rfl,hS,fun p hp=>?_⟩
  rw[ec]
  have sp:=Same.new (o:=.lst ((ns.take 63).map V.int)) hp
  refine⟨p,rfl,⟨_,.of af⟩,ig (xs:=(ns.take 63).map V.int) (fun i σ H'=>∃(sd:Int) (v2:Option V),σ=[some (.ref sa),some (.int sd),v2,none]∧H'=upd H p (.lst ((ns.take 63).map V.int))∧0≤sd∧sd<2147483648)
   ⟨7919,none,rfl,rfl,by decide,by decide⟩ (fun i σ H' _ ⟨_,_,_,e,_⟩=>by rw[e];exact .of af) ?_ ?_⟩
  ·rintro i x σ H1 hx ⟨sd,v2,rfl,rfl,h0,h1⟩
   obtain⟨c,rfl,_⟩:=iu hx
   refine⟨_,rfl,_,_,rfl,rfl,.inr (by constructor<;>decide),_,rfl,_,_,rfl,rfl,_,_,rfl,rfl,cpos (by decide),_,_,rfl,rfl,Int.emod_nonneg _ (by decide),?_⟩
   have:=Int.emod_lt_of_pos (sd*69621+c) (show(0:Int)<2147483647 by decide)
   omega
  rintro σ H1 ⟨sd,v2,rfl,rfl,h0,h1⟩
  generalize upd H p (.lst ((ns.take 63).map V.int))=H1 at sp ⊢
  refine⟨_,rfl,_,rfl,sa,_,rfl,sp.seq hS,fun p2 hp2=>?_⟩
  rw[ec]
  have CT:=Same.new (o:=.lst ((ns.take 63).map V.int)) hp2
  refine⟨p2,rfl,⟨_,.of af⟩,fun C hC=>?_⟩
  have nC:p2≠C:=av af hC
  have Vv:H1 C=none:=CT.free hC
  refine gX (xs:=(ns.take 63).map V.int) (fun i σ H'=>∃(v:Option V) (ms:List Int),σ=[v]∧Same H1 H'∧H' p2=some (.lst ((ns.take 63).map V.int))∧H' C=some (.lst (ms.map V.int))∧(∀m∈ms,0≤m)∧ms.length≤i)
   ⟨none,[],?sg,CT.trans (Same.new hC),(Same.new hC) _ _ af,af,(fun m hm=>by cases hm),Nat.le_refl _⟩ (fun i σ H' _ ⟨_,_,_,_,h,_⟩=>.of h) ?_ ?_
  case sg=>rfl
  ·rintro i x σ H2 hx ⟨v,ms,rfl,s2,e2,c2,hms,lm⟩
   obtain⟨c,rfl,hc⟩:=iu hx
   have hi:i<(ns.take 63).length:=(List.getElem?_eq_some_iff.mp hc).1
   rw[List.length_take] at hi
   refine⟨_,rfl,c,rfl,_,_,rfl,rfl,⟨by decide,by decide,by decide⟩,_,_,rfl,rfl,_,rfl,?_⟩
   refine cj (fun _=>?_) (fun _=>⟨_,ms,rfl,s2,e2,c2,hms,by omega⟩)
   refine⟨_,rfl,c,rfl,_,c2,?_,_,ms++[if c<0 then-c else c],rfl,s2.kbn Vv KB.write,by rw[au nC];exact e2,?_,?_,?_⟩
   ·rw[List.length_map];exact Nat.lt_of_le_of_lt (show ms.length≤100 by omega) (by decide)
   ·rw[af,List.map_append];rfl
   ·intro m hm
    rcases List.mem_append.mp hm with hm | hm
    ·exact hms m hm
    ·rw[List.mem_singleton.mp hm];split<;>omega
   ·rw[List.length_append];show ms.length+1≤i+1;omega
  rintro σ H2 ⟨v,ms,rfl,s2,e2,c2,hms,lm⟩
  have Gq:=sp.trans s2
  refine fun F hF=>?_
  have sF:=Same.new (o:=.dK []) hF
  refine⟨_,rfl,_,rfl,_,rfl,C,_,rfl,rfl,rfl,rfl,.of (sF _ _ c2),fun L hL=>⟨_,rfl,?_⟩⟩
  have sL:=Same.new (o:=.lst (ms.map V.int).reverse) hL
  have zj:F≠L:=av af hL
  refine⟨sL _ _ af,fd L 0 sd,rfl,(by show 3≤15;decide),?_⟩
  rw[Ff]
  refine k F L _ (Gq.free hF) ((Gq.trans sF).free hL) (((Gq.trans sF).trans sL).kbn (Gq.free hF) KB.write) ⟨ms.reverse,0,sd,af,?_,Int.le_refl _,fun m hm=>hms m (List.mem_reverse.mp hm),h0,h1⟩
  rw[au zj.symm,af,List.map_reverse]
def aK (ds:List Nat):List Int:=ds.map fun(d:Nat)=>(d:Int)
theorem xC (ds:List Nat) (i:Nat):(aK ds)[i]? =ds[i]?.map fun(d:Nat)=>(d:Int):=by simp[aK]
theorem rZ {ds:List Nat} {i:Nat} {x:V} (h:((aK ds).map V.int)[i]? =some x):∃n:Nat,x=.int (n:Int)∧ds[i]? =some n:=by
 obtain⟨f,rfl,hf⟩:=iu h
 rw[xC] at hf
 cases e:ds[i]? with
 | none=>rw[e] at hf;cases hf
 | some n=>rw[e] at hf;exact⟨n,by rw[←Option.some.inj hf],rfl⟩
theorem oG {rs:List Addr} {i:Nat} {x:V} (h:(rs.map V.ref)[i]? =some x):∃r,x=.ref r∧rs[i]? =some r:=by
 rw[List.getElem?_map] at h
 cases e:rs[i]? with
 | none=>rw[e] at h;cases h
 | some r=>rw[e] at h;exact⟨r,(Option.some.inj h).symm,rfl⟩
theorem take_snoc {α:Type} {xs:List α} {i:Nat} {x:α} (h:xs[i]? =some x):xs.take (i+1)=xs.take i++[x]:=by rw[List.take_add_one,h];rfl
theorem g0 (ds:List Nat):(aK ds).length=ds.length:=by simp[aK]
theorem oa (xs ys:List Nat):aK (xs++ys)=aK xs++aK ys:=by simp[aK]
structure Moves (n b:Nat) (mv:List (List Nat)):Prop where
 len:mv.length=n
 lead:∀l∈mv,l.length=b∧∀x∈l,x<n
theorem item_at {α:Type} {xs:List α} {i:Nat} (d:α) (h:i<xs.length):xs[i]? =some (xs.getD i d):=by rw[List.getD_eq_getElem?_getD,List.getElem?_eq_getElem h];rfl
theorem qJ {ds:List Nat} {i:Nat} (h:i<ds.length):((aK ds).map V.int)[i]? =some (.int (ds.getD i 0:Nat)):=by
 rw[List.getElem?_map,xC,item_at 0 h];rfl
theorem Moves.row {H:Hp} {n b:Nat} {mv:List (List Nat)} {ps:List Addr} (h:Moves n b mv) (tp:gf H ps (mv.map aK)) {r:Nat} (hr:r<n):
  ps[r]? =some (ps.getD r 0)∧H (ps.getD r 0)=some (.tup ((aK (mv.getD r [])).map V.int))∧(mv.getD r []).length=b:=by
 have lp:ps.length=n:=by rw[Paired.length tp,List.length_map,h.len]
 have hp:=item_at 0 (show r<ps.length by omega)
 obtain⟨l',hl',el⟩:=tp.get hp
 have hm:=item_at [] (show r<mv.length by rw[h.len];exact hr)
 rw[List.getElem?_map,hm] at hl'
 have:=Option.some.inj hl'
 subst this
 exact⟨hp,el,(h.lead _ (List.mem_of_getElem? hm)).1⟩
def jV (H:Hp) (ma nm:Addr) (bs:List Bool) (mv:List (List Nat)):Prop:=∃(ya va:Addr) (ps:List Addr),H ma=some (.tup [.ref nm,.ref ya,.ref va])∧H ya=some (.tup (bs.map V.bl))∧H va=some (.tup (ps.map V.ref))∧gf H ps (mv.map aK)
theorem jV.keep {H H':Hp} {ma nm:Addr} {bs:List Bool} {mv:List (List Nat)} (h:jV H ma nm bs mv) (k:bt H H'):jV H' ma nm bs mv:=by
 obtain⟨ya,va,ps,h1,h2,h3,h4⟩:=h
 exact⟨ya,va,ps,k _ _ h1,k _ _ h2,k _ _ h3,h4.keep k⟩
theorem Fg {bs:List Bool} {i:Nat} {x:V} (h:(bs.map V.bl)[i]? =some x):∃c,x=.bl c∧bs[i]? =some c:=by
 rw[List.getElem?_map] at h
 obtain⟨c,e,rfl⟩:=Option.map_eq_some_iff.mp h
 exact⟨c,rfl,e⟩
def stp (mv:List (List Nat)) (r a:Nat):Nat:=(mv.getD r []).getD a 0
def run (mv:List (List Nat)):Nat→List Nat→Nat
 | r,[]=>r
 | r,a::w=>run mv (stp mv r a) w
def lang (bs:List Bool) (mv:List (List Nat)) (r:Nat) (w:List Nat):Bool:=bs.getD (run mv r w) false
def dj (B:Nat) (w:List Nat):Prop:=∀a∈w,a<B
theorem dj.nil (B:Nat):dj B []:=fun a h=>by cases h
theorem dj.cons {B a:Nat} {w:List Nat} (h:a<B) (hw:dj B w):dj B (a::w):=fun x hx=>(List.mem_cons.mp hx).elim (fun e=>e▸h) (hw x)
theorem dj.app {B:Nat} {v w:List Nat} (hv:dj B v) (hw:dj B w):dj B (v++w):=fun x hx=>(List.mem_append.mp hx).elim (hv x) (hw x)
theorem zk (mv:List (List Nat)):∀(v w:List Nat) (r:Nat),run mv r (v++w)=run mv (run mv r v) w
 | [],_,_=>rfl
 | a::v,w,r=>zk mv v w (stp mv r a)
theorem Moves.stp {n B:Nat} {mv:List (List Nat)} (m:Moves n B mv) {r a:Nat} (hr:r<n) (ha:a<B):stp mv r a<n:=by
 unfold My.stp
 have h1:mv[r]? =some (mv.getD r []):=item_at [] (by rw[m.len];exact hr)
 obtain⟨h2,h3⟩:=m.lead _ (List.mem_of_getElem? h1)
 have h4:=item_at 0 (show a<(mv.getD r []).length by rw[h2];exact ha)
 exact h3 _ (List.mem_of_getElem? h4)
theorem Moves.run {n B:Nat} {mv:List (List Nat)} (m:Moves n B mv):∀{w:List Nat} {r:Nat},r<n→dj B w→My.run mv r w<n
 | [],_,hr,_=>hr
 | a::w,r,hr,hw=>Moves.run m (w:=w) (m.stp hr (hw a List.mem_cons_self)) fun x hx=>hw x (List.mem_cons_of_mem _ hx)
def cf:List Nat→Nat→Option Nat
 | [],s=>some s
 | t::l,s=>if t<s then cf l s else if t=s then cf l (s+1) else none
def i6:List (List Nat)→Nat→Nat→Option Nat
 | [],_,s=>some s
 | r::rs,i,s=>if i<s then(cf r s).bind fun s'=>i6 rs (i+1) s' else none
theorem km:∀(l:List Nat) (t s:Nat),cf (l++[t]) s=(cf l s).bind fun s'=>cf [t] s'
 | [],_,_=>rfl
 | x::l,t,s=>by
  show cf (x::(l++[t])) s=(cf (x::l) s).bind _
  simp only[cf]
  by_cases h:x<s
  ·rw[if_pos h,if_pos h];exact km l t s
  ·rw[if_neg h,if_neg h]
   by_cases h2:x=s
   ·rw[if_pos h2,if_pos h2];exact km l t (s+1)
   ·rw[if_neg h2,if_neg h2];rfl
theorem qK:∀(rs:List (List Nat)) (r:List Nat) (i s:Nat),i6 (rs++[r]) i s=(i6 rs i s).bind fun s'=>if i+rs.length<s' then cf r s' else none
 | [],r,i,s=>by
  show(if i<s then(cf r s).bind fun s'=>some s' else none)=if i+0<s then cf r s else none
  rw[Nat.add_zero]
  split
  ·cases cf r s<;>rfl
  ·rfl
 | x::rs,r,i,s=>by
  show(if i<s then(cf x s).bind fun s'=>i6 (rs++[r]) (i+1) s' else none)=(if i<s then(cf x s).bind fun s'=>i6 rs (i+1) s' else none).bind _
  by_cases h:i<s
  ·rw[if_pos h,if_pos h]
   cases cf x s with
   | none=>rfl
   | some s'=>
    show i6 (rs++[r]) (i+1) s'=(i6 rs (i+1) s').bind _
    rw[qK rs r (i+1) s']
    congr 1
    funext q
    rw[List.length_cons,show i+1+rs.length=i+(rs.length+1) by omega]
  ·rw[if_neg h,if_neg h];rfl
def dq {α:Type} (on:α→Nat→α):α→List Nat→α
 | x,[]=>x
 | x,a::w=>dq on (on x a) w
theorem mG {α:Type} (on:α→Nat→α):∀(v w:List Nat) (x:α),dq on x (v++w)=dq on (dq on x v) w
 | [],_,_=>rfl
 | a::v,w,x=>mG on v w (on x a)
structure cI {α:Type} (x0:α) (on:α→Nat→α) (m:Nat) (xs:List α) (mv:List (List Nat)):Prop where
 once:xs.Nodup
 first:xs[0]? =some x0
 reach:∀x∈xs,∃w,dj m w∧x=dq on x0 w
 row:∀(i:Nat) (r:List Nat),mv[i]? =some r→r.length=m∧∃x,xs[i]? =some x∧∀(c t:Nat),r[c]? =some t→xs[t]? =some (on x c)
 go:i6 mv 0 1=some xs.length
theorem cI.og {α:Type} {x0:α} {on:α→Nat→α} {m:Nat} {xs:List α} {mv:List (List Nat)} (g:cI x0 on m xs mv) (h:mv.length=xs.length):Moves xs.length m mv:=by
 refine⟨h,fun l hl=>?_⟩
 obtain⟨i,hi⟩:=List.getElem?_of_mem hl
 obtain⟨h1,x,_,h2⟩:=g.row i l hi
 refine⟨h1,fun t ht=>?_⟩
 obtain⟨c,hc⟩:=List.getElem?_of_mem ht
 exact(List.getElem?_eq_some_iff.mp (h2 c t hc)).1
theorem cI.run {α:Type} {x0:α} {on:α→Nat→α} {m:Nat} {xs:List α} {mv:List (List Nat)} (g:cI x0 on m xs mv) (h:mv.length=xs.length):∀(w:List Nat) (i:Nat) (x:α),xs[i]? =some x→dj m w→xs[run mv i w]? =some (dq on x w)
 | [],_,_,e,_=>e
 | a::w,i,x,e,hw=>by
  have hi:=(List.getElem?_eq_some_iff.mp e).1
  have ha:=hw a List.mem_cons_self
  have h1:=item_at [] (show i<mv.length by omega)
  obtain⟨l1,y,ey,h2⟩:=g.row i _ h1
  rw[e] at ey
  have:=Option.some.inj ey
  subst this
  have h3:=item_at 0 (show a<(mv.getD i []).length by rw[l1];exact ha)
  exact cI.run g h w _ _ (h2 a _ h3) fun z hz=>hw z (List.mem_cons_of_mem _ hz)
theorem oX {α β:Type} {F:α→β→Prop} {l:List α} {m:List β} {a:α} {b:β} (h:Paired F l m) (r:F a b):Paired F (l++[a]) (m++[b]):=by
 induction h with
 | nil=>exact .cons r .nil
 | cons q t ih=>exact .cons q ih
def lets (b:Nat):Nat→List (List Int)
 | 0=>[[]]
 | n+1=>(lets b n).flatMap fun l=>(List.range b).map fun(f:Nat)=>l++[(f:Int)]
theorem iH (b:Nat):∀n,(lets b n).length=b ^ n
 | 0=>rfl
 | n+1=>by
  show((lets b n).flatMap fun l=>(List.range b).map fun(f:Nat)=>l++[(f:Int)]).length=_
  rw[List.length_flatMap]
  have:(List.map (fun l:List Int=>((List.range b).map fun(f:Nat)=>l++[(f:Int)]).length) (lets b n))=List.replicate (lets b n).length b:=by
   rw[List.map_congr_left (g:=fun _=>b) (fun l _=>by simp)]
   exact List.map_const' ..
  rw[this,List.sum_replicate_nat,iH b n,Nat.pow_succ]
theorem pQ (b:Nat):∀(n:Nat) (l:List Int),l∈lets b n→l.length=n
 | 0,l,h=>by
  have h':l∈[([]:List Int)]:=h
  simp at h';subst h';rfl
 | n+1,l,h=>by
  have h':l∈(lets b n).flatMap fun l=>(List.range b).map fun(f:Nat)=>l++[(f:Int)]:=h
  obtain⟨l',h1,h2⟩:=List.mem_flatMap.mp h'
  obtain⟨f,_,rfl⟩:=List.mem_map.mp h2
  rw[List.length_append,pQ b n l' h1];rfl
theorem Fh (b:Nat) (ls:List (List Int)):(ls.flatMap fun l=>(List.range b).map fun(f:Nat)=>l++[(f:Int)]).length=ls.length*b:=by
 rw[List.length_flatMap]
 have:(List.map (fun l:List Int=>((List.range b).map fun(f:Nat)=>l++[(f:Int)]).length) ls)=List.replicate ls.length b:=by
  rw[List.map_congr_left (g:=fun _=>b) (fun l _=>by simp)]
  exact List.map_const' ..
 rw[this,List.sum_replicate_nat]
def CU:Sp:=fun vs H Q _=>∃(b n:Nat),vs=[.int b,.int n]∧b≤4∧n≤4∧∀(D:Addr) (ps:List Addr) (H':Hp),H D=none→Same H H'→H' D=some (.lst (ps.map V.ref))→gf H' ps (lets b n)→Q (.ref D) H'
theorem cX:aN ["base","many","letters","spot","longer","letter"] ["base","many"] (ag cL):=⟨rfl,rfl,rfl,by decide+kernel,rfl,by decide+kernel,by decide+kernel⟩
theorem i7 {b n:Nat} (hb:b≤4) (hn:n≤4):b ^ n≤256:=
 Nat.le_trans (Nat.pow_le_pow_left hb n) (Nat.pow_le_pow_right (by decide) hn)
theorem lG {a:bR} (T:Txt K mg a):aS P w K mg base bp 1 a.gA a.iA ["base","many"] CU:=by
 refine T.uR.ok cX (fun vs H Q E h=>?_) (fun cdv A outer s H vs Q E hr h=>?_)
 ·obtain⟨b,n,rfl,_⟩:=h
  rfl
 ·obtain⟨b,n,rfl,hb,hn,k⟩:=h
  refine⟨_,(ai (ay (i:=2) cX.nd rfl (Or.inl rfl) (dc (ae (bL ah) ah)))
  (ai (cx PassesOwn.never rfl (dD rfl T.fV (ae (pv 1) ah)) (aF (i:=3) cX.nd rfl (Or.inl rfl))
   (ai (ay (i:=4) cX.nd rfl (Or.inl rfl) (dc ah))
   (ai (cx PassesOwn.never rfl (du (pv 2)) (aF (i:=5) cX.nd rfl (Or.inr rfl))
    (aq (fb (gx PySem.F.plainAttrs_list PySem.F.slot_list_extend PySem.F.type_list_extend nI (pv 4) (ae (cz (aI.mk' (esc:=ag cL) (N:=["base","many","letters","spot","longer","letter"]) (own:=["figure"]) (aM:=["letter"]) (bH:=[5]) rfl rfl (by decide+kernel)) rfl (dD rfl T.fV (ae (pv 0) ah)) (fun _ _ _ _=>(aF (i:=0) (show List.Nodup (["figure","letter"]:List Str) by decide+kernel) rfl (Or.inl rfl))) (fun _ _ _ _=>bM) (fun _ _ _ _=>(aG (pB K) (pv 1) (bL (ae (pv 0) ah))))) ah)))))
   (aq (ay (i:=2) cX.nd rfl (Or.inl rfl) (pv 4))))))
  (aq (aQ (pv 2))))),?_⟩
  refine⟨by decide,fun p hp=>⟨by show 1≤sizeLine;decide,fun D hD=>?_⟩⟩
  have zl:H D=none:=(Same.new hp).free hD
  refine⟨_,rfl,n,rfl,by omega,by omega,iV (lo:=0) (n:=(n:Int).toNat) (fun i σ H'=>∃(D:Addr) (ps:List Addr) (v3 v4 v5:Option V),σ=[some (.int b),some (.int n),some (.ref D),v3,v4,v5]∧H D=none∧Same H H'∧H' D=some (.lst (ps.map V.ref))∧gf H' ps (lets b i))
   ⟨D,[p],none,none,none,rfl,zl,(Same.new hp).trans (Same.new hD),af,.cons (by rw[au (av (o:=.tup []) af hD)];exact af) .nil⟩ ?_ ?_⟩
  ·rintro i σ H1 hi ⟨D,ps,v3,v4,v5,rfl,hD,s1,eD,t1⟩
   rw[Int.toNat_natCast] at hi
   have lps:ps.length=b ^ i:=by rw[Paired.length t1,iH]
   have bi:b ^ i≤256:=i7 hb (by omega)
   have YO:b ^ (i+1)≤256:=i7 hb (by omega)
   refine⟨by decide,fun E hE=>?_⟩
   have OA:H E=none:=s1.free hE
   have Kl:D≠E:=av eD hE
   refine⟨_,rfl,D,rfl,⟨ps.map V.ref,.of (by rw[au Kl];exact eD)⟩,ig (xs:=ps.map V.ref) (fun j σ H'=>∃(qs:List Addr) (v5:Option V),σ=[some (.int b),some (.int n),some (.ref D),some (.int (0+(i:Int))),some (.ref E),v5]∧
     Same H H'∧H' D=some (.lst (ps.map V.ref))∧gf H' ps (lets b i)∧H' E=some (.lst (qs.map V.ref))∧gf H' qs (((lets b i).take j).flatMap fun l=>(List.range b).map fun(f:Nat)=>l++[(f:Int)]))
    ⟨[],v5,rfl,s1.trans (Same.new hE),by rw[au Kl];exact eD,t1.keep (Same.new hE).kt,af,.nil⟩ (fun j σ H' _ ⟨_,_,_,_,h,_⟩=>.of h) ?_ ?_⟩
   ·rintro j y σ H2 hj ⟨qs,v5,rfl,s2,oY,t2,CV,u2⟩
    rw[List.getElem?_map] at hj
    cases ep:ps[j]? with
    | none=>rw[ep] at hj;cases hj
    | some p=>
     rw[ep] at hj
     have ey:y=.ref p:=(Option.some.inj hj).symm
     subst ey
     obtain⟨l,el,hl⟩:=t2.get ep
     have YQ:j<ps.length:=(List.getElem?_eq_some_iff.mp ep).1
     refine⟨_,rfl,.inl ⟨rfl,_,.of CV⟩,_,rfl,b,rfl,by omega,by omega,fun C hC=>?_⟩
     have YR:E≠C:=av CV hC
     have YS:D≠C:=av oY hC
     refine me (fun f σ H'=>∃(rs:List Addr) (v:Option V),σ=[v,some (.ref p)]∧Same H2 H'∧H' C=some (.lst (rs.map V.ref))∧gf H' rs ((List.range f).map fun(f:Nat)=>l++[(f:Int)]))
      ⟨[],none,rfl,Same.new hC,af,.nil⟩ ?_ ?_
     ·rintro f σ H3 hf ⟨rs,v,rfl,s3,zm,t3⟩
      refine⟨_,rfl,_,rfl,by show 1≤sizeLine;decide,fun q hq=>?_⟩
      have lrs:rs.length=f:=by rw[Paired.length t3];simp
      have Km:C≠q:=av zm hq
      have ll:l.length=i:=pQ b i l (List.mem_of_getElem? el)
      have e0:(0:Int)+(f:Int)=(f:Int):=by omega
      have hq2:H2 q=none:=s3.free hq
      have OB:(rs.map V.ref).length<sizeLine:=by rw[List.length_map,lrs];exact Nat.lt_of_lt_of_le (show f<10 by omega) (by decide)
      have s4:Same H2 (upd H3 q (.tup [.int (0+(f:Int))])):=s3.trans (Same.new hq)
      have t4:=t3.keep (Same.new (o:=.tup [.int (0+(f:Int))]) hq).kt
      refine⟨p,q,l.map V.int,[.int (0+(f:Int))],rfl,rfl,.of (s4 _ _ hl),.of af,by simp,?_,fun hl0=>?_,fun hl0 r hr=>?_⟩
      ·rw[List.length_map,ll];exact Nat.le_trans (show i+1≤10 by omega) (by decide)
      ·have hl1:l=[]:=by cases l with | nil=>rfl | cons _ _=>cases hl0
       subst hl1
       have xD:(upd H3 q (.tup [.int (0+(f:Int))])) C=some (.lst (rs.map V.ref)):=by rw[au Km];exact zm
       refine⟨rs.map V.ref,xD,OB,rs++[q],_,rfl,?_,by rw[af,List.map_append];rfl,?_⟩
       ·exact s4.kbn hC KB.write
       ·rw[List.range_succ,List.map_append]
        refine bJ (t4.keep (bt.lst xD)) (.cons (bt.lst xD _ _ ?_) .nil)
        rw[af]
        simp
      ·have Vw:C≠r:=av (by rw[au Km];exact zm) hr
       have xD:(upd (upd H3 q (.tup [.int (0+(f:Int))])) r (.tup (l.map V.int++[.int (0+(f:Int))]))) C=some (.lst (rs.map V.ref)):=by rw[au Vw,au Km];exact zm
       refine⟨rs.map V.ref,xD,OB,rs++[r],_,rfl,?_,by rw[af,List.map_append];rfl,?_⟩
       ·exact(s4.trans (Same.new hr)).kbn hC KB.write
       ·rw[List.range_succ,List.map_append]
        refine bJ ((t4.keep (Same.new hr).kt).keep (bt.lst xD)) (.cons (bt.lst xD _ _ ?_) .nil)
        rw[af]
        simp
     ·rintro σ H3 ⟨rs,v,rfl,s3,zm,t3⟩
      have lrs:rs.length=b:=by rw[Paired.length t3];simp
      have OC:qs.length≤1024:=by
       rw[Paired.length u2,Fh,List.length_take]
       have:=Nat.mul_le_mul (show min j (lets b i).length≤256 by rw[iH];omega) hb
       omega
      have OD:=s3 _ _ CV
      refine⟨E,C,qs.map V.ref,rs.map V.ref,rfl,rfl,OD,zm,?_,?_⟩
      ·rw[List.length_map,List.length_map,lrs];exact Nat.le_trans (show qs.length+b≤2000 by omega) (by decide)
      ·have kt:=bt.lst (o:=.lst (qs.map V.ref++rs.map V.ref)) OD
       refine⟨qs++rs,_,rfl,(s2.trans s3).kbn OA KB.write,?_,(t2.keep s3.kt).keep kt,?_,?_⟩
       ·rw[au Kl];exact s3 _ _ oY
       ·rw[af,List.map_append]
       ·have e1:(lets b i).take (j+1)=(lets b i).take j++[l]:=by rw[List.take_add_one,el];rfl
        rw[e1,List.flatMap_append]
        refine bJ ((u2.keep s3.kt).keep kt) ?_
        rw[List.flatMap_singleton]
        have:=t3.keep kt
        rwa [show((b:Nat):Int).toNat=b from Int.toNat_natCast b] at this
   ·rintro σ H2 ⟨qs,v5,rfl,s2,oY,t2,CV,u2⟩
    refine⟨_,rfl,E,qs,_,_,_,rfl,OA,s2,CV,?_⟩
    have e1:(lets b i).take (ps.map V.ref).length=lets b i:=by rw[List.length_map,Paired.length t2];exact List.take_length ..
    rw[e1] at u2
    exact u2
  ·rintro σ H1 ⟨D,ps,v3,v4,v5,rfl,hD,s1,eD,t1⟩
   exact⟨_,rfl,k D ps H1 hD s1 eD (by rwa [Int.toNat_natCast] at t1)⟩
def gW (b n:Nat):List Int:=if h:n=0∨b<2 then [] else((n % b:Nat):Int)::gW b (n / b)
termination_by n
decreasing_by exact Nat.div_lt_self (by omega) (by omega)
theorem uq (b:Nat):gW b 0=[]:=by rw[gW,dif_pos (.inl rfl)]
theorem xE {b n:Nat} (hb:2≤b) (hn:0<n):gW b n=((n % b:Nat):Int)::gW b (n / b):=by rw[gW,dif_neg (by omega)]
theorem CW {b:Nat} (h:b≤1000):(b:Int).natAbs.log2<9000:=by
 rw[Int.natAbs_natCast]
 by_cases hb:b=0
 ·subst hb;decide
 ·rw[Nat.log2_lt hb]
  refine Nat.lt_of_le_of_lt h ?_
  refine Nat.lt_of_lt_of_le (show 1000<2 ^ 10 by decide) (Nat.pow_le_pow_right (by decide) (by decide))
def fl (b:Nat):Nat→Nat→List Nat
 | 0,_=>[]
 | n+1,L=>fl b n (L / b)++[L % b]
def lst (b:Nat) (acc:Nat) (ds:List Nat):Nat:=ds.foldl (fun l d=>l*b+d) acc
theorem pR (b acc d:Nat) (ds:List Nat):lst b acc (d::ds)=lst b (acc*b+d) ds:=rfl
theorem CY {b:Nat}:∀(ds:List Nat) (k acc:Nat),(∀d∈ds,d<b)→fl b (k+ds.length) (lst b acc ds)=fl b k acc++ds
 | [],k,acc,_=>by simp[lst]
 | d::t,k,acc,h=>by
  have hd:d<b:=h d List.mem_cons_self
  rw[pR,List.length_cons,show k+(t.length+1)=(k+1)+t.length by omega,CY t (k+1) _ fun x hx=>h x (List.mem_cons_of_mem _ hx),fl]
  have e1:(acc*b+d) / b=acc:=by
   rw[Nat.mul_comm,Nat.mul_add_div (by omega),Nat.div_eq_of_lt hd];rfl
  have e2:(acc*b+d) % b=d:=by
   rw[Nat.mul_comm,Nat.mul_add_mod,Nat.mod_eq_of_lt hd]
  rw[e1,e2,List.append_assoc];rfl
theorem CZ {b:Nat}:∀(ds:List Nat) (k acc:Nat),(∀d∈ds,d<b)→acc<b ^ k→lst b acc ds<b ^ (k+ds.length)
 | [],k,acc,_,h=>h
 | d::t,k,acc,h,ha=>by
  have hd:d<b:=h d List.mem_cons_self
  rw[pR,List.length_cons,show k+(t.length+1)=(k+1)+t.length by omega]
  refine CZ t (k+1) _ (fun x hx=>h x (List.mem_cons_of_mem _ hx)) ?_
  rw[Nat.pow_succ]
  have:=Nat.mul_le_mul_right b (show acc+1≤b ^ k from ha)
  rw[Nat.add_mul,Nat.one_mul] at this
  omega
theorem zo {b:Nat} (hb:0<b) (g:List Int→Nat→List Int):∀(ls:List (List Int)) (i:Nat),(ls.flatMap fun l=>(List.range b).map (g l))[i]? =ls[i / b]?.map fun l=>g l (i % b)
 | [],i=>by simp
 | l::ls,i=>by
  rw[List.flatMap_cons]
  by_cases h:i<b
  ·rw[List.getElem?_append_left (by simpa using h),Nat.div_eq_of_lt h,Nat.mod_eq_of_lt h]
   simp[h]
  ·have e1:i / b=(i-b) / b+1:=by
    have:=Nat.sub_add_cancel (Nat.not_lt.mp h)
    conv=>lhs;rw[←this]
    exact Nat.add_div_right _ hb
   have e2:i % b=(i-b) % b:=Nat.mod_eq_sub_mod (Nat.not_lt.mp h)
   rw[List.getElem?_append_right (by simpa using Nat.not_lt.mp h),e1,e2]
   have:=zo hb g ls (i-b)
   simpa using this
theorem zp {b:Nat} (hb:0<b):∀(n L:Nat),L<b ^ n→(lets b n)[L]? =some (aK (fl b n L))
 | 0,L,h=>by
  have:L=0:=by simpa using h
  subst this;rfl
 | n+1,L,h=>by
  show((lets b n).flatMap fun l=>(List.range b).map fun(f:Nat)=>l++[(f:Int)])[L]? =_
  rw[zo hb (fun l f=>l++[(f:Int)])]
  have h1:L / b<b ^ n:=by
   rw[Nat.div_lt_iff_lt_mul hb]
   rw[Nat.pow_succ] at h
   exact h
  rw[zp hb n (L / b) h1]
  simp[aK,fl]
theorem qL {b:Nat} (hb:2≤b):∀(p n:Nat),p<(gW b n).length↔0<n / b ^ p
 | 0,n=>by
  by_cases hn:n=0
  ·subst hn;rw[uq];simp
  ·rw[xE hb (by omega),Nat.pow_zero,Nat.div_one]
   simp;omega
 | p+1,n=>by
  by_cases hn:n=0
  ·subst hn;rw[uq];simp
  ·rw[xE hb (by omega),List.length_cons,Nat.succ_lt_succ_iff,qL hb p,Nat.div_div_eq_div_mul,Nat.pow_succ,Nat.mul_comm b]
def f' (b:Nat) (ns:List Nat) (p:Nat):Nat:=lst b 0 (ns.map fun n=>n / b ^ p % b)
theorem qM {b:Nat} (hb:0<b) (ns:List Nat) (p:Nat):f' b ns p<b ^ ns.length:=by
 have:=CZ (b:=b) (ns.map fun n=>n / b ^ p % b) 0 0 (fun d hd=>by
  obtain⟨n,_,rfl⟩:=List.mem_map.mp hd
  exact Nat.mod_lt _ hb) (by simp)
 rw[List.length_map,Nat.zero_add] at this
 exact this
theorem Kn {b:Nat} (hb:0<b) (ns:List Nat) (p:Nat):fl b ns.length (f' b ns p)=ns.map fun n=>n / b ^ p % b:=by
 have:=CY (b:=b) (ns.map fun n=>n / b ^ p % b) 0 0 (fun d hd=>by
  obtain⟨n,_,rfl⟩:=List.mem_map.mp hd
  exact Nat.mod_lt _ hb)
 rw[List.length_map,Nat.zero_add] at this
 exact this
def ib (b:Nat) (ns:List Nat):Nat:=ns.foldr (fun n m=>max (gW b n).length m) 0
theorem xF {b:Nat}:∀{ns:List Nat} {n:Nat},n∈ns→(gW b n).length≤ib b ns
 | m::ns,n,h=>by
  show _≤max (gW b m).length (ib b ns)
  rcases List.mem_cons.mp h with rfl | h
  ·omega
  ·have:=xF (b:=b) h
   omega
theorem zq {b:Nat}:∀{ns:List Nat},ns≠[]→∃n∈ns,(gW b n).length=ib b ns
 | [m],_=>⟨m,List.mem_cons_self,by show _=max (gW b m).length 0;omega⟩
 | m::m'::ns,_=>by
  obtain⟨n,hn,e⟩:=zq (b:=b) (ns:=m'::ns) (by simp)
  have e':ib b (m::m'::ns)=max (gW b m).length (ib b (m'::ns)):=rfl
  rw[e']
  by_cases h:(gW b m).length≤ib b (m'::ns)
  ·exact⟨n,List.mem_cons_of_mem _ hn,by omega⟩
  ·exact⟨m,List.mem_cons_self,by omega⟩
theorem lst_snoc (b acc:Nat) (ds:List Nat) (d:Nat):lst b acc (ds++[d])=lst b acc ds*b+d:=by simp[lst,List.foldl_append]
def AB (b:Nat) (ns:List Nat):List Nat:=(List.range (ib b ns)).map (f' b ns)
structure jg {α:Type} (x0:α) (on:α→Nat→α) (m:Nat) (xs:List α) (x:α) (leads:List Nat) (ys:List α):Prop where
 once:ys.Nodup
 pre:∃more,ys=xs++more
 reach:∀y∈ys,∃w,dj m w∧y=dq on x0 w
 at':∀(c t:Nat),leads[c]? =some t→ys[t]? =some (on x c)
 go:cf leads xs.length=some ys.length
theorem mH:∀(l:List Nat) (s s':Nat),cf l s=some s'→s'≤s+l.length
 | [],s,s',h=>by cases h;exact Nat.le_refl _
 | t::l,s,s',h=>by
  rw[cf] at h
  rw[List.length_cons]
  split at h
  ·have:=mH l s s' h;omega
  ·split at h
   ·have:=mH l (s+1) s' h;omega
   ·cases h
theorem lH {α:Type} {xs more:List α} {i:Nat} {x:α} (h:xs[i]? =some x):(xs++more)[i]? =some x:=by
 rw[List.getElem?_append_left (List.getElem?_eq_some_iff.mp h).1];exact h
section
variable {α:Type} {x0:α} {on:α→Nat→α} {m:Nat} {xs ys:List α} {mv:List (List Nat)} {x:α} {leads:List Nat}
theorem cI.begin:cI x0 on m [x0] []:=⟨by simp,rfl,fun x hx=>⟨[],.nil m,by rw[List.mem_singleton.mp hx];rfl⟩,fun i r h=>by simp at h,rfl⟩
theorem jg.start (g:cI x0 on m xs mv):jg x0 on m xs x [] xs:=⟨g.once,⟨[],by simp⟩,g.reach,fun c t h=>by simp at h,rfl⟩
theorem jg.old (g:jg x0 on m xs x leads ys) {t:Nat} (h:ys[t]? =some (on x leads.length)):jg x0 on m xs x (leads++[t]) ys:=by
 have ht:=(List.getElem?_eq_some_iff.mp h).1
 refine⟨g.once,g.pre,g.reach,fun c u hu=>?_,?_⟩
 ·by_cases hc:c<leads.length
  ·rw[List.getElem?_append_left hc] at hu;exact g.at' c u hu
  ·have hb:=(List.getElem?_eq_some_iff.mp hu).1
   rw[List.length_append] at hb
   have e:c=leads.length:=by simp at hb;omega
   subst e
   rw[List.getElem?_append_right (Nat.le_refl _),Nat.sub_self] at hu
   have:=Option.some.inj hu
   subst this
   exact h
 ·rw[km,g.go]
  show cf [t] ys.length=_
  simp only[cf]
  rw[if_pos ht]
theorem jg.new (g:jg x0 on m xs x leads ys) (hm:leads.length<m) (hx:∃w,dj m w∧x=dq on x0 w) (h:on x leads.length ∉ ys):jg x0 on m xs x (leads++[ys.length]) (ys++[on x leads.length]):=by
 obtain⟨more,e⟩:=g.pre
 refine⟨?_,⟨more++[on x leads.length],by rw[e,List.append_assoc]⟩,fun y hy=>?_,fun c u hu=>?_,?_⟩
 ·rw[List.nodup_append]
  exact⟨g.once,by simp,fun a ha b hb z=>h (by rw[←List.mem_singleton.mp hb,←z];exact ha)⟩
 ·rcases List.mem_append.mp hy with z | z
  ·exact g.reach y z
  ·rw[List.mem_singleton.mp z]
   obtain⟨w,hw,ex⟩:=hx
   exact⟨w++[leads.length],hw.app (.cons hm (.nil m)),by rw[mG,←ex];rfl⟩
 ·by_cases hc:c<leads.length
  ·rw[List.getElem?_append_left hc] at hu;exact lH (g.at' c u hu)
  ·have hb:=(List.getElem?_eq_some_iff.mp hu).1
   rw[List.length_append] at hb
   have e:c=leads.length:=by simp at hb;omega
   subst e
   rw[List.getElem?_append_right (Nat.le_refl _),Nat.sub_self] at hu
   have:=Option.some.inj hu
   subst this
   rw[List.getElem?_append_right (Nat.le_refl _),Nat.sub_self];rfl
 ·rw[km,g.go,List.length_append]
  show cf [ys.length] ys.length=_
  simp only[cf]
  rw[if_neg (Nat.lt_irrefl _)]
  simp
theorem cI.next (g:cI x0 on m xs mv) (hx:xs[mv.length]? =some x) (r:jg x0 on m xs x leads ys) (hl:leads.length=m):cI x0 on m ys (mv++[leads]):=by
 obtain⟨more,e⟩:=r.pre
 have hlt:=(List.getElem?_eq_some_iff.mp hx).1
 refine⟨r.once,by rw[e];exact lH g.first,r.reach,fun i row hr=>?_,?_⟩
 ·by_cases hi:i<mv.length
  ·rw[List.getElem?_append_left hi] at hr
   obtain⟨h1,y,h2,h3⟩:=g.row i row hr
   exact⟨h1,y,by rw[e];exact lH h2,fun c t ht=>by rw[e];exact lH (h3 c t ht)⟩
  ·have hb:=(List.getElem?_eq_some_iff.mp hr).1
   rw[List.length_append] at hb
   have ei:i=mv.length:=by simp at hb;omega
   subst ei
   rw[List.getElem?_append_right (Nat.le_refl _),Nat.sub_self] at hr
   have:=Option.some.inj hr
   subst this
   exact⟨hl,x,by rw[e];exact lH hx,r.at'⟩
 ·rw[qK,g.go]
  show(if 0+mv.length<xs.length then cf leads xs.length else none)=_
  rw[if_pos (by omega)];exact r.go
end
def jW {P:Program} {w:World} {α:Type} (R:mn P w α) (H:Hp) (vs:List V) (xs:List α):Prop:=Paired (fun v x=>R.Rep x v H) vs xs
section
variable {P:Program} {w:World} {α:Type} (R:mn P w α) (many:Nat) (on:α→Nat→α) (yes:α→Bool) (Ok:α→Prop) (Ev:Hp→Prop)
def AE:Sp:=fun vs H Q _=>∃(x:α) (v:V) (a:Nat),vs=[v,.int a]∧R.Rep x v H∧Ok x∧a<many∧Ev H∧∀v' H',Same H H'→R.Rep (on x a) v' H'→Q v' H'
def AF:Sp:=fun vs H Q _=>∃(x:α) (v:V),vs=[v]∧R.Rep x v H∧Ok x∧Ev H∧∀H',Same H H'→Q (.bl (yes x)) H'
def Ib (f1 f2:Addr):Sp:=fun vs H Q _=>∃(x0:α) (v0:V) (most:Nat),vs=[v0,.int many,.ref f1,.ref f2,.int most]∧R.Rep x0 v0 H∧Ok x0∧Ev H∧most≤10000∧many≤1000∧
 (∀(xs:List α) (H':Hp),Same H H'→xs.Nodup→(∀x∈xs,∃w,dj many w∧x=dq on x0 w)→most<xs.length→Q .non H')∧
 ∀(xs:List α) (mv:List (List Nat)) (vs:List V) (p Rr ya va:Addr) (ps:List Addr) (H':Hp),Same H H'→H Rr=none→mv.length=xs.length→xs.length≤most→cI x0 on many xs mv→H' p=some (.tup [.ref Rr,.ref ya,.ref va])→H' Rr=some (.lst vs)→jW R H' vs xs→H' ya=some (.tup ((xs.map yes).map V.bl))→H' va=some (.tup (ps.map V.ref))→gf H' ps (mv.map aK)→Q (.ref p) H'
end
theorem r_ {H:Hp} {a:Addr} {o o':HO} (h:H a=some o) (hn:∀l,o≠.tup l):bt H (upd H a o'):=fun b xs e=>by
 rw[au (dR e h fun z=>hn xs z.symm)];exact e
theorem Ko {H H':Hp} {a:Addr} {o:HO} (h:H a=some o) (hn:∀l,o≠.tup l) (k:KB a H H'):bt H H':=fun b xs e=>k _ _ e (dR e h fun z=>hn xs z.symm)
theorem jW.keep {P:Program} {w:World} {α:Type} {R:mn P w α} {H H':Hp} {vs:List V} {xs:List α} (h:jW R H vs xs) (k:bt H H'):jW R H' vs xs:=Paired.nr h fun _ _ z=>R.same z k
theorem jW.at {P:Program} {w:World} {α:Type} {R:mn P w α} {H:Hp}:∀{vs:List V} {xs:List α} {i:Nat} {x:α},jW R H vs xs→xs[i]? =some x→∃v,vs[i]? =some v∧R.Rep x v H
 | _,_,_,_,.nil,e=>by simp at e
 | _,_,0,_,.cons r _,e=>by simp at e;subst e;exact⟨_,rfl,r⟩
 | _,_,i+1,_,.cons _ t,e=>by
  simp only[List.getElem?_cons_succ] at e ⊢
  exact jW.at t e
theorem bZ:aN ["first","many","onward","is_yes","most","rooms","numbers","moves","room","leads","letter","to","yes"] ["first","many","onward","is_yes","most"] (ag bC):=⟨rfl,rfl,rfl,by decide+kernel,rfl,by decide+kernel,by decide+kernel⟩
set_option maxHeartbeats 16000000 in
theorem vn {a:bR} (T:Txt K mg a) {α:Type} (R:mn P w α) {many:Nat} {on:α→Nat→α} {yes:α→Bool} {Ok:α→Prop} {Ev:Hp→Prop} {f1 f2:Addr} {k:Nat}
  (F1:FnAt P w K mg base k f1 2 (AE R many on Ok Ev)) (F2:FnAt P w K mg base k f2 1 (AF R yes Ok Ev)) (qN:∀x a,Ok x→a<many→Ok (on x a)) (C_:∀H H',Ev H→Same H H'→Ev H'):
  aS P w K mg base bp (k+1) a.hG a.gB ["first","many","onward","is_yes","most"] (Ib R many on yes Ok Ev f1 f2):=by
 obtain⟨o1,YT,ps1,ho1,hf1,hl1,hb1,G1⟩:=F1
 obtain⟨o2,fd2,ps2,ho2,hf2,hl2,hb2,G2⟩:=F2
 refine T.wX.ok bZ (fun vs H Q E h=>?_) (fun Ar outer sh H vs Q E hr h=>?_)
 ·obtain⟨x0,v0,most,rfl,_⟩:=h
  rfl
 ·obtain⟨x0,v0,most,rfl,r0,k0,Gr,hbm,Yx,q0,q⟩:=h
  refine⟨_,(ai (ay (i:=5) bZ.nd rfl (Or.inl rfl) (dc (ae (pv 0) ah)))
  (ai (ay (i:=6) bZ.nd rfl (Or.inl rfl) (R.JW (bP hr) (pv 0) aj rfl rfl))
  (ai (ay (i:=7) bZ.nd rfl (Or.inl rfl) (dc ah))
  (ai (jG PassesOwn.never (Eh zQ FV (aU (bW K) (by rfl) T.fj dF (ae (pv 7) ah)) (aU (bW K) (by rfl) T.fj dF (ae (pv 5) ah)) (pv 4))
   (ai (ay (i:=8) bZ.nd rfl (Or.inl rfl) (aH (iq K) (pv 5) (aU (bW K) (by rfl) T.fj dF (ae (pv 7) ah)) (fun _ _=>rfl)))
   (ai (ay (i:=9) bZ.nd rfl (Or.inl rfl) (dc ah))
   (ai (cx PassesOwn.never rfl (dD rfl T.fV (ae (pv 1) ah)) (aF (i:=10) bZ.nd rfl (Or.inl rfl))
    (ai (ay (i:=11) bZ.nd rfl (Or.inl rfl) (wD (i:=2) G1 ho1 hf1 hr hb1 rfl (Or.inl rfl) (ae (pv 8) (ae (pv 10) ah))))
    (ai (dB (Bg (Cn (P:=P) (w:=w) (bP hr) (pv 11) (pv 6)) (by with_unfolding_all rfl))
     (ai (HW (P:=P) (w:=w) (bP hr) (pv 6) (pv 11) (aU (bW K) (by rfl) T.fj dF (ae (pv 5) ah)) rfl)
     (aq (fb (gx PySem.F.plainAttrs_list PySem.F.slot_list_append PySem.F.type_list_append fu (pv 5) (ae (pv 11) ah)))))
     b_)
    (aq (fb (gx PySem.F.plainAttrs_list PySem.F.slot_list_append PySem.F.type_list_append fu (pv 9) (ae (HV (P:=P) (w:=w) (bP hr) (pv 6) (pv 11) (fun _ _=>rfl)) ah)))))))
   (aq (fb (gx PySem.F.plainAttrs_list PySem.F.slot_list_append PySem.F.type_list_append fu (pv 7) (ae (bF (dN K) (by rfl) T.d6 de (ae (pv 9) ah)) ah))))))))
  (ai (dB (bh vH (aU (bW K) (by rfl) T.fj dF (ae (pv 5) ah)) (pv 4) (bB _))
   (aq (aQ nA))
   b_)
  (ai (ay (i:=12) bZ.nd rfl (Or.inl rfl) (bF (dN K) (by rfl) T.d6 de (ae (cz (aI.mk' (esc:=ag bC) (N:=["first","many","onward","is_yes","most","rooms","numbers","moves","room","leads","letter","to","yes"]) (own:=["room"]) (aM:=["is_yes"]) (bH:=[3]) rfl rfl (by decide+kernel)) rfl (du (pv 5)) (fun _ _ _ _=>(aF (i:=0) (show List.Nodup (["room","is_yes"]:List Str) by decide+kernel) rfl (Or.inl rfl))) (fun _ _ _ _=>bM) (fun _ _ _ _=>(bF zS (by rfl) T.CQ yZ (ae (wD (i:=1) G2 ho2 hf2 hr hb2 (by rfl) (by first | exact Or.inl rfl | exact Or.inr (Or.inl rfl) | exact Or.inr (Or.inr rfl)) (ae (pv 0) ah)) ah)))) ah)))
  (aq (aQ (bL (ae (pv 5) (ae (pv 12) (ae (bF (dN K) (by rfl) T.d6 de (ae (pv 7) ah)) ah)))))))))))),?_⟩
  have big:(100000:Nat)≤sizeLine:=by decide
  have Gs:∀(w:List Nat) (x:α),Ok x→dj many w→Ok (dq on x w):=by
   intro w
   induction w with
   | nil=>intro x hx _;exact hx
   | cons c w ih=>intro x hx hw;exact ih _ (qN x c hx (hw c List.mem_cons_self)) fun z hz=>hw z (List.mem_cons_of_mem _ hz)
  refine bu fun Y hY=>?_
  refine⟨_,rfl,by show 1≤sizeLine;omega,fun Rr hR=>?_⟩
  have sR:=Same.new (o:=.lst [v0]) hR
  dsimp only[aL]
  subst hY
  refine bu fun Y hY=>?_
  refine⟨x0,v0,rfl,R.same r0 sR.kt,fun D H2 hD s2 num=>?_⟩
  have OE:H2 Rr=some (.lst [v0]):=s2 _ _ af
  have zl:H D=none:=sR.free hD
  have DR:Rr≠D:=av (show(upd H Rr (.lst [v0])) Rr=some (.lst [v0]) from af) hD
  dsimp only[aL]
  subst hY
  refine bu fun Y hY=>?_
  refine⟨by show 0≤sizeLine;omega,fun M hM=>?_⟩
  have sM:=Same.new (o:=.lst []) hM
  have Vx:H M=none:=sR.free (s2.free hM)
  have MR:M≠Rr:=(av OE hM).symm
  obtain⟨oD,Vy,_,_⟩:=R.isD num
  have MD:M≠D:=(av Vy hM).symm
  have C0:=(sR.trans s2).trans sM
  dsimp only[aL]
  subst hY
  refine ui (t:=nE _ _) (u:=nB _ _) (fun σ H'=>∃(xs:List α) (mv:List (List Nat)) (vs:List V) (ps:List Addr) (v8 v9 v10 v11:Option V),σ=[some v0,some (.int (many:Nat)),some (.ref f1),some (.ref f2),some (.int (most:Nat)),some (.ref Rr),some (.ref D),some (.ref M),v8,v9,v10,v11,none]∧Same H H'∧
   H' Rr=some (.lst vs)∧jW R H' vs xs∧H' M=some (.lst (ps.map V.ref))∧gf H' ps (mv.map aK)∧cI x0 on many xs mv∧xs.length≤20000∧(xs.length≤most→mv.length=xs.length)) ?re (fun Y rest=>?_)
  case re=>
   rintro σ H' ⟨xs,mv,vs,ps,v8,v9,v10,v11,rfl,s',eR,rp,eM,tp,g,lx,hl⟩
   have Kp:vs.length=xs.length:=Paired.length rp
   have lps:ps.length=mv.length:=by rw[Paired.length tp,List.length_map]
   refine bu fun Y hY=>?_
   refine⟨_,rfl,_,vs.length,rfl,.inl ⟨_,.of eR,rfl⟩,_,rfl,_,_,rfl,rfl,_,rfl,?_⟩
   by_cases hc:xs.length≤most
   rotate_left
   ·rw[show decide ((most:Int)<((vs.length:Nat):Int))=true from decide_eq_true (by omega)]
    exact wa (q0 xs H' s' g.once g.reach (by omega))
   have hl:=hl hc
   rw[show decide ((most:Int)<((vs.length:Nat):Int))=false from decide_eq_false (by omega)]
   refine gb ?_
   subst hY
   dsimp only[ow]
   refine bu fun Y hY=>?_
   refine⟨_,rfl,Rr,rfl,⟨_,.of eR⟩,fun C hC=>?_⟩
   refine gX (xs:=vs) (fun j σ H2=>∃v:Option V,σ=[v,some (.ref f2)]∧Same H' H2∧H2 C=some (.lst (((xs.take j).map yes).map V.bl)))
    ⟨none,?sg,Same.new hC,af⟩ (fun j σ H2 _ ⟨_,_,s2,_⟩=>.of (s2 _ _ eR)) ?_ ?_
   case sg=>rfl
   ·rintro j y σ H2 hy ⟨v,rfl,s2,c2⟩
    have hj:j<xs.length:=by rw[←Kp];exact(List.getElem?_eq_some_iff.mp hy).1
    have ex:xs[j]? =some xs[j]:=List.getElem?_eq_getElem hj
    obtain⟨v',hv',rv⟩:=rp.at ex
    rw[hy] at hv'
    have hv2:=Option.some.inj hv'
    subst hv2
    obtain⟨w,hw,ew⟩:=g.reach xs[j] (List.getElem_mem ..)
    have okx:Ok xs[j]:=by rw[ew];exact Gs w x0 k0 hw
    refine⟨rfl,_,rfl,xs[j],y,rfl,R.same rv s2.kt,okx,C_ _ _ Gr (s'.trans s2),fun H3 s3=>?_⟩
    refine .inr ⟨_,rfl,_,s3 _ _ c2,by rw[List.length_map,List.length_map,List.length_take];omega,_,rfl,(s2.trans s3).kbn hC KB.write,?_⟩
    rw[af,take_snoc ex,List.map_append,List.map_append];rfl
   rintro σ H2 ⟨v,rfl,s2,c2⟩
   rw[Kp,List.take_length] at c2
   refine⟨C,_,rfl,.inl ⟨.of c2,fun Ya Vz=>?_⟩⟩
   have sY:=Same.new (o:=.tup ((xs.map yes).map V.bl)) Vz
   dsimp only[aL]
   subst hY
   refine⟨_,rfl,_,rfl,_,rfl,M,_,rfl,.inl ⟨.of (sY _ _ (s2 _ _ eM)),fun Va VA=>⟨by show 3≤sizeLine;omega,fun p hp=>?_⟩⟩⟩
   have sV:=Same.new (o:=.tup (ps.map V.ref)) VA
   have sP:=Same.new (o:=.tup [.ref Rr,.ref Ya,.ref Va]) hp
   have hW:=((s2.trans sY).trans sV).trans sP
   exact q xs mv vs p Rr Ya Va ps _ (s'.trans hW) hR hl hc g af (hW _ _ eR) (rp.keep hW.kt) (sP _ _ (sV _ _ af)) (sP _ _ af) (tp.keep hW.kt)
  refine HS (fun m σ H'=>∃(xs:List α) (mv:List (List Nat)) (vs:List V) (ps:List Addr) (v8 v9 v10 v11:Option V),m=most+1-mv.length∧σ=[some v0,some (.int (many:Nat)),some (.ref f1),some (.ref f2),some (.int (most:Nat)),some (.ref Rr),some (.ref D),some (.ref M),v8,v9,v10,v11,none]∧Same H H'∧
    H' Rr=some (.lst vs)∧jW R H' vs xs∧R.Num H' D xs∧H' M=some (.lst (ps.map V.ref))∧gf H' ps (mv.map aK)∧cI x0 on many xs mv∧mv.length≤xs.length∧xs.length≤20000)
   ⟨_,[x0],[],[v0],[],none,none,none,none,rfl,rfl,C0,sM _ _ OE,.cons (R.same r0 C0.kt) .nil,R.keep num (au MD.symm),af,.nil,cI.begin,by simp,by simp⟩ ?_ ?_
  ·rintro m σ H4 N hN ⟨xs,mv,vs,ps,v8,v9,v10,v11,rfl,rfl,s4,eR,rp,nm,eM,tp,g,hl,lx⟩
   have Kp:vs.length=xs.length:=Paired.length rp
   have lps:ps.length=mv.length:=by rw[Paired.length tp,List.length_map]
   refine⟨_,rfl,_,ps.length,rfl,.inl ⟨_,.of eM,by rw[List.length_map]⟩,_,rfl,_,vs.length,rfl,.inl ⟨_,.of eR,rfl⟩,_,_,rfl,rfl,_,rfl,?_⟩
   by_cases hlt:mv.length<xs.length
   ·rw[show decide (((ps.length:Nat):Int)<((vs.length:Nat):Int))=true from decide_eq_true (by omega)]
    refine wa ⟨_,rfl,_,_,rfl,rfl,_,rfl,?_⟩
    by_cases hc:xs.length≤most
    rotate_left
    ·rw[show decide (((vs.length:Nat):Int)≤((most:Nat):Int))=false from decide_eq_false (by omega)]
     refine gb ?_
     exact rest _ _ ⟨xs,mv,vs,ps,v8,v9,v10,v11,rfl,s4,eR,rp,eM,tp,g,lx,fun z=>absurd z hc⟩
    rw[show decide (((vs.length:Nat):Int)≤((most:Nat):Int))=true from decide_eq_true (by omega)]
    refine wa ?_
    refine bu fun Y hY=>?_
    obtain⟨x,ex⟩:∃x,xs[mv.length]? =some x:=⟨_,List.getElem?_eq_getElem hlt⟩
    obtain⟨vx,VB,rx⟩:=rp.at ex
    have Kq:=g.reach x (List.mem_of_getElem? ex)
    have okx:Ok x:=by obtain⟨w,hw,ew⟩:=Kq;rw[ew];exact Gs w x0 k0 hw
    refine⟨_,rfl,_,rfl,_,ps.length,rfl,.inl ⟨_,.of eM,by rw[List.length_map]⟩,Rr,_,_,vx,rfl,rfl,.of eR,ax (by rw[lps];exact VB),?_⟩
    dsimp only[aL]
    subst hY
    refine bu fun Y hY=>?_
    refine⟨by show 0≤sizeLine;omega,fun L hL=>?_⟩
    have sL:=Same.new (o:=.lst []) hL
    have hL0:H L=none:=s4.free hL
    have LR:L≠Rr:=(av eR hL).symm
    have LM:L≠M:=(av eM hL).symm
    obtain⟨YU,QT,_,_⟩:=R.isD nm
    have LD:L≠D:=(av QT hL).symm
    dsimp only[aL]
    subst hY
    refine bu fun Y hY=>?_
    refine⟨_,rfl,_,rfl,by omega,by omega,qx (n:=(many:Int).toNat) (fun j σ H'=>∃(ys:List α) (us:List V) (leads:List Nat) (v10 v11:Option V),σ=[some v0,some (.int (many:Nat)),some (.ref f1),some (.ref f2),some (.int (most:Nat)),some (.ref Rr),some (.ref D),some (.ref M),some vx,some (.ref L),v10,v11,none]∧Same H H'∧bt H4 H'∧
      H' Rr=some (.lst us)∧jW R H' us ys∧R.Num H' D ys∧H' M=some (.lst (ps.map V.ref))∧H' L=some (.lst ((aK leads).map V.int))∧leads.length=j∧jg x0 on many xs x leads ys)
     ⟨xs,vs,[],v10,v11,rfl,s4.trans sL,sL.kt,sL _ _ eR,rp.keep sL.kt,R.keep nm (au LD.symm),sL _ _ eM,af,rfl,jg.start g⟩ ?_ ?_⟩
    ·rintro j σ H5 N2 VC hj ⟨ys,us,leads,v10,v11,rfl,s5,Gu,Gv,Gw,C1,C2,Kr,ll,gr⟩
     have ej:(0:Int)+(j:Int)=((j:Nat):Int):=by omega
     rw[ej]
     have VD:j<many:=by omega
     have ly:=mH _ _ _ gr.go
     have Ks:us.length=ys.length:=Paired.length Gw
     dsimp only[aL]
     refine bu fun Y hY=>?_
     refine⟨rfl,_,rfl,_,rfl,x,vx,j,rfl,R.same rx Gu,okx,VD,C_ _ _ Gr s5,fun to H6 s6 C3=>?_⟩
     have Kt:=s6 _ _ Gv
     have C4:=s6 _ _ C2
     have OG:=s6 _ _ Kr
     have OH:=Gw.keep s6.kt
     obtain⟨VE,xG,C5,OI⟩:=R.isD C1
     have Gx:=R.keep C1 ((s6 _ _ xG).trans xG.symm)
     have QU:=s6 _ _ xG
     have ur:bt H4 H6:=fun b l z=>s6 _ _ (Gu _ _ z)
     have OJ:=s5.trans s6
     dsimp only[aL]
     subst hY
     refine ui (t:=Ec _ _ _) (u:=FQ _) (fun σ H'=>∃(zs:List α) (ws:List V) (t:Nat),σ=[some v0,some (.int (many:Nat)),some (.ref f1),some (.ref f2),some (.int (most:Nat)),some (.ref Rr),some (.ref D),some (.ref M),some vx,some (.ref L),some (.int (j:Nat)),some to,none]∧Same H H'∧bt H6 H'∧
      H' Rr=some (.lst ws)∧jW R H' ws zs∧R.Num H' D zs∧H' M=some (.lst (ps.map V.ref))∧H' L=some (.lst ((aK leads).map V.int))∧zs[t]? =some (on x j)∧jg x0 on many xs x (leads++[t]) zs) ?VF (fun Y Gy=>?_)
     case VF=>
      rintro σ H7 ⟨zs,ws,t,rfl,s7,Gz,C6,VG,GA,VH,Ku,hz,OL⟩
      refine⟨_,rfl,Or.inl ⟨rfl,_,.of Ku⟩,_,rfl,_,rfl,D,_,rfl,R.there GA (R.same C3 Gz) OL.once hz,L,_,_,rfl,rfl,Ku,by rw[List.length_map,g0];omega,?_⟩
      have kL:bt H7 (upd H7 L (.lst ((aK leads).map V.int++[.int (t:Nat)]))):=r_ Ku (fun l z=>nomatch z)
      refine VC _ _ ⟨zs,ws,leads++[t],_,_,rfl,s7.kbn hL0 KB.write,fun b l z=>kL _ _ (Gz _ _ (ur _ _ z)),by rw[au LR.symm];exact C6,VG.keep kL,R.keep GA (au LD.symm),by rw[au LM.symm];exact VH,?_,by rw[List.length_append,ll];rfl,OL⟩
      rw[af,oa,List.map_append];rfl
     by_cases hm:on x j∈ys
     ·obtain⟨i,hi⟩:=List.getElem?_of_mem hm
      refine⟨_,rfl,_,rfl,D,_,rfl,R.there Gx C3 gr.once hi,_,rfl,?_⟩
      refine gb ?_
      exact Gy _ _ ⟨ys,us,i,rfl,OJ,fun _ _ z=>z,Kt,OH,Gx,C4,OG,hi,gr.old (by rw[ll];exact hi)⟩
     ·refine⟨_,rfl,_,rfl,D,_,rfl,R.miss Gx C3 hm,_,rfl,?_⟩
      refine wa ?_
      obtain⟨H7,QV,C7,GA⟩:=R.put Gx C3 hm (by omega)
      have OM:=gr.new (by omega) Kq (by rw[ll];exact hm)
      rw[ll] at OM
      have C6:=C7 _ _ Kt DR
      refine⟨_,rfl,_,us.length,rfl,.inl ⟨_,.of Kt,rfl⟩,_,rfl,_,rfl,D,H7,rfl,by rw[Ks];exact QV,?_⟩
      refine⟨_,rfl,Or.inl ⟨rfl,_,.of C6⟩,_,rfl,Rr,_,_,rfl,rfl,C6,by omega,?_⟩
      have Gz:bt H6 H7:=Ko QU OI C7
      have kR:bt H7 (upd H7 Rr (.lst (us++[to]))):=r_ C6 (fun l z=>nomatch z)
      have Kv:bt H6 (upd H7 Rr (.lst (us++[to]))):=fun b l z=>kR _ _ (Gz _ _ z)
      refine Gy _ _ ⟨ys++[on x j],us++[to],ys.length,rfl,(OJ.kbn zl C7).kbn hR KB.write,Kv,af,?_,R.keep GA (au DR.symm),by rw[au MR];exact C7 _ _ C4 MD,by rw[au LR];exact C7 _ _ OG LD,by rw[List.getElem?_append_right (Nat.le_refl _),Nat.sub_self];rfl,OM⟩
      exact oX (OH.keep Kv) (R.same C3 Kv)
    ·rintro σ H5 ⟨ys,us,leads,v10,v11,rfl,s5,Gu,Gv,Gw,C1,C2,Kr,ll,gr⟩
     subst hY
     have VI:leads.length=many:=by rw[ll];omega
     have g2:=g.next ex gr VI
     have ly:=mH _ _ _ gr.go
     obtain⟨more,ND⟩:=gr.pre
     have YV:xs.length≤ys.length:=by rw[ND,List.length_append];omega
     refine⟨_,rfl,Or.inl ⟨rfl,_,.of C2⟩,_,rfl,L,_,rfl,.inl ⟨.of Kr,fun t ht=>?_⟩⟩
     have sT:=Same.new (o:=.tup ((aK leads).map V.int)) ht
     have VJ:M≠t:=av C2 ht
     have YW:Rr≠t:=av Gv ht
     obtain⟨VE,xG,C5,OI⟩:=R.isD C1
     have VL:D≠t:=av xG ht
     have C4:=sT _ _ C2
     refine⟨M,_,_,rfl,rfl,C4,by rw[List.length_map];omega,?_⟩
     have kM:bt (upd H5 t (.tup ((aK leads).map V.int))) (upd (upd H5 t (.tup ((aK leads).map V.int))) M (.lst (ps.map V.ref++[.ref t]))):=r_ C4 (fun l z=>nomatch z)
     have kA:bt H5 (upd (upd H5 t (.tup ((aK leads).map V.int))) M (.lst (ps.map V.ref++[.ref t]))):=fun b l z=>kM _ _ (sT.kt _ _ z)
     refine hN _ _ _ ?_ ⟨ys,mv++[leads],us,ps++[t],_,_,_,_,rfl,rfl,(s5.trans sT).kbn Vx KB.write,by rw[au MR.symm];exact sT _ _ Gv,Gw.keep kA,R.keep C1 (by rw[au MD.symm,au VL]),by rw[af,List.map_append];rfl,?_,g2,by rw[List.length_append];simp;omega,by omega⟩
     ·rw[List.length_append];simp;omega
     ·rw[List.map_append]
      exact oX ((tp.keep Gu).keep kA) (by rw[au VJ.symm,af])
   ·have e:mv.length=xs.length:=by omega
    rw[show decide (((ps.length:Nat):Int)<((vs.length:Nat):Int))=false from decide_eq_false (by omega)]
    refine gb ⟨_,rfl,gb ?_⟩
    exact rest _ _ ⟨xs,mv,vs,ps,v8,v9,v10,v11,rfl,s4,eR,rp,eM,tp,g,lx,fun _=>e⟩
  ·rintro σ H Q Q' h ⟨v,e1,v2,n1,e2,l1,v3,e3,v4,n2,e4,l2,i,j,e5,e6,k,e7,z⟩
   refine⟨v,e1,v2,n1,e2,l1,v3,e3,v4,n2,e4,l2,i,j,e5,e6,k,e7,?_⟩
   cases k with
   | false=>
    rw[if_neg Bool.false_ne_true] at z ⊢
    obtain⟨k',e8,q⟩:=z
    exact⟨k',e8,h _ _ q⟩
   | true=>
    rw[if_pos rfl] at z ⊢
    obtain⟨v5,e9,i2,j2,e10,Jl,k2,VM,q⟩:=z
    exact⟨v5,e9,i2,j2,e10,Jl,k2,VM,h _ _ q⟩
def Fi (P:Program) (w:World) (K:PySem.W.Frag) (mg:Str→Option Value) (base:Heap) (k:Nat):Sp:=fun vs H Q _=>∃(b most:Nat) (nm g:Addr) (ss:List Str) (α:Type) (R:mn P w α) (on:α→Nat→α) (yes:α→Bool) (Ok:α→Prop) (Ev:Hp→Prop) (x0:α) (v0:V) (f1 f2:Addr) (D:List Addr),
 vs=[.int b,.ref nm,.ref g,.int most]∧b≤4∧ss.length≤4∧H nm=some (.tup (ss.map V.str))∧H g=some (.tup [v0,.ref f1,.ref f2])∧(∀a∈D,∃φ,H a=some (.ext φ))∧
 gQ P w K mg base H D k f1 2 (AE R (b ^ ss.length) on Ok Ev)∧gQ P w K mg base H D k f2 1 (AF R yes Ok Ev)∧(∀x a,Ok x→a<b ^ ss.length→Ok (on x a))∧(∀H H',Ev H→Same H H'→Ev H')∧
 (∀D H,(∀a∈D,∃φ,H a=some (.ext φ))→Ev H→Ev (dm D H))∧R.Rep x0 v0 H∧Ok x0∧Ev H∧most≤10000∧(∀(xs:List α) (H':Hp),Same H H'→xs.Nodup→(∀x∈xs,∃w,dj (b ^ ss.length) w∧x=dq on x0 w)→most<xs.length→Q .non H')∧
 ∀(xs:List α) (mv:List (List Nat)) (p:Addr) (H':Hp),Same H H'→mv.length=xs.length→xs.length≤most→cI x0 on (b ^ ss.length) xs mv→jV H' p nm (xs.map yes) mv→Q (.ref p) H'
theorem jh:aN ["base","names","growth","most","many","grown"] ["base","names","growth","most"] (ag dZ):=⟨rfl,rfl,rfl,by decide+kernel,rfl,by decide+kernel,by decide+kernel⟩
theorem vo {a:bR} (T:Txt K mg a) (k:Nat):aS P w K mg base bp (k+2) a.hJ a.jf ["base","names","growth","most"] (Fi P w K mg base k):=by
 have ji:=lG (P:=P) (w:=w) (base:=base) T
 refine T.xa.ok jh (fun vs H Q E h=>?_) (fun cdv A outer s H vs Q E hr h=>?_)
 ·obtain⟨b,most,nm,g,ss,α,R,on,yes,Ok,Ev,x0,v0,f1,f2,D,rfl,_⟩:=h
  rfl
 ·obtain⟨b,most,nm,g,ss,α,R,on,yes,Ok,Ev,x0,v0,f1,f2,D,rfl,hb4,OO,oZ,eg,hD,F1,F2,qN,C_,VN,r0,ok0,Gr,hbm,q0,q⟩:=h
  have iI:aO 1 _:=hr.mono (by omega)
  have Fj:aO (k+1) _:=hr
  refine⟨_,(ai (ay (i:=4) jh.nd rfl (Or.inl rfl) (aU (bW K) (by rfl) T.fj dF (ae (az ji iI rfl T.mZ T.m_ T.m3 .nil aJ (ae (pv 0) (ae (aU (bW K) (by rfl) T.fj dF (ae (pv 1) ah)) ah))) ah)))
  (ai (ay (i:=5) jh.nd rfl (Or.inl rfl) (EL (fun _=>rfl) Fj rfl T.wY T.wZ T.w_ (ae (aH (aC K) (pv 2) aj (fun _ _=>rfl)) (ae (pv 4) (ae (aH (aC K) (pv 2) aj (fun _ _=>rfl)) (ae (aH (aC K) (pv 2) aj (fun _ _=>rfl)) (ae (pv 3) ah)))))))
  (ai (dB (bh Bn (pv 5) nA (bB _))
   (aq (aQ nA))
   b_)
  (aq (aQ (bL (ae (pv 1) (ae (aH (aC K) (pv 5) aj (fun _ _=>rfl)) (ae (aH (aC K) (pv 5) aj (fun _ _=>rfl)) ah))))))))),?_⟩
  have big:(10000:Nat)≤sizeLine:=by decide
  have hB:b ^ ss.length≤256:=i7 hb4 OO
  refine⟨_,rfl,_,rfl,_,ss.length,rfl,.inr ⟨_,.of oZ,by rw[List.length_map]⟩,b,ss.length,rfl,hb4,OO,fun D0 YX H1 zl s1 e1 t1=>?_⟩
  refine⟨_,b ^ ss.length,rfl,.inl ⟨_,.of e1,by rw[List.length_map,Paired.length t1,iH]⟩,?_⟩
  dsimp only[aL]
  have Kw:=s1 _ _ eg
  refine⟨_,rfl,g,_,_,v0,rfl,rfl,.of Kw,ax (j:=0) rfl,_,rfl,_,rfl,g,_,_,.ref f1,rfl,rfl,.of Kw,ax (j:=1) rfl,_,rfl,g,_,_,.ref f2,rfl,rfl,.of Kw,ax (j:=2) rfl,_,rfl,?_⟩
  have hD1:∀a∈D,∃φ,H1 a=some (.ext φ):=fun a ha=>let ⟨φ,e⟩:=hD a ha;⟨φ,s1 _ _ e⟩
  refine⟨D,hD1,fun base' W=>?_⟩
  have VO:=(F1.same fun b φ _ e=>s1 _ _ e) base' W.b
  have VP:=(F2.same fun b φ _ e=>s1 _ _ e) base' W.b
  refine⟨_,vn (k:=k) T R VO VP qN C_,?_⟩
  have ktu:bt H1 (dm D H1):=fun b xs z=>wI hD1 z (fun _ y=>nomatch y)
  refine⟨x0,v0,most,rfl,R.same (R.same r0 s1.kt) ktu,ok0,VN D H1 hD1 (C_ _ _ Gr s1),hbm,by omega,fun xs H2 s2 nd rc lt n2=>?_,fun xs mv vs p Rr ya va ps H2 s2 YY hl VQ gr ep _ _ ey ev tp n2=>?_⟩
  ·have hW:=s1.trans (ud s2)
   generalize jO D H1 H2=H3 at hW ⊢
   dsimp only[aL]
   refine⟨_,rfl,rfl,_,rfl,?_⟩
   exact cj (fun _=>q0 xs H3 hW nd rc lt) (fun z=>absurd rfl z)
  have s3:=ud s2
  have o2:∀{b:Addr} {o:HO},H2 b=some o→jO D H1 H2 b=some o:=fun {b o} e=>by
   rw[eK fun z=>?_]
   ·exact e
   ·rw[n2 b z] at e;cases e
  have Kx:=o2 ep
  have OP:=o2 ey
  have OQ:=o2 ev
  have OS:=tp.keep (show bt H2 (jO D H1 H2) from fun b xs z=>o2 z)
  have hW:=s1.trans s3
  generalize jO D H1 H2=H3 at s3 Kx OP OQ OS hW ⊢
  dsimp only[aL]
  refine⟨_,rfl,rfl,_,rfl,?_⟩
  refine cj (fun z=>absurd z (by simp)) (fun _=>?_)
  refine⟨_,rfl,_,rfl,p,_,_,.ref ya,rfl,rfl,.of Kx,ax (j:=1) rfl,_,rfl,p,_,_,.ref va,rfl,rfl,.of Kx,ax (j:=2) rfl,by show 3≤sizeLine;decide,fun m hm=>?_⟩
  have sm:=Same.new (o:=.tup [.ref nm,.ref ya,.ref va]) hm
  exact q xs mv m _ (hW.trans sm) hl VQ gr ⟨ya,va,ps,af,sm _ _ OP,sm _ _ OQ,OS.keep sm.kt⟩
def aP (l:List Nat):Str:=⟨(l.map (97+ ·)).toArray⟩
def kE:Str:="abcdefghijklmnopqrstuvwxyz"
theorem xH:kE.length≤sizeLine:=by
 have:kE.length=26:=by decide+kernel
 rw[this];decide
theorem Ic:∀c,c<26→Builtin.Str.occurrences kE ⟨#[97+c]⟩ 0 kE.length 1=[c]:=by decide+kernel
theorem C8:∀c,c<26→kE.cps.toList[c]? =some (97+c):=by decide+kernel
theorem jX (a b:List Nat):aP a++aP b=aP (a++b):=by
 show(⟨_⟩:Str)=⟨_⟩
 simp[aP]
theorem fI (l:List Nat):(aP l).length=l.length:=by
 show(l.map (97+ ·)).toArray.size=_
 rw[List.size_toArray,List.length_map]
theorem C9 {a b:List Nat} (h:aP a=aP b):a=b:=by
 have h1:(a.map (97+ ·)).toArray=(b.map (97+ ·)).toArray:=congrArg Str.cps h
 have h2:a.map (97+ ·)=b.map (97+ ·):=congrArg Array.toList h1
 exact(List.map_inj_right (fun x y z=>by omega)).mp h2
theorem yG {l:List Nat} (h:∀c∈l,c<26):(aP l).cps.all (· <128)=true:=by
 unfold aP
 rw[List.all_toArray,List.all_map,List.all_eq_true]
 intro c hc
 exact decide_eq_true (by have:=h c hc;show 97+c<128;omega)
theorem jY (l:List Nat):nQ (aP l)=aP l.reverse:=by
 show(⟨_⟩:Str)=⟨_⟩
 simp[aP]
theorem C' {l:List Nat} {i x:Nat} (h:(aP l).cps[i]? =some x):∃c,l[i]? =some c∧x=97+c:=by
 have h1:(l.map (97+ ·))[i]? =some x:=by
  rw[←h]
  show _=(l.map (97+ ·)).toArray[i]?
  rw[List.getElem?_toArray]
 rw[List.getElem?_map] at h1
 obtain⟨c,hc,e⟩:=Option.map_eq_some_iff.mp h1
 exact⟨c,hc,e.symm⟩
def cw:List Nat→List Nat×Nat
 | []=>([],1)
 | c::cs=>(((c+(cw cs).2) % 26)::(cw cs).1,(c+(cw cs).2) / 26)
theorem ko:∀l,(cw l).1.length=l.length
 | []=>rfl
 | c::cs=>by rw[cw,List.length_cons,List.length_cons,ko cs]
theorem mI:∀{l},(∀c∈l,c<26)→(cw l).2≤1
 | [],_=>Nat.le_refl _
 | c::cs,h=>by
  have h1:=mI (l:=cs) fun x hx=>h x (List.mem_cons_of_mem _ hx)
  have h2:=h c List.mem_cons_self
  show(c+(cw cs).2) / 26≤1
  omega
theorem xI:∀{l},(∀c∈l,c<26)→∀c∈(cw l).1,c<26
 | [],_,c,hc=>by cases hc
 | c::cs,h,x,hx=>by
  rcases List.mem_cons.mp (show x∈((c+(cw cs).2) % 26)::(cw cs).1 from hx) with e | e
  ·omega
  ·exact xI (l:=cs) (fun y hy=>h y (List.mem_cons_of_mem _ hy)) x e
def oh (l:List Nat):List Nat:=((cw l).1++List.replicate (cw l).2 0).take 3
structure iQ (l:List Nat):Prop where
 ne:0<l.length
 le:l.length≤3
 lt:∀c∈l,c<26
def rk:List Nat→Nat
 | [a]=>a
 | [a,b]=>26+26*a+b
 | [a,b,c]=>702+676*a+26*b+c
 | _=>0
theorem iQ.cases {l:List Nat} (h:iQ l):(∃a,l=[a]∧a<26)∨(∃a b,l=[a,b]∧a<26∧b<26)∨∃a b c,l=[a,b,c]∧a<26∧b<26∧c<26:=by
 have h1:=h.ne
 have h2:=h.le
 have h3:=h.lt
 match l,h1,h2,h3 with
 | [a],_,_,h3=>exact .inl ⟨a,rfl,h3 a (by simp)⟩
 | [a,b],_,_,h3=>exact .inr (.inl ⟨a,b,rfl,h3 a (by simp),h3 b (by simp)⟩)
 | [a,b,c],_,_,h3=>exact .inr (.inr ⟨a,b,c,rfl,h3 a (by simp),h3 b (by simp),h3 c (by simp)⟩)
 | _::_::_::_::_,_,h2,_=>simp at h2
theorem Ky {l:List Nat} (h:iQ l):rk (oh l) % 17576=(rk l+1) % 17576:=by
 rcases h.cases with⟨a,rfl,ha⟩ | ⟨a,b,rfl,ha,hb⟩ | ⟨a,b,c,rfl,ha,hb,hc⟩
 ·have e:(a+1) / 26=0∨(a+1) / 26=1:=by omega
  have E:oh [a]=([(a+1) % 26]++List.replicate ((a+1) / 26) 0).take 3:=rfl
  rcases e with e | e<;>rw[E,e]
  ·show((a+1) % 26) % 17576=(a+1) % 17576
   omega
  ·show(26+26*((a+1) % 26)+0) % 17576=(a+1) % 17576
   omega
 ·have e:(a+(b+1) / 26) / 26=0∨(a+(b+1) / 26) / 26=1:=by omega
  have E:oh [a,b]=([(a+(b+1) / 26) % 26,(b+1) % 26]++List.replicate ((a+(b+1) / 26) / 26) 0).take 3:=rfl
  rcases e with e | e<;>rw[E,e]
  ·show(26+26*((a+(b+1) / 26) % 26)+(b+1) % 26) % 17576=(26+26*a+b+1) % 17576
   omega
  ·show(702+676*((a+(b+1) / 26) % 26)+26*((b+1) % 26)+0) % 17576=(26+26*a+b+1) % 17576
   omega
 ·have e:(a+(b+(c+1) / 26) / 26) / 26=0∨(a+(b+(c+1) / 26) / 26) / 26=1:=by omega
  have E:oh [a,b,c]=([(a+(b+(c+1) / 26) / 26) % 26,(b+(c+1) / 26) % 26,(c+1) % 26]++List.replicate ((a+(b+(c+1) / 26) / 26) / 26) 0).take 3:=rfl
  have G:rk [(a+(b+(c+1) / 26) / 26) % 26,(b+(c+1) / 26) % 26,(c+1) % 26] % 17576=(702+676*a+26*b+c+1) % 17576:=by
   show(702+676*((a+(b+(c+1) / 26) / 26) % 26)+26*((b+(c+1) / 26) % 26)+(c+1) % 26) % 17576=_
   omega
  rcases e with e | e<;>rw[E,e]<;>exact G
theorem Fl {l:List Nat} (h:iQ l):iQ (oh l):=by
 have h1:=ko l
 have h0:=h.ne
 refine⟨?_,?_,fun c hc=>?_⟩
 ·rw[oh,List.length_take,List.length_append,h1];omega
 ·rw[oh,List.length_take];omega
 ·rcases List.mem_append.mp (List.mem_of_mem_take hc) with z | z
  ·exact xI h.lt c z
  ·rw[(List.mem_replicate.mp z).2];decide
theorem Kz (l:List Nat) (h0:0<l.length) (h:l.length≤4):Txt.slice (aP l) none (some 3)=aP (l.take 3):=by
 match l,h0,h with
 | [a],_,_=>with_unfolding_all rfl
 | [a,b],_,_=>with_unfolding_all rfl
 | [a,b,c],_,_=>with_unfolding_all rfl
 | [a,b,c,d],_,_=>with_unfolding_all rfl
theorem AG (n:Nat) (h:n≤1):Txt.mul "a" (n:Int)=aP (List.replicate n 0):=by
 match n,h with
 | 0,_=>with_unfolding_all rfl
 | 1,_=>with_unfolding_all rfl
theorem KA (l:List Nat) (h:l.length≤3):Txt.join "" (l.map fun c=>aP [c])=aP l:=by
 match l,h with
 | [],_=>with_unfolding_all rfl
 | [a],_=>with_unfolding_all rfl
 | [a,b],_=>with_unfolding_all rfl
 | [a,b,c],_=>with_unfolding_all rfl
 | _::_::_::_::_,h=>simp at h
def Ie:Sp:=fun vs H Q _=>∃l:List Nat,vs=[.str (aP l)]∧iQ l∧Q (.str (aP (oh l))) H
theorem dI:aN ["_law_word","_law_letters","_law_found","_law_more","_law_sign","_law_number"] ["_law_word"] (ag gZ):=⟨rfl,rfl,rfl,by decide+kernel,rfl,by decide+kernel,by decide+kernel⟩
theorem AH {a:bR} (T:Txt K mg a):aS P w K mg base bp 1 a.kc a.my ["_law_word"] Ie:=by
 refine T.CA.ok dI (fun vs H Q E h=>?_) (fun cdv A outer s H vs Q E hr h=>?_)
 ·obtain⟨l,rfl,_⟩:=h
  rfl
 ·obtain⟨l,rfl,hw,k⟩:=h
  refine⟨_,(ai (ay (i:=1) dI.nd rfl (Or.inl rfl) bo)
  (ai (ay (i:=2) dI.nd rfl (Or.inl rfl) bo)
  (ai (ay (i:=3) dI.nd rfl (Or.inl rfl) aj)
  (ai (cx PassesOwn.never rfl (JG (HJ (pv 0) ik ik (kQ (FU Bl aj)))) (aF (i:=4) dI.nd rfl (Or.inl rfl))
   (ai (ay (i:=5) dI.nd rfl (Or.inl rfl) (aG dY (gx PySem.F.plainAttrs_str PySem.F.slot_str_index PySem.F.type_str_index EK (pv 1) (ae (pv 4) ah)) (pv 3)))
   (ai (ay (i:=2) dI.nd rfl (Or.inl rfl) (aG qc (aH Bt (pv 1) (aG fg (pv 5) aj) (fun _ _=>rfl)) (pv 2)))
   (aq (ay (i:=3) dI.nd rfl (Or.inl rfl) (aG il (pv 5) aj))))))
  (aq (aQ (pe Jt (aG qc (pv 2) (aG HK bo (pv 3))) ik (kQ aj)))))))),?_⟩
  have lw:=fI l
  have YZ:=hw.le
  have big:(100:Nat)≤sizeLine:=by decide
  dsimp only[nB,rB,tC,aL]
  refine⟨_,rfl,_,rfl,_,rfl,aP l,rfl,rfl,rfl,rfl,by omega,nQ (aP l),rfl,?asc,HI (fun i σ H'=>∃v4 v5:Option V,σ=[some (.str (aP l)),some (.str kE),some (.str (aP (cw (l.drop (l.length-i))).1)),some (.int ((cw (l.drop (l.length-i))).2:Nat)),v4,v5]∧H'=H)
   ⟨none,none,?st,rfl⟩ ?_ ?_⟩
  case asc=>rw[jY];exact yG fun c hc=>hw.lt c (List.mem_reverse.mp hc)
  case st=>rw[Nat.sub_zero,List.drop_length];rfl
  ·rintro i x σ H1 hx ⟨v4,v5,rfl,rfl⟩
   rw[jY] at hx
   obtain⟨c,hc,rfl⟩:=C' hx
   have hi:i<l.length:=by have:=(List.getElem?_eq_some_iff.mp hc).1;rwa [List.length_reverse] at this
   rw[List.getElem?_reverse hi] at hc
   have QW:=hw.lt c (List.mem_of_getElem? hc)
   have ed:l.drop (l.length-(i+1))=c::l.drop (l.length-i):=by
    have h1:l.length-(i+1)=l.length-1-i:=by omega
    have h2:l.length-i=l.length-1-i+1:=by omega
    rw[h1,h2]
    exact List.drop_eq_getElem?_toList_append.trans (by rw[hc];rfl)
   have hm:=mI (l:=l.drop (l.length-i)) fun x hx=>hw.lt x (List.mem_of_mem_drop hx)
   have hlen:=ko (l.drop (l.length-i))
   rw[List.length_drop] at hlen
   have ea:cw (c::l.drop (l.length-i))=(((c+(cw (l.drop (l.length-i))).2) % 26)::(cw (l.drop (l.length-i))).1,(c+(cw (l.drop (l.length-i))).2) / 26):=rfl
   rw[ed,ea]
   generalize cw (l.drop (l.length-i))=g at hm hlen ⊢
   have eN:((c:Int)+(g.2:Int)) % 26=(((c+g.2) % 26:Nat):Int):=by rw[Int.natCast_emod,Int.natCast_add];rfl
   have eD:((c:Int)+(g.2:Int)) / 26=(((c+g.2) / 26:Nat):Int):=by rw[Int.natCast_ediv,Int.natCast_add];rfl
   refine⟨_,rfl,rfl,_,rfl,kE,⟨#[97+c]⟩,c,[],rfl,rfl,Ic c QW,_,rfl,_,_,rfl,rfl,?_⟩
   refine⟨_,rfl,_,rfl,_,_,rfl,rfl,cpos (by decide),kE,_,97+(c+g.2) % 26,rfl,rfl,xH,by rw[eN];exact ax (C8 _ (Nat.mod_lt _ (by decide))),_,rfl,_,_,rfl,rfl,?len,_,rfl,_,_,rfl,rfl,⟨by decide,by decide⟩,?_⟩
   case len=>
    have e1:Str.length (⟨#[97+(c+g.2) % 26]⟩:Str)=1:=rfl
    rw[e1,fI]
    omega
   refine⟨some (.str ⟨#[97+c]⟩),some (.int ((c:Int)+(g.2:Int))),?_,rfl⟩
   show[some (V.str (aP l)),some (V.str kE),some (V.str ((⟨#[97+(c+g.2) % 26]⟩:Str)++aP g.1)),some (V.int (((c:Int)+(g.2:Int)) / 26)),some (V.str ⟨#[97+c]⟩),some (V.int ((c:Int)+(g.2:Int)))]=_
   have e2:(⟨#[97+(c+g.2) % 26]⟩:Str)++aP g.1=aP (((c+g.2) % 26)::g.1):=jX [(c+g.2) % 26] g.1
   rw[e2,eD]
  ·rintro σ H1 ⟨v4,v5,rfl,rfl⟩
   have es:(nQ (aP l)).cps.size=l.length:=by
    rw[jY]
    exact(fI _).trans List.length_reverse
   rw[es,Nat.sub_self,List.drop_zero]
   have hm:=mI hw.lt
   have hlen:=ko l
   have h0:=hw.ne
   have ef:oh l=((cw l).1++List.replicate (cw l).2 0).take 3:=rfl
   rw[ef] at k
   generalize cw l=g at hm hlen k ⊢
   refine⟨_,rfl,_,rfl,"a",(g.2:Int),rfl,rfl,by omega,by omega,(by show 1≤1000;decide),_,_,rfl,rfl,?len,_,rfl,_,rfl,?len2,?_⟩
   case len=>
    rw[AG _ hm,fI,fI,List.length_replicate]
    omega
   case len2=>
    rw[AG _ hm,jX,fI,List.length_append,List.length_replicate]
    omega
   rw[AG _ hm,jX,Kz _ (by rw[List.length_append];omega) (by rw[List.length_append,List.length_replicate];omega)]
   exact k
theorem Ig (l:List Str):(l.map V.str).all g8=true:=by rw[List.all_map];exact List.all_eq_true.mpr fun _ _=>rfl
theorem bD.lI {H:Hp} {F L N:Addr} (h:bD H F L) (e:H N=none):N≠F∧N≠L:=by
 obtain⟨ms,n,sd,a,b,_⟩:=h.ex
 exact⟨(av a e).symm,(av b e).symm⟩
theorem bD.lo {H H':Hp} {F L N:Addr} (h:bD H' F L) (k:cW F L H H') (e:H' N=none):H N=none:=by
 obtain⟨n1,n2⟩:=h.lI e
 cases z:H N with
 | none=>rfl
 | some o=>have:=k N o z n1 n2;rw[e] at this;cases this
theorem bD.upd {H:Hp} {F L N:Addr} {o:HO} (h:bD H F L) (n:N≠F∧N≠L):bD (upd H N o) F L:=by
 obtain⟨ms,m,sd,a,b,c⟩:=h.ex
 exact⟨ms,m,sd,by rw[au n.1.symm];exact a,by rw[au n.2.symm];exact b,c⟩
theorem cW.AI {H H':Hp} {F L N:Addr} {o:HO} (k:cW F L H H') (e:H N=none):cW F L H (upd H' N o):=fun b p h n m=>by
 rw[au (av h e)]
 exact k b p h n m
theorem KC {T:(Bool→Hp→Prop)→Prop} {Qf:Bool→Hp→Prop} {c:Bool} (S:Hp→Prop) (h:∀Qc:Bool→Hp→Prop,(∀H',S H'→Qc c H')→T Qc) (x:∀H',S H'→Qf c H'):T Qf:=h Qf x
def iJ:List Str:=["and","not","or"]
structure lJ (ss:List Str):Prop where
 once:ss.Nodup
 words:∀s∈ss,∃l,iQ l∧s=aP l
 no:∀s∈ss,s ∉ iJ
theorem lJ.perm {ss rs:List Str} (h:lJ ss) (p:rs.Perm ss):lJ rs:=⟨p.nodup_iff.mpr h.once,fun s hs=>h.words s (p.mem_iff.mp hs),fun s hs=>h.no s (p.mem_iff.mp hs)⟩
structure Met (B:List Str) (l:List Nat) (vis:List Str):Prop where
 once:vis.Nodup
 sub:∀v∈vis,v∈B
 ex:∃r0,rk l % 17576=(r0+vis.length) % 17576∧∀(j:Nat) (v:Str),vis[j]? =some v→∃l',v=aP l'∧rk l' % 17576=(r0+j) % 17576
theorem Met.step {B:List Str} {l:List Nat} {vis:List Str} (h:Met B l vis) (hw:iQ l) (hB:B.length≤20) (hl:aP l∈B):Met B (oh l) (vis++[aP l]):=by
 obtain⟨r0,h1,h2⟩:=h.ex
 have len:=iZ h.once h.sub
 have fresh:aP l ∉ vis:=fun z=>by
  obtain⟨j,hj⟩:=List.getElem?_of_mem z
  obtain⟨l',e,e2⟩:=h2 j _ hj
  rw[←C9 e,h1] at e2
  have:=(List.getElem?_eq_some_iff.mp hj).1
  omega
 refine⟨?_,fun v hv=>?_,r0,?_,fun j v hj=>?_⟩
 ·rw[List.nodup_append]
  exact⟨h.once,by simp,fun a ha b hb e=>fresh (by rw[←List.mem_singleton.mp hb,←e];exact ha)⟩
 ·rcases List.mem_append.mp hv with z | z
  ·exact h.sub v z
  ·rw[List.mem_singleton.mp z];exact hl
 ·rw[Ky hw,List.length_append]
  show(rk l+1) % 17576=(r0+(vis.length+1)) % 17576
  omega
 ·by_cases lt:j<vis.length
  ·rw[List.getElem?_append_left lt] at hj
   exact h2 j v hj
  ·have hl2:=(List.getElem?_eq_some_iff.mp hj).1
   rw[List.length_append] at hl2
   have hl3:j<vis.length+1:=hl2
   have e:j=vis.length:=by omega
   subst e
   rw[List.getElem?_append_right (Nat.le_refl _),Nat.sub_self] at hj
   have e2:aP l=v:=Option.some.inj hj
   exact⟨l,e2.symm,h1⟩
def Ih:Sp:=fun vs H Q _=>∃(F L:Addr) (m:Nat),vs=[.ref F,.int m]∧bD H F L∧m≤6∧
 ∀(D:Addr) (ss:List Str) (H':Hp),H D=none→cW F L H H'→bD H' F L→H' D=some (.tup (ss.map V.str))→ss.length=m→lJ ss→PyProof.Rows.sortedS ss=true→Q (.ref D) H'
theorem fX:aN ["_law_feed_here","_law_many","_law_found","_law_k","_law_signs","_law_word"] ["_law_feed_here","_law_many"] (ag d7):=⟨rfl,rfl,rfl,by decide+kernel,rfl,by decide+kernel,by decide+kernel⟩
theorem AJ {a:bR} (T:Txt K mg a):aS P w K mg base bp 2 a.kd a.mz ["_law_feed_here","_law_many"] Ih:=by
 have bE:=i4 (P:=P) (w:=w) (base:=base) T
 have Dc:=AH (P:=P) (w:=w) (base:=base) T
 refine T.CG.ok fX (fun vs H Q E h=>?_) (fun cdv A outer s H vs Q E hr h=>?_)
 ·obtain⟨F,L,m,rfl,_⟩:=h
  rfl
 ·obtain⟨F,L,m,rfl,hf,hm,k⟩:=h
  have bj:aO 1 _:=hr
  have AK:aO 1 _:=hr
  refine⟨_,(ai (ay (i:=2) fX.nd rfl (Or.inl rfl) (dc ah))
  (ai (cx PassesOwn.never rfl (dD rfl T.fV (ae (pv 1) ah)) (aF (i:=3) fX.nd rfl (Or.inl rfl))
   (ai (fO (i:=4) (aI.mk' (esc:=ag d7) (N:=["_law_feed_here","_law_many","_law_found","_law_k","_law_signs","_law_word"]) (own:=["_law_sign"]) (aM:=["_law_feed_here"]) (bH:=[0]) rfl rfl (by decide+kernel)) rfl (dD rfl T.fV (ae (aG dY aj (az bE bj rfl T.bT T.bU T.bV .nil aJ (ae (pv 0) (ae aj ah)))) ah)) (fun _ _ _ _=>(aF (i:=0) (show List.Nodup (["_law_sign","_law_feed_here"]:List Str) by decide+kernel) rfl (Or.inl rfl))) (fun _ _ _ _=>bM) (fun _ _ _ _=>(az bE bj rfl T.bT T.bU T.bV .nil aJ (ae (pv 1) (ae aj ah)))) fX.nd rfl rfl)
   (ai (ay (i:=5) fX.nd rfl (Or.inl rfl) (gx PySem.F.plainAttrs_str PySem.F.slot_str_join PySem.F.type_str_join (Eu K) bo (ae (cz (aI.mk' (esc:=ag d7) (N:=["_law_feed_here","_law_many","_law_found","_law_k","_law_signs","_law_word"]) (own:=["_law_sign"]) (aM:=[]) (bH:=[]) rfl rfl (by decide+kernel)) rfl (du (pv 4)) (fun _ _ _ _=>(aF (i:=0) (show List.Nodup (["_law_sign"]:List Str) by decide+kernel) rfl (Or.inl rfl))) (fun _ _ _ _=>bM) (fun _ _ _ _=>(aH Bt bo (pv 0) (fun _ _=>rfl)))) ah)))
   (ai (jG PassesOwn.never (PW.pt (g6 (bh (wu K) (pv 5) (pv 2) (by with_unfolding_all rfl)) (iS (bh (wu K) (pv 5) (bL (ae bo (ae bo (ae bo ah)))) (by with_unfolding_all rfl)))))
    (aq (ay (i:=5) fX.nd rfl (Or.inl rfl) (az Dc AK rfl T.CB T.CD T.CF .nil aJ (ae (pv 5) ah)))))
   (aq (fb (gx PySem.F.plainAttrs_list PySem.F.slot_list_append PySem.F.type_list_append fu (pv 2) (ae (pv 5) ah))))))))
  (aq (aQ (bF (dN K) (by rfl) T.d6 de (ae (aU (yC K) (by rfl) T.xB tV (ae (pv 2) ah)) ah)))))),?_⟩
  have p3:(3:Nat)<2 ^ 1000:=Nat.lt_of_lt_of_le (show 3<2 ^ 2 by decide) (Nat.pow_le_pow_right (by decide) (by decide))
  have VR:(26:Nat)<2 ^ 1000:=Nat.lt_of_lt_of_le (show 26<2 ^ 6 by decide) (Nat.pow_le_pow_right (by decide) (by decide))
  have big:(100:Nat)≤sizeLine:=by decide
  refine⟨by decide,fun N hN=>?_⟩
  have nN:=hf.lI hN
  refine⟨_,rfl,_,rfl,by omega,by omega,iV (n:=(m:Int).toNat) (fun i σ H'=>∃(fs:List Str) (v3 v4 v5:Option V),σ=[some (.ref F),some (.int (m:Nat)),some (.ref N),v3,v4,v5]∧cW F L H H'∧bD H' F L∧H' N=some (.lst (fs.map V.str))∧fs.length=i∧lJ fs)
   ⟨[],none,none,none,rfl,(Same.new hN).kb2,hf.same (Same.new hN),af,rfl,⟨List.nodup_nil,fun s hs=>(by cases hs),fun s hs=>(by cases hs)⟩⟩ ?_ ?_⟩
  ·rintro i σ H1 hi ⟨fs,v3,v4,v5,rfl,k1,f1,n1,lf,ok⟩
   rw[Int.toNat_natCast] at hi
   refine⟨_,rfl,F,L,3,rfl,f1,by decide,p3,fun t H2 t1 k2 f2=>⟨_,_,rfl,rfl,_,rfl,by omega,by omega,fun C hC=>?_⟩⟩
   have n2:=k2 _ _ n1 nN.1 nN.2
   have nC:=f2.lI hC
   have VS:N≠C:=av n2 hC
   refine me (fun j σ H'=>∃(rs:List Nat) (v:Option V),σ=[v,some (.ref F)]∧cW F L H2 H'∧bD H' F L∧H' C=some (.lst (rs.map fun r=>V.int (r:Nat)))∧rs.length=j∧∀r∈rs,r<26)
    ⟨[],none,rfl,(Same.new hC).kb2,f2.same (Same.new hC),af,rfl,fun r hr=>(by cases hr)⟩ ?_ ?_
   ·rintro j σ H3 hj ⟨rs,v,rfl,k3,f3,c3,lr,hrs⟩
    refine⟨_,rfl,F,L,26,rfl,f3,by decide,VR,fun r H4 r1 k4 f4=>?_⟩
    have c4:=k4 _ _ c3 nC.1 nC.2
    refine⟨_,c4,?_,rs++[r],_,rfl,cW.AI (k3.trans k4) hC,f4.upd nC,?_,?_,fun x hx=>?_⟩
    ·rw[List.length_map];omega
    ·rw[af,List.map_append];rfl
    ·rw[List.length_append,lr];rfl
    ·rcases List.mem_append.mp hx with z | z
     ·exact hrs x z
     ·rw[List.mem_singleton.mp z];exact r1
   rintro σ H3 ⟨rs,v,rfl,k3,f3,c3,lr,hrs⟩
   have n3:=k3 _ _ n2 nN.1 nN.2
   have Y_:rs.length=t+1:=by omega
   dsimp only[aL]
   refine⟨rfl,_,rfl,C,rfl,⟨_,.of c3⟩,fun D hD=>?_⟩
   refine gX (xs:=rs.map fun r=>V.int (r:Nat)) (fun j σ H'=>∃(v:Option V),σ=[v]∧Same H3 H'∧H' D=some (.lst (((rs.take j).map fun c=>aP [c]).map V.str)))
    ⟨none,?sg,Same.new hD,af⟩ (fun j σ H' _ ⟨_,_,s,_⟩=>.of (s _ _ c3)) ?_ ?_
   case sg=>rfl
   ·rintro j y σ H4 hy ⟨v,rfl,s4,e4⟩
    rw[List.getElem?_map] at hy
    obtain⟨r,er,rfl⟩:=Option.map_eq_some_iff.mp hy
    have hj:j<rs.length:=(List.getElem?_eq_some_iff.mp er).1
    refine⟨_,rfl,kE,_,97+r,rfl,rfl,xH,ax (C8 r (hrs r (List.mem_of_getElem? er))),_,e4,?_,_,rfl,s4.kbn hD KB.write,?_⟩
    ·rw[List.length_map,List.length_map,List.length_take];omega
    ·rw[af,take_snoc er,List.map_append,List.map_append];rfl
   rintro σ H4 ⟨v,rfl,s4,e4⟩
   rw[List.length_map,List.take_length] at e4
   refine⟨"",D,rs.map fun c=>aP [c],rfl,rfl,.of e4,?jl,fun z hz OT=>?_⟩
   case jl=>
    have e0:(Str.length ("":Str))=0:=rfl
    have e1:((rs.map fun c=>aP [c]).map (·.length)).sum=rs.length:=by
     rw[List.map_map]
     have:(fun c=>(aP [c]).length)=fun _=>1:=funext fun c=>fI [c]
     show(rs.map fun c=>(aP [c]).length).sum=_
     rw[this,List.map_const']
     induction rs.length with
     | zero=>rfl
     | succ n ih=>rw[List.replicate_succ,List.sum_cons,ih];omega
    rw[e0,e1];omega
   rw[KA rs (by omega)] at OT
   subst OT
   have wd:iQ rs:=⟨by omega,by omega,hrs⟩
   have n4:=s4 _ _ n3
   have k4:cW F L H H4:=((k1.trans k2).trans k3).trans s4.kb2
   have f4:=f3.same s4
   dsimp only[aL]
   refine rX (fun mm σ H'=>∃(l:List Nat) (vis:List Str),mm=50-vis.length∧σ=[some (.ref F),some (.int (m:Nat)),some (.ref N),some (.int (0+(i:Int))),some (.ref C),some (.str (aP l))]∧Same H4 H'∧iQ l∧Met (fs++iJ) l vis)
    ⟨_,rs,[],rfl,rfl,.refl _,wd,List.nodup_nil,fun v hv=>(by cases hv),rk rs,rfl,fun j v hj=>(by simp at hj)⟩ ?_ ?_
   ·rintro mm σ H5 ⟨l,vis,rfl,rfl,s5,hw,met⟩
    have n5:=s5 _ _ n4
    refine KC (c:=decide (aP l∈fs++iJ)) (Same H5) (fun Qc hq=>?_) (fun H6 s6=>?_)
    ·refine⟨_,rfl,_,rfl,N,_,rfl,.inl (.of n5),rfl,Ig fs,_,rfl,?_⟩
     rw[if_neg Bool.false_ne_true,pC]
     refine cj (fun z=>?_) (fun z=>?_)
     ·have z':aP l∈fs:=of_decide_eq_true z
      have:=hq H5 (.refl _)
      rwa [decide_eq_true (List.mem_append.mpr (.inl z'))] at this
     ·have z':aP l ∉ fs:=fun y=>z (decide_eq_true y)
      refine⟨_,rfl,by show 3≤sizeLine;decide,fun Z hZ=>⟨Z,_,rfl,.inr (.of af),rfl,rfl,_,rfl,?_⟩⟩
      have:=hq _ (Same.new (o:=.tup [.str "and",.str "not",.str "or"]) hZ)
      have ee:decide (aP l∈fs++iJ)=(if false=true then !inV (V.str (aP l)) [.str "and",.str "not",.str "or"] else inV (V.str (aP l)) [.str "and",.str "not",.str "or"]):=by
       rw[if_neg (by decide),show([.str "and",.str "not",.str "or"]:List V)=iJ.map V.str from rfl,pC]
       exact decide_eq_decide.mpr ⟨fun y=>(List.mem_append.mp y).resolve_left z',fun y=>List.mem_append.mpr (.inr y)⟩
      rw[ee] at this
      exact this
    ·refine cj (fun z=>?_) (fun z=>?_)
     ·have z':=of_decide_eq_true z
      have lB:(fs++iJ).length≤20:=by rw[List.length_append];show fs.length+3≤20;omega
      have QX:=met.step hw lB z'
      have lv:=iZ met.once met.sub
      refine⟨_,rfl,l,rfl,hw,50-(vis++[aP l]).length,?_,oh l,vis++[aP l],rfl,rfl,s5.trans s6,Fl hw,QX⟩
      rw[List.length_append]
      show 50-(vis.length+1)<_
      omega
     ·have z':aP l ∉ fs++iJ:=fun y=>z (decide_eq_true y)
      have n6:=s6 _ _ n5
      refine⟨_,rfl,.inl ⟨rfl,_,.of n6⟩,_,rfl,N,_,_,rfl,rfl,n6,?_,fs++[aP l],_,_,_,rfl,?_,?_,?_,?_,?_⟩
      ·rw[List.length_map];omega
      ·exact cW.AI (k4.trans (s5.trans s6).kb2) hN
      ·exact(f4.same (s5.trans s6)).upd nN
      ·rw[af,List.map_append];rfl
      ·rw[List.length_append,lf];rfl
      ·refine⟨?_,fun s hs=>?_,fun s hs=>?_⟩
       ·rw[List.nodup_append]
        exact⟨ok.once,by simp,fun a ha b hb e=>z' (List.mem_append.mpr (.inl (by rw[←List.mem_singleton.mp hb,←e];exact ha)))⟩
       ·rcases List.mem_append.mp hs with y | y
        ·exact ok.words s y
        ·exact⟨l,hw,List.mem_singleton.mp y⟩
       ·rcases List.mem_append.mp hs with y | y
        ·exact ok.no s y
        ·rw[List.mem_singleton.mp y];exact fun x=>z' (List.mem_append.mpr (.inr x))
   ·rintro σ H Q Q' hQ ⟨v,e1,v2,e2,a,xs,e3,e4,e5,e6,b,e7,q⟩
    refine⟨v,e1,v2,e2,a,xs,e3,e4,e5,e6,b,e7,?_⟩
    revert q
    cases b with
    | true=>exact fun q=>hQ _ _ q
    | false=>
     rintro⟨v,e1,z,q⟩
     refine⟨v,e1,z,fun p hp=>?_⟩
     obtain⟨a,xs,e3,e4,e5,e6,b,e7,q⟩:=q p hp
     exact⟨a,xs,e3,e4,e5,e6,b,e7,hQ _ _ q⟩
  ·rintro σ H1 ⟨fs,v3,v4,v5,rfl,k1,f1,n1,lf,ok⟩
   rw[Int.toNat_natCast] at lf
   refine⟨_,rfl,N,fs,rfl,.of n1,by omega,fun p ss hp perm Dd=>?_⟩
   have sp:=Same.new (o:=.lst (ss.map V.str)) hp
   refine⟨p,_,rfl,.inl ⟨.of af,fun D hD=>?_⟩⟩
   have sD:=Same.new (o:=.tup (ss.map V.str)) hD
   have kk:=k1.trans sp.kb2
   have ff:=f1.same sp
   exact k D ss _ (ff.lo kk hD) (kk.trans sD.kb2) (ff.same sD) af (by rw[perm.length_eq,lf]) (ok.perm perm) Dd
structure Term where
 num:Int
 parts:List (Str×Int)
def jZ (p:Str×Int):Dt:=.tup [.str p.1,.int p.2]
def Term.dt (t:Term):Dt:=.tup [.int t.num,.tup (t.parts.map jZ)]
inductive ao where
 | same (t u:Term) | less (t u:Term) | sign (a:Str) (t:Term) (s:Int) | alike (a:Str) (t:Term) (b:Str) (u:Term)
 | no (f:ao) | and (f g:ao) | or (f g:ao) | some (n:Str) (f:ao) | each (n:Str) (f:ao)
def ao.dt:ao→Dt
 | .same t u=>.tup [.str "same",t.dt,u.dt]
 | .less t u=>.tup [.str "less",t.dt,u.dt]
 | .sign a t s=>.tup [.str "sign",.str a,t.dt,.int s]
 | .alike a t b u=>.tup [.str "alike",.str a,t.dt,.str b,u.dt]
 | .no f=>.tup [.str "not",f.dt]
 | .and f g=>.tup [.str "and",f.dt,g.dt]
 | .or f g=>.tup [.str "or",f.dt,g.dt]
 | .some n f=>.tup [.str "some",.str n,f.dt]
 | .each n f=>.tup [.str "each",.str n,f.dt]
def ao.deep:ao→Nat
 | .no f=>f.deep+1
 | .and f g=>max f.deep g.deep+1
 | .or f g=>max f.deep g.deep+1
 | .some _ f=>f.deep+1
 | .each _ f=>f.deep+1
 | _=>0
theorem uv:∀ps:List (Str×Int),Dt.gN (ps.map jZ)=true
 | []=>by simp[Dt.gN]
 | p::ps=>by rw[List.map_cons,Dt.gN,uv ps];simp[jZ,Dt.gk,Dt.gN]
theorem Term.gk (t:Term):t.dt.gk=true:=by simp[Term.dt,Dt.gk,Dt.gN,uv]
theorem ao.gk (s:ao):s.dt.gk=true:=by
 induction s<;>simp[ao.dt,Dt.gk,Dt.gN,Term.gk, *]
def dW (ss:List Str) (t:Term):Prop:=t.parts.length≤3∧∀q∈t.parts,q.1∈ss
def ao.Over (ss:List Str):ao→Prop
 | .same t u=>dW ss t∧dW ss u
 | .less t u=>dW ss t∧dW ss u
 | .sign _ t _=>dW ss t
 | .alike _ t _ u=>dW ss t∧dW ss u
 | .no f=>f.Over ss
 | .and f g=>f.Over ss∧g.Over ss
 | .or f g=>f.Over ss∧g.Over ss
 | .some _ f=>f.Over ss
 | .each _ f=>f.Over ss
def ao.word:ao→Str
 | .same _ _=>"same" | .less _ _=>"less" | .sign _ _ _=>"sign" | .alike _ _ _ _=>"alike" | .no _=>"not" | .and _ _=>"and" | .or _ _=>"or" | .some _ _=>"some" | .each _ _=>"each"
def ao.inner:ao→List ao
 | .no f=>[f] | .and f g=>[f,g] | .or f g=>[f,g] | .some _ f=>[f] | .each _ f=>[f] | _=>[]
def ao.spots:ao→List Nat
 | .no _=>[1] | .and _ _=>[1,2] | .or _ _=>[1,2] | .some _ _=>[2] | .each _ _=>[2] | _=>[]
structure kG where
 d:Addr
 no:Addr
 an:Addr
 or:Addr
 so:Addr
 ea:Addr
def cY (b:kG):List (Str×Option V):=
 [("not",some (.ref b.no)),("and",some (.ref b.an)),("or",some (.ref b.or)),("some",some (.ref b.so)),("each",some (.ref b.ea)),("same",none),("less",none),("sign",none),("alike",none)]
structure iR (K:PySem.W.Frag) (pr:Params) (mg:Str→Option Value) (b:kG):Prop where
 KD:mg "PART_SPOTS"=some (.ref b.d)
 KG:lj K pr b.d (cY b)
 no:∀H,aW K H b.no [.int 1]
 an:∀H,aW K H b.an [.int 1,.int 2]
 or:∀H,aW K H b.or [.int 1,.int 2]
 so:∀H,aW K H b.so [.int 2]
 ea:∀H,aW K H b.ea [.int 2]
theorem iR.spots {K:PySem.W.Frag} {pr:Params} {mg:Str→Option Value} {b:kG} (U:iR K pr mg b) (f:ao) (H:Hp) (e:Addr) (he:aW K H e []):
  ∃r p,(f.word,r)∈cY b∧r.getD (.ref e)=.ref p∧aW K H p (f.spots.map fun(n:Nat)=>V.int (n:Int)):=by
 cases f with
 | same t u=>exact⟨none,e,by simp[cY,ao.word],rfl,he⟩
 | less t u=>exact⟨none,e,by simp[cY,ao.word],rfl,he⟩
 | sign a t s=>exact⟨none,e,by simp[cY,ao.word],rfl,he⟩
 | alike a t c u=>exact⟨none,e,by simp[cY,ao.word],rfl,he⟩
 | no f=>exact⟨some (.ref b.no),b.no,by simp[cY,ao.word],rfl,U.no H⟩
 | and f g=>exact⟨some (.ref b.an),b.an,by simp[cY,ao.word],rfl,U.an H⟩
 | or f g=>exact⟨some (.ref b.or),b.or,by simp[cY,ao.word],rfl,U.or H⟩
 | some n f=>exact⟨some (.ref b.so),b.so,by simp[cY,ao.word],rfl,U.so H⟩
 | each n f=>exact⟨some (.ref b.ea),b.ea,by simp[cY,ao.word],rfl,U.ea H⟩
theorem aX {K:PySem.W.Frag} {H:Hp} {xs:List V} {d:Dt} {ds:List Dt} (h:aA K H xs (d::ds)):∃y ys,xs=y::ys∧ak K H y d∧aA K H ys ds:=by
 cases xs with
 | nil=>simp[aA] at h
 | cons y ys=>rw[aA] at h;exact⟨y,ys,rfl,h.1,h.2⟩
theorem gq {K:PySem.W.Frag} {H:Hp} {x:V} {ds:List Dt} (h:ak K H x (.tup ds)):∃a xs,x=.ref a∧aW K H a xs∧aA K H xs ds:=by rw[ak] at h;exact h
theorem ao.isTup (f:ao):∃ds,f.dt=.tup (.str f.word::ds):=by
 cases f<;>exact⟨_,rfl⟩
theorem KH {K:PySem.W.Frag} {H:Hp} {x:V} (f:ao) (h:ak K H x f.dt):∃a xs,x=.ref a∧aW K H a xs∧xs[0]? =some (.str f.word)∧
  ∀(i n:Nat),f.spots[i]? =some n→∃y g,xs[n]? =some y∧f.inner[i]? =some g∧ak K H y g.dt:=by
 obtain⟨ds,e⟩:=f.isTup
 have h':=h
 rw[e] at h'
 obtain⟨a,xs,rfl,hq,hd⟩:=gq h'
 obtain⟨y0,ys,rfl,h0,hd1⟩:=aX hd
 clear hd
 refine⟨a,_,rfl,hq,by rw[ak] at h0;rw[h0];rfl,?_⟩
 have one:∀{i n m:Nat},([m]:List Nat)[i]? =some n→i=0∧n=m:=fun {i n m} z=>by
  cases i with
  | zero=>simp at z;exact⟨rfl,z.symm⟩
  | succ i=>simp at z
 have two:∀{i n m k:Nat},([m,k]:List Nat)[i]? =some n→(i=0∧n=m)∨(i=1∧n=k):=fun {i n m k} z=>by
  match i with
  | 0=>simp at z;exact .inl ⟨rfl,z.symm⟩
  | 1=>simp at z;exact .inr ⟨rfl,z.symm⟩
  | i+2=>simp at z
 cases f with
 | same t u=>intro i n z;simp[ao.spots] at z
 | less t u=>intro i n z;simp[ao.spots] at z
 | sign b t s=>intro i n z;simp[ao.spots] at z
 | alike b t c u=>intro i n z;simp[ao.spots] at z
 | no f=>
  cases e
  obtain⟨y1,ys,rfl,h1,_⟩:=aX hd1
  intro i n z
  obtain⟨rfl,rfl⟩:=one z
  exact⟨y1,f,rfl,rfl,h1⟩
 | and f g=>
  cases e
  obtain⟨y1,ys,rfl,h1,hd2⟩:=aX hd1
  obtain⟨y2,ys,rfl,h2,_⟩:=aX hd2
  intro i n z
  rcases two z with⟨rfl,rfl⟩ | ⟨rfl,rfl⟩
  ·exact⟨y1,f,rfl,rfl,h1⟩
  ·exact⟨y2,g,rfl,rfl,h2⟩
 | or f g=>
  cases e
  obtain⟨y1,ys,rfl,h1,hd2⟩:=aX hd1
  obtain⟨y2,ys,rfl,h2,_⟩:=aX hd2
  intro i n z
  rcases two z with⟨rfl,rfl⟩ | ⟨rfl,rfl⟩
  ·exact⟨y1,f,rfl,rfl,h1⟩
  ·exact⟨y2,g,rfl,rfl,h2⟩
 | some m f=>
  cases e
  obtain⟨y1,ys,rfl,h1,hd2⟩:=aX hd1
  obtain⟨y2,ys,rfl,h2,_⟩:=aX hd2
  intro i n z
  obtain⟨rfl,rfl⟩:=one z
  exact⟨y2,f,rfl,rfl,h2⟩
 | each m f=>
  cases e
  obtain⟨y1,ys,rfl,h1,hd2⟩:=aX hd1
  obtain⟨y2,ys,rfl,h2,_⟩:=aX hd2
  intro i n z
  obtain⟨rfl,rfl⟩:=one z
  exact⟨y2,f,rfl,rfl,h2⟩
theorem uw (f:ao):f.spots.length=f.inner.length:=by cases f<;>rfl
theorem gs (f:ao):f.inner.length≤2:=by cases f<;>simp[ao.inner]
theorem AL (f g:ao) (h:g∈f.inner):g.deep<f.deep:=by
 cases f with
 | no f=>
  have:g=f:=by simpa[ao.inner] using h
  subst this;simp[ao.deep]
 | and f1 f2=>
  have:g=f1∨g=f2:=by simpa[ao.inner] using h
  rcases this with rfl | rfl<;>simp only[ao.deep]<;>omega
 | or f1 f2=>
  have:g=f1∨g=f2:=by simpa[ao.inner] using h
  rcases this with rfl | rfl<;>simp only[ao.deep]<;>omega
 | some n f=>
  have:g=f:=by simpa[ao.inner] using h
  subst this;simp[ao.deep]
 | each n f=>
  have:g=f:=by simpa[ao.inner] using h
  subst this;simp[ao.deep]
 | _=>simp[ao.inner] at h
theorem xJ:∀fs:List ao,Dt.gN (fs.map ao.dt)=true
 | []=>by simp[Dt.gN]
 | f::fs=>by rw[List.map_cons,Dt.gN,xJ fs,f.gk];rfl
def r6 (K:PySem.W.Frag):Sp:=fun vs H Q _=>∃(x:V) (f:ao),vs=[x]∧ak K H x f.dt∧∀(D:Addr) (xs:List V) (H':Hp),H D=none→Same H H'→H' D=some (.lst xs)→aA K H' xs (f.inner.map ao.dt)→Q (.ref D) H'
theorem r9:aN ["saying"] ["saying"] (ag cM):=⟨rfl,rfl,rfl,by decide+kernel,rfl,by decide+kernel,by decide+kernel⟩
theorem lK {a:bR} {b:kG} (T:Txt K mg a) (U:iR K w.params mg b):aS P w K mg base bp 1 a.dA a.d4 ["saying"] (r6 K):=by
 refine T.uS.ok r9 (fun vs H Q E h=>?_) (fun cdv A outer s H vs Q E hr h=>?_)
 ·obtain⟨x,f,rfl,_⟩:=h
  rfl
 ·obtain⟨x,f,rfl,hf,k⟩:=h
  obtain⟨a,xs,rfl,hq,h0,hsp⟩:=KH f hf
  refine⟨_,(aq (aQ (cz (aI.mk' (esc:=ag cM) (N:=["saying"]) (own:=["spot"]) (aM:=["saying"]) (bH:=[0]) rfl rfl (by decide+kernel)) rfl (eS (tX U.KG rfl U.KD (aH (aC K) (pv 0) aj (fun _ _=>rfl)) (bL ah))) (fun _ _ _ _=>(aF (i:=0) (show List.Nodup (["spot","saying"]:List Str) by decide+kernel) rfl (Or.inl rfl))) (fun _ _ _ _=>bM) (fun _ _ _ _=>(aH (aC K) (pv 1) (pv 0) (fun _ _=>rfl)))))),?_⟩
  refine⟨_,rfl,a,xs,0,.str f.word,rfl,rfl,hq,ax (j:=0) h0,by decide,fun e he=>?_⟩
  have s1:=Same.new (o:=.tup []) he
  obtain⟨r,p,hr1,hr2,zr⟩:=U.spots f (upd H e (.tup [])) e (.of af)
  refine⟨f.word,r,rfl,hr1,p,hr2,⟨_,zr⟩,fun C hC=>?_⟩
  refine dM (xs:=f.spots.map fun(n:Nat)=>V.int (n:Int)) (fun i σ H'=>∃(ys:List V) (v:Option V),σ=[v,some (.ref a)]∧Same (upd H e (.tup [])) H'∧H' C=some (.lst ys)∧aA K H' ys ((f.inner.take i).map ao.dt)∧ys.length=i)
   ⟨[],none,rfl,Same.new hC,af,dP,rfl⟩ (fun i σ H' _ ⟨_,_,_,h,_⟩=>h.pA zr) ?_ ?_
  ·rintro i y σ H1 hy ⟨ys,v,rfl,s2,e2,GB,ly⟩
   rw[List.getElem?_map] at hy
   cases en:f.spots[i]? with
   | none=>rw[en] at hy;cases hy
   | some n=>
    rw[en] at hy
    have ey:y=.int (n:Int):=(Option.some.inj hy).symm
    subst ey
    obtain⟨z,g,hz,hg,De⟩:=hsp i n en
    have kt:ia K H H1:=(s1.trans s2).kts
    refine⟨_,rfl,_,rfl,a,xs,_,z,rfl,rfl,kt _ _ hq,ax hz,ys,e2,?_,ys++[z],_,rfl,s2.kbn hC KB.write,af,?_,?_⟩
    ·have:i<f.spots.length:=(List.getElem?_eq_some_iff.mp en).1
     have h2:=gs f
     rw[uw] at this
     exact Nat.lt_of_lt_of_le (show ys.length<10 by omega) (by decide)
    ·have e1:f.inner.take (i+1)=f.inner.take i++[g]:=by rw[List.take_add_one,hg];rfl
     rw[e1,List.map_append]
     have kk:ia K H1 (upd H1 C (.lst (ys++[z]))):=KB.kts e2 KB.write
     exact wy (tY kk _ _ (xJ _) GB) (bX (eG (kt.trans kk) _ _ g.gk De) dP)
    ·rw[List.length_append,ly];rfl
  ·rintro σ H1 ⟨ys,v,rfl,s2,e2,GB,ly⟩
   rw[List.length_map,uw,List.take_length] at GB
   exact k C ys H1 (s1.free hC) (s1.trans s2) e2 GB
def ao.terms:ao→List Term
 | .same t u=>[t,u] | .less t u=>[t,u] | .sign _ t _=>[t] | .alike _ t _ u=>[t,u] | _=>[]
def ao.gu:ao→List Nat
 | .same _ _=>[1,2] | .less _ _=>[1,2] | .sign _ _ _=>[2] | .alike _ _ _ _=>[2,4] | _=>[]
def jr (t:Term):List Str:=t.parts.map (·.1)
def ao.gw (f:ao):List Str:=f.terms.flatMap jr
def ao.binds:ao→Option Str
 | .some n _=>Option.some n | .each n _=>Option.some n | _=>Option.none
def ao.Free:ao→Str→Prop
 | .same t u,y=>y∈jr t∨y∈jr u
 | .less t u,y=>y∈jr t∨y∈jr u
 | .sign _ t _,y=>y∈jr t
 | .alike _ t _ u,y=>y∈jr t∨y∈jr u
 | .no f,y=>f.Free y
 | .and f g,y=>f.Free y∨g.Free y
 | .or f g,y=>f.Free y∨g.Free y
 | .some n f,y=>f.Free y∧y≠n
 | .each n f,y=>f.Free y∧y≠n
theorem xK (f:ao) (y:Str):f.Free y↔(y∈f.gw∨∃g∈f.inner,g.Free y)∧f.binds≠some y:=by
 cases f<;>simp[ao.Free,ao.gw,ao.terms,ao.inner,ao.binds]
 all_goals (intro _;constructor<;>(intro h e;exact h e.symm))
theorem mJ {ss:List Str} {f:ao} (h:f.Over ss):∀t∈f.terms,dW ss t:=by
 cases f<;>simp[ao.Over,ao.terms] at h ⊢ <;>first | exact h | skip
theorem qO {ss:List Str} {f:ao} (h:f.Over ss):∀g∈f.inner,g.Over ss:=by
 cases f<;>simp[ao.Over,ao.inner] at h ⊢ <;>first | exact h | skip
theorem j_ {ss:List Str} {t:Term} (h:dW ss t) {y:Str} (hy:y∈jr t):y∈ss:=by
 obtain⟨q,hq,rfl⟩:=List.mem_map.mp hy
 exact h.2 q hq
theorem fY {ss:List Str} {y:Str}:∀{f:ao},f.Over ss→f.Free y→y∈ss
 | .same t u,h,hf=>hf.elim (j_ h.1) (j_ h.2)
 | .less t u,h,hf=>hf.elim (j_ h.1) (j_ h.2)
 | .sign _ t _,h,hf=>j_ (show dW ss t from h) hf
 | .alike _ t _ u,h,hf=>hf.elim (j_ h.1) (j_ h.2)
 | .no f,h,hf=>fY (f:=f) h hf
 | .and f g,h,hf=>hf.elim (fY h.1) (fY h.2)
 | .or f g,h,hf=>hf.elim (fY h.1) (fY h.2)
 | .some n f,h,hf=>fY (f:=f) h hf.1
 | .each n f,h,hf=>fY (f:=f) h hf.1
structure cS (ks:List Str) (f:ao):Prop where
 sorted:PyProof.Rows.sortedS ks=true
 once:ks.Nodup
 mem:∀y,y∈ks↔f.Free y
theorem cS.uniq {ks ls:List Str} {f:ao} (h:cS ks f) (g:cS ls f):ks=ls:=oW h.sorted g.sorted h.once g.once fun y=>(h.mem y).trans (g.mem y).symm
theorem cS.len {ks ss:List Str} {f:ao} (h:cS ks f) (o:f.Over ss):ks.length≤ss.length:=iZ h.once fun y hy=>fY o ((h.mem y).mp hy)
theorem o_ (f:ao):f.terms.length≤2:=by cases f<;>simp[ao.terms]
theorem AN (f:ao):f.gu.length=f.terms.length:=by cases f<;>rfl
theorem mK {ss:List Str}:∀{ts:List Term},(∀t∈ts,dW ss t)→(ts.flatMap jr).length≤3*ts.length
 | [],_=>Nat.zero_le _
 | t::ts,h=>by
  rw[List.flatMap_cons,List.length_append,List.length_cons,jr,List.length_map]
  have h1:=(h t List.mem_cons_self).1
  have h2:=mK (ts:=ts) fun u hu=>h u (List.mem_cons_of_mem _ hu)
  omega
theorem xM {ss:List Str} {f:ao} (h:f.Over ss):f.gw.length≤6:=by
 have h1:=mK (mJ h)
 have h2:=o_ f
 unfold ao.gw
 omega
structure mL where
 d:Addr
 sa:Addr
 le:Addr
 si:Addr
 al:Addr
def cZ (b:mL):List (Str×Option V):=
 [("same",some (.ref b.sa)),("less",some (.ref b.le)),("sign",some (.ref b.si)),("alike",some (.ref b.al)),("not",none),("and",none),("or",none),("some",none),("each",none)]
structure jx (K:PySem.W.Frag) (pr:Params) (mg:Str→Option Value) (b:mL):Prop where
 KI:mg "TERM_SPOTS"=some (.ref b.d)
 KJ:lj K pr b.d (cZ b)
 sa:∀H,aW K H b.sa [.int 1,.int 2]
 le:∀H,aW K H b.le [.int 1,.int 2]
 si:∀H,aW K H b.si [.int 2]
 al:∀H,aW K H b.al [.int 2,.int 4]
theorem jx.spots {K:PySem.W.Frag} {pr:Params} {mg:Str→Option Value} {b:mL} (U:jx K pr mg b) (f:ao) (H:Hp) (e:Addr) (he:aW K H e []):
  ∃r p,(f.word,r)∈cZ b∧r.getD (.ref e)=.ref p∧aW K H p (f.gu.map fun(n:Nat)=>V.int (n:Int)):=by
 cases f with
 | same t u=>exact⟨some (.ref b.sa),b.sa,by simp[cZ,ao.word],rfl,U.sa H⟩
 | less t u=>exact⟨some (.ref b.le),b.le,by simp[cZ,ao.word],rfl,U.le H⟩
 | sign a t s=>exact⟨some (.ref b.si),b.si,by simp[cZ,ao.word],rfl,U.si H⟩
 | alike a t c u=>exact⟨some (.ref b.al),b.al,by simp[cZ,ao.word],rfl,U.al H⟩
 | no f=>exact⟨none,e,by simp[cZ,ao.word],rfl,he⟩
 | and f g=>exact⟨none,e,by simp[cZ,ao.word],rfl,he⟩
 | or f g=>exact⟨none,e,by simp[cZ,ao.word],rfl,he⟩
 | some n f=>exact⟨none,e,by simp[cZ,ao.word],rfl,he⟩
 | each n f=>exact⟨none,e,by simp[cZ,ao.word],rfl,he⟩
theorem ux {K:PySem.W.Frag} {H:Hp} {x:V} (f:ao) (h:ak K H x f.dt):∃a xs,x=.ref a∧aW K H a xs∧xs[0]? =some (.str f.word)∧
  (∀(i n:Nat),f.gu[i]? =some n→∃y t,xs[n]? =some y∧f.terms[i]? =some t∧ak K H y t.dt)∧∀n,f.binds=some n→xs[1]? =some (.str n):=by
 obtain⟨ds,e⟩:=f.isTup
 have h':=h
 rw[e] at h'
 obtain⟨a,xs,rfl,hq,hd⟩:=gq h'
 obtain⟨y0,ys,rfl,h0,hd1⟩:=aX hd
 clear hd
 refine⟨a,_,rfl,hq,by rw[ak] at h0;rw[h0];rfl,?_⟩
 have one:∀{i n m:Nat},([m]:List Nat)[i]? =some n→i=0∧n=m:=fun {i n m} z=>by
  cases i with
  | zero=>simp at z;exact⟨rfl,z.symm⟩
  | succ i=>simp at z
 have two:∀{i n m k:Nat},([m,k]:List Nat)[i]? =some n→(i=0∧n=m)∨(i=1∧n=k):=fun {i n m k} z=>by
  match i with
  | 0=>simp at z;exact .inl ⟨rfl,z.symm⟩
  | 1=>simp at z;exact .inr ⟨rfl,z.symm⟩
  | i+2=>simp at z
 have nb:∀{P:Prop} {n:Str},(Option.none:Option Str)=some n→P:=fun z=>nomatch z
 cases f with
 | same t u=>
  cases e
  obtain⟨y1,ys,rfl,h1,hd2⟩:=aX hd1
  obtain⟨y2,ys,rfl,h2,_⟩:=aX hd2
  refine⟨fun i n z=>?_,fun n z=>nb z⟩
  rcases two z with⟨rfl,rfl⟩ | ⟨rfl,rfl⟩
  ·exact⟨y1,t,rfl,rfl,h1⟩
  ·exact⟨y2,u,rfl,rfl,h2⟩
 | less t u=>
  cases e
  obtain⟨y1,ys,rfl,h1,hd2⟩:=aX hd1
  obtain⟨y2,ys,rfl,h2,_⟩:=aX hd2
  refine⟨fun i n z=>?_,fun n z=>nb z⟩
  rcases two z with⟨rfl,rfl⟩ | ⟨rfl,rfl⟩
  ·exact⟨y1,t,rfl,rfl,h1⟩
  ·exact⟨y2,u,rfl,rfl,h2⟩
 | sign b t s=>
  cases e
  obtain⟨y1,ys,rfl,h1,hd2⟩:=aX hd1
  obtain⟨y2,ys,rfl,h2,_⟩:=aX hd2
  refine⟨fun i n z=>?_,fun n z=>nb z⟩
  obtain⟨rfl,rfl⟩:=one z
  exact⟨y2,t,rfl,rfl,h2⟩
 | alike b t c u=>
  cases e
  obtain⟨y1,ys,rfl,h1,hd2⟩:=aX hd1
  obtain⟨y2,ys,rfl,h2,VT⟩:=aX hd2
  obtain⟨y3,ys,rfl,h3,VU⟩:=aX VT
  obtain⟨y4,ys,rfl,h4,_⟩:=aX VU
  refine⟨fun i n z=>?_,fun n z=>nb z⟩
  rcases two z with⟨rfl,rfl⟩ | ⟨rfl,rfl⟩
  ·exact⟨y2,t,rfl,rfl,h2⟩
  ·exact⟨y4,u,rfl,rfl,h4⟩
 | no f=>exact⟨fun i n z=>by simp[ao.gu] at z,fun n z=>nb z⟩
 | and f g=>exact⟨fun i n z=>by simp[ao.gu] at z,fun n z=>nb z⟩
 | or f g=>exact⟨fun i n z=>by simp[ao.gu] at z,fun n z=>nb z⟩
 | some m f=>
  cases e
  obtain⟨y1,ys,rfl,h1,hd2⟩:=aX hd1
  refine⟨fun i n z=>by simp[ao.gu] at z,fun n z=>?_⟩
  have z':m=n:=Option.some.inj z
  rw[ak] at h1
  rw[←z',h1];rfl
 | each m f=>
  cases e
  obtain⟨y1,ys,rfl,h1,hd2⟩:=aX hd1
  refine⟨fun i n z=>by simp[ao.gu] at z,fun n z=>?_⟩
  have z':m=n:=Option.some.inj z
  rw[ak] at h1
  rw[←z',h1];rfl
theorem Ii {K:PySem.W.Frag} {H:Hp} {x:V} {t:Term} (h:ak K H x t.dt):∃a p ys,x=.ref a∧aW K H a [.int t.num,.ref p]∧aW K H p ys∧aA K H ys (t.parts.map jZ):=by
 obtain⟨a,xs,rfl,hq,hd⟩:=gq (show ak K H x (.tup [.int t.num,.tup (t.parts.map jZ)]) from h)
 obtain⟨y0,ys,rfl,h0,hd1⟩:=aX hd
 obtain⟨y1,ys,rfl,h1,hd2⟩:=aX hd1
 have e:ys=[]:=by
  have:=hd2.length
  simpa using this
 subst e
 rw[ak] at h0
 subst h0
 obtain⟨p,zs,rfl,hp,hz⟩:=gq h1
 exact⟨a,p,zs,rfl,hq,hp,hz⟩
theorem Fm {K:PySem.W.Frag} {H:Hp} {x:V} {p:Str×Int} (h:ak K H x (jZ p)):∃a,x=.ref a∧aW K H a [.str p.1,.int p.2]:=by
 obtain⟨a,xs,rfl,hq,hd⟩:=gq (show ak K H x (.tup [.str p.1,.int p.2]) from h)
 obtain⟨y0,ys,rfl,h0,hd1⟩:=aX hd
 obtain⟨y1,ys,rfl,h1,hd2⟩:=aX hd1
 have e:ys=[]:=by
  have:=hd2.length
  simpa using this
 subst e
 rw[ak] at h0
 rw[ak] at h1
 subst h0 h1
 exact⟨a,rfl,hq⟩
theorem dJ {α:Type} {xs:List α} {i:Nat} {x:α} (h:xs[i]? =some x):xs.take (i+1)=xs.take i++[x]:=by rw[List.take_add_one,h];rfl
def o3 (K:PySem.W.Frag):Sp:=fun vs H Q _=>∃(x:V) (f:ao) (ss:List Str),vs=[x]∧ak K H x f.dt∧f.Over ss∧∀(D:Addr) (H':Hp),H D=none→Same H H'→H' D=some (.lst (f.gw.map V.str))→Q (.ref D) H'
theorem jj:aN ["saying","names","spot"] ["saying"] (ag df):=⟨rfl,rfl,rfl,by decide+kernel,rfl,by decide+kernel,by decide+kernel⟩
theorem vp {a:bR} {b:mL} (T:Txt K mg a) (Y:jx K w.params mg b):aS P w K mg base bp 1 a.fE a.gC ["saying"] (o3 K):=by
 refine T.xg.ok jj (fun vs H Q E h=>?_) (fun cdv A outer s H vs Q E hr h=>?_)
 ·obtain⟨x,f,ss,rfl,_⟩:=h
  rfl
 ·obtain⟨x,f,ss,rfl,hf,ov,k⟩:=h
  obtain⟨a,xs,rfl,hq,h0,hsp,_⟩:=ux f hf
  refine⟨_,(ai (ay (i:=1) jj.nd rfl (Or.inl rfl) (dc ah))
  (ai (cx PassesOwn.never rfl (eS (tX Y.KJ rfl Y.KI (aH (aC K) (pv 0) aj (fun _ _=>rfl)) (bL ah))) (aF (i:=2) jj.nd rfl (Or.inl rfl))
   (aq (fb (gx PySem.F.plainAttrs_list PySem.F.slot_list_extend PySem.F.type_list_extend nI (pv 1) (ae (cz (aI.mk' (esc:=ag df) (N:=["saying","names","spot"]) (own:=["part"]) (aM:=[]) (bH:=[]) rfl rfl (by decide+kernel)) rfl (eS (aH (aC K) (aH (aC K) (pv 0) (pv 2) (fun _ _=>rfl)) aj (fun _ _=>rfl))) (fun _ _ _ _=>(aF (i:=0) (show List.Nodup (["part"]:List Str) by decide+kernel) rfl (Or.inl rfl))) (fun _ _ _ _=>bM) (fun _ _ _ _=>(aH (aC K) (pv 0) aj (fun _ _=>rfl)))) ah)))))
  (aq (aQ (pv 1))))),?_⟩
  refine⟨by decide,fun N hN=>?_⟩
  have sN:=Same.new (o:=.lst []) hN
  refine⟨_,rfl,a,xs,0,.str f.word,rfl,rfl,sN.pA hq,ax (j:=0) h0,by decide,fun e he=>?_⟩
  have s1:=sN.trans (Same.new (o:=.tup []) he)
  obtain⟨r,p,hr1,hr2,zr⟩:=Y.spots f (upd (upd H N (.lst [])) e (.tup [])) e (.of af)
  have qP:(upd (upd H N (.lst [])) e (.tup [])) N=some (.lst []):=(Same.new (o:=.tup []) he) _ _ af
  generalize upd (upd H N (.lst [])) e (.tup [])=H1 at s1 zr qP ⊢
  refine⟨f.word,r,rfl,hr1,p,hr2,⟨_,zr⟩,yN (xs:=f.gu.map fun(n:Nat)=>V.int (n:Int)) (fun i σ H'=>∃v2:Option V,σ=[some (.ref a),some (.ref N),v2]∧KB N H1 H'∧H' N=some (.lst (((f.terms.take i).flatMap jr).map V.str)))
   ⟨none,rfl,KB.refl _ _,qP⟩ (fun i σ H' _ ⟨_,_,h,e⟩=>(KB.kts qP h) _ _ zr) ?_ ?_⟩
  ·rintro i y σ H2 hy ⟨v2,rfl,k2,eN⟩
   rw[List.getElem?_map] at hy
   cases en:f.gu[i]? with
   | none=>rw[en] at hy;cases hy
   | some n=>
    rw[en] at hy
    have ey:y=.int (n:Int):=(Option.some.inj hy).symm
    subst ey
    obtain⟨z,t,hz,ht,De⟩:=hsp i n en
    have kt:ia K H H2:=s1.kts.trans (KB.kts qP k2)
    obtain⟨ta,pa,ys,rfl,q1,q2,q3⟩:=Ii (eG kt _ _ t.gk De)
    have to:=mJ ov t (List.mem_of_getElem? ht)
    refine⟨_,rfl,.inl ⟨rfl,_,.of eN⟩,_,rfl,_,rfl,a,xs,_,_,rfl,rfl,kt _ _ hq,ax hz,ta,_,_,_,rfl,rfl,q1,ax (j:=1) (v:=.ref pa) rfl,pa,rfl,⟨_,q2⟩,fun C hC=>?_⟩
    have VS:N≠C:=av eN hC
    refine dM (xs:=ys) (fun j σ H'=>∃v:Option V,σ=[v]∧Same H2 H'∧H' C=some (.lst (((t.parts.take j).map (·.1)).map V.str)))
     ⟨none,?sg,Same.new hC,af⟩ (fun j σ H' _ ⟨_,_,s,_⟩=>s.pA q2) ?_ ?_
    case sg=>rfl
    ·rintro j y σ H3 hy ⟨v,rfl,s3,eC⟩
     obtain⟨d,ed,hd⟩:=q3.get hy
     rw[List.getElem?_map] at ed
     cases ep:t.parts[j]? with
     | none=>rw[ep] at ed;cases ed
     | some pp=>
      rw[ep] at ed
      have ed':jZ pp=d:=Option.some.inj ed
      subst ed'
      obtain⟨qa,rfl,VW⟩:=Fm hd
      refine⟨_,rfl,qa,_,_,_,rfl,rfl,s3.pA VW,ax (j:=0) (v:=.str pp.1) rfl,_,eC,?_,_,rfl,s3.kbn hC KB.write,?_⟩
      ·rw[List.length_map,List.length_map,List.length_take]
       exact Nat.lt_of_le_of_lt (show min j t.parts.length≤3 by have:=to.1;omega) (by decide)
      ·rw[af,dJ ep,List.map_append,List.map_append];rfl
    rintro σ H3 ⟨v,rfl,s3,eC⟩
    have ly:ys.length=t.parts.length:=by rw[q3.length,List.length_map]
    rw[ly,List.take_length] at eC
    have zt:=s3 _ _ eN
    have hl1:=mK (ts:=f.terms.take i) fun u hu=>mJ ov u (List.mem_of_mem_take hu)
    have hl2:(f.terms.take i).length≤2:=by rw[List.length_take];have:=o_ f;omega
    refine⟨N,C,_,_,rfl,rfl,zt,eC,?_,_,rfl,(k2.trans s3.kb).trans KB.write,?_⟩
    ·rw[List.length_map,List.length_map,List.length_map]
     exact Nat.le_trans (show _≤20 by have:=to.1;omega) (by decide)
    ·rw[af,dJ ht,List.flatMap_append,List.map_append]
     simp[jr]
  ·rintro σ H2 ⟨v2,rfl,k2,eN⟩
   rw[List.length_map,AN,List.take_length] at eN
   exact⟨_,rfl,k N H2 hN (s1.kbn hN k2) eN⟩
def cg (ns:List Nat):List V:=ns.map fun(n:Nat)=>V.int (n:Int)
def ao.at :ao→List Nat→Option ao
 | f,[]=>Option.some f
 | f,n::ns=>(f.inner[n]?).bind fun g=>g.at ns
theorem Df:∀(ns:List Nat) (f g h:ao) (k:Nat),f.at ns=some g→g.inner[k]? =some h→f.at (ns++[k])=some h
 | [],f,g,h,k,e,e2=>by
  have e':f=g:=Option.some.inj e
  subst e'
  show(f.inner[k]?).bind (fun g=>g.at [])=some h
  rw[e2];rfl
 | n::ns,f,g,h,k,e,e2=>by
  have e':(f.inner[n]?).bind (fun g=>g.at ns)=some g:=e
  obtain⟨u,eu,ea⟩:=Option.bind_eq_some_iff.mp e'
  show(f.inner[n]?).bind (fun g=>g.at (ns++[k]))=some h
  rw[eu]
  exact Df ns u g h k ea e2
def ao.size:ao→Nat
 | .no f=>f.size+1 | .and f g=>f.size+g.size+1 | .or f g=>f.size+g.size+1 | .some _ f=>f.size+1 | .each _ f=>f.size+1 | _=>1
theorem size_inner (f:ao):(f.inner.map ao.size).sum+1=f.size:=by cases f<;>simp[ao.inner,ao.size]
theorem d8:∀f:ao,f.size+1≤2 ^ (f.deep+1)
 | .same _ _=>by simp[ao.size,ao.deep]
 | .less _ _=>by simp[ao.size,ao.deep]
 | .sign _ _ _=>by simp[ao.size,ao.deep]
 | .alike _ _ _ _=>by simp[ao.size,ao.deep]
 | .no f=>by
  have:=d8 f
  simp only[ao.size,ao.deep]
  rw[Nat.pow_succ]
  omega
 | .and f g=>by
  have h1:=d8 f
  have h2:=d8 g
  have a1:=Nat.pow_le_pow_right (n:=2) (by decide) (show f.deep+1≤max f.deep g.deep+1 by omega)
  have a2:=Nat.pow_le_pow_right (n:=2) (by decide) (show g.deep+1≤max f.deep g.deep+1 by omega)
  simp only[ao.size,ao.deep]
  rw[Nat.pow_succ 2 (max f.deep g.deep+1)]
  omega
 | .or f g=>by
  have h1:=d8 f
  have h2:=d8 g
  have a1:=Nat.pow_le_pow_right (n:=2) (by decide) (show f.deep+1≤max f.deep g.deep+1 by omega)
  have a2:=Nat.pow_le_pow_right (n:=2) (by decide) (show g.deep+1≤max f.deep g.deep+1 by omega)
  simp only[ao.size,ao.deep]
  rw[Nat.pow_succ 2 (max f.deep g.deep+1)]
  omega
 | .some n f=>by
  have:=d8 f
  simp only[ao.size,ao.deep]
  rw[Nat.pow_succ]
  omega
 | .each n f=>by
  have:=d8 f
  simp only[ao.size,ao.deep]
  rw[Nat.pow_succ]
  omega
abbrev Ent:=List Nat×ao
def kids (ns:List Nat):Nat→List ao→List Ent
 | _,[]=>[]
 | k,h::t=>(ns++[k],h)::kids ns (k+1) t
theorem oI (ns:List Nat):∀(l:List ao) (k i:Nat),(kids ns k l)[i]? =(l[i]?).map fun h=>(ns++[k+i],h)
 | [],k,i=>by simp[kids]
 | h::t,k,0=>rfl
 | h::t,k,i+1=>by
  rw[kids,List.getElem?_cons_succ,List.getElem?_cons_succ,oI ns t (k+1) i,show k+1+i=k+(i+1) by omega]
theorem pS (ns:List Nat):∀(l:List ao) (k:Nat),(kids ns k l).length=l.length
 | [],_=>rfl
 | h::t,k=>by rw[kids,List.length_cons,pS ns t,List.length_cons]
theorem xN (ns:List Nat):∀(l:List ao) (k:Nat),((kids ns k l).map fun e=>e.2.size).sum=(l.map ao.size).sum
 | [],_=>rfl
 | h::t,k=>by rw[kids,List.map_cons,List.map_cons,List.sum_cons,List.sum_cons,xN ns t]
def pT (K:PySem.W.Frag) (H:Hp) (q:Addr) (e:Ent):Prop:=∃pl y,H q=some (.tup [.ref pl,y])∧H pl=some (.tup (cg e.1))∧ak K H y e.2.dt
theorem pT.keep {K:PySem.W.Frag} {H H':Hp} {q:Addr} {e:Ent} (h:pT K H q e) (k:bt H H') (ks:ia K H H'):pT K H' q e:=by
 obtain⟨pl,y,h1,h2,h3⟩:=h
 exact⟨pl,y,k _ _ h1,k _ _ h2,eG ks _ _ e.2.gk h3⟩
abbrev bK (K:PySem.W.Frag) (H:Hp):List Addr→List Ent→Prop:=Paired (pT K H)
theorem bK.keep {K:PySem.W.Frag} {H H':Hp} (k:bt H H') (ks:ia K H H'):∀{qs:List Addr} {es:List Ent},bK K H qs es→bK K H' qs es
 | _,_,.nil=>.nil
 | _,_,.cons h t=>.cons (h.keep k ks) (bK.keep k ks t)
theorem oJ {K:PySem.W.Frag} {H:Hp} {qs rs:List Addr} {es ds:List Ent} (a:bK K H qs es) (b:bK K H rs ds):bK K H (qs++rs) (es++ds):=bJ a b
theorem zu {K:PySem.W.Frag} {H:Hp}:∀{qs:List Addr} {es:List Ent} {i:Nat} {q:Addr},bK K H qs es→qs[i]? =some q→∃e,es[i]? =some e∧pT K H q e
 | _,_,_,_,.nil,h=>by simp at h
 | _,_,0,_,.cons a _,h=>by simp at h;subst h;exact⟨_,rfl,a⟩
 | _,_,i+1,_,.cons _ t,h=>by
  simp only[List.getElem?_cons_succ] at h ⊢
  exact zu t h
theorem xO {K:PySem.W.Frag} {H:Hp}:∀{qs:List Addr} {es:List Ent},bK K H qs es→qs≠[]→∃GC q es' e,qs=GC++[q]∧es=es'++[e]∧bK K H GC es'∧pT K H q e
 | _,_,.nil,h=>absurd rfl h
 | [q],[e],.cons a .nil,_=>⟨[],q,[],e,rfl,rfl,.nil,a⟩
 | q::q2::qs,e::e2::es,.cons a (.cons b t),_=>by
  obtain⟨GC,r,es',d,e1,e3,h1,h2⟩:=xO (.cons b t) (by simp)
  exact⟨q::GC,r,e::es',d,by rw[e1];rfl,by rw[e3];rfl,.cons a h1,h2⟩
structure Ord (f:ao) (we fe:List Ent):Prop where
 here:∀e,e∈we∨e∈fe→f.at e.1=some e.2
 kid:∀(i:Nat) (ns:List Nat) (g:ao),fe[i]? =some (ns,g)→∀k h,g.inner[k]? =some h→(ns++[k],h)∈we∨∃j,i<j∧fe[j]? =some (ns++[k],h)
 root:([],f)∈we∨([],f)∈fe
theorem Ord.step {f:ao} {we fe:List Ent} {ns:List Nat} {g:ao} (o:Ord f (we++[(ns,g)]) fe):Ord f (we++kids ns 0 g.inner) (fe++[(ns,g)]) where
 here:=fun e he=>by
  have hg:f.at ns=some g:=o.here (ns,g) (.inl (by simp))
  rcases he with he | he
  ·rcases List.mem_append.mp he with he | he
   ·exact o.here e (.inl (List.mem_append.mpr (.inl he)))
   ·obtain⟨i,hi⟩:=List.getElem?_of_mem he
    rw[oI] at hi
    cases eh:g.inner[i]? with
    | none=>rw[eh] at hi;cases hi
    | some h=>
     rw[eh] at hi
     have hi':(ns++[0+i],h)=e:=Option.some.inj hi
     rw[←hi',Nat.zero_add]
     exact Df ns f g h i hg eh
  ·rcases List.mem_append.mp he with he | he
   ·exact o.here e (.inr he)
   ·rw[List.mem_singleton.mp he];exact hg
 kid:=fun i ms u hi k h hk=>by
  by_cases lt:i<fe.length
  ·rw[List.getElem?_append_left lt] at hi
   rcases o.kid i ms u hi k h hk with z | ⟨j,hj,z⟩
   ·rcases List.mem_append.mp z with z | z
    ·exact .inl (List.mem_append.mpr (.inl z))
    ·refine .inr ⟨fe.length,lt,?_⟩
     rw[List.getElem?_append_right (Nat.le_refl _),Nat.sub_self,List.mem_singleton.mp z];rfl
   ·have hj2:=(List.getElem?_eq_some_iff.mp z).1
    exact .inr ⟨j,hj,by rw[List.getElem?_append_left hj2];exact z⟩
  ·have hl:=(List.getElem?_eq_some_iff.mp hi).1
   rw[List.length_append] at hl
   have hl':i<fe.length+1:=hl
   have e:i=fe.length:=by omega
   subst e
   rw[List.getElem?_append_right (Nat.le_refl _),Nat.sub_self] at hi
   have hi':(ns,g)=(ms,u):=Option.some.inj hi
   cases hi'
   refine .inl (List.mem_append.mpr (.inr (List.mem_of_getElem? (i:=k) ?_)))
   rw[oI,hk,Nat.zero_add];rfl
 root:=by
  rcases o.root with z | z
  ·rcases List.mem_append.mp z with z | z
   ·exact .inl (List.mem_append.mpr (.inl z))
   ·exact .inr (List.mem_append.mpr (.inr z))
  ·exact .inr (List.mem_append.mpr (.inl z))
structure KL (f:ao) (es:List Ent):Prop where
 here:∀e∈es,f.at e.1=some e.2
 kid:∀(i:Nat) (ns:List Nat) (g:ao),es[i]? =some (ns,g)→∀k h,g.inner[k]? =some h→∃j,j<i∧es[j]? =some (ns++[k],h)
 root:([],f)∈es
theorem Ord.late {f:ao} {fe:List Ent} (o:Ord f [] fe):KL f fe.reverse where
 here:=fun e he=>o.here e (.inr (List.mem_reverse.mp he))
 kid:=fun i ns g hi k h hk=>by
  have lt:i<fe.length:=by have:=(List.getElem?_eq_some_iff.mp hi).1;rwa [List.length_reverse] at this
  rw[List.getElem?_reverse lt] at hi
  rcases o.kid _ ns g hi k h hk with z | ⟨j,hj,z⟩
  ·cases z
  ·have hj2:=(List.getElem?_eq_some_iff.mp z).1
   refine⟨fe.length-1-j,by omega,?_⟩
   rw[List.getElem?_reverse (by omega),show fe.length-1-(fe.length-1-j)=j by omega]
   exact z
 root:=by
  rcases o.root with z | z
  ·cases z
  ·exact List.mem_reverse.mpr z
theorem zv:∀we:List Ent,we.length≤(we.map fun e=>e.2.size).sum
 | []=>Nat.le_refl _
 | e::we=>by
  have h1:=zv we
  have h2:=size_inner e.2
  rw[List.map_cons,List.sum_cons,List.length_cons]
  omega
theorem zx:∀(ns:List Nat) (f g:ao),f.at ns=some g→ns.length+g.deep≤f.deep
 | [],f,g,e=>by
  have e':f=g:=Option.some.inj e
  subst e'
  simp
 | n::ns,f,g,e=>by
  have e':(f.inner[n]?).bind (fun g=>g.at ns)=some g:=e
  obtain⟨u,eu,ea⟩:=Option.bind_eq_some_iff.mp e'
  have h1:=zx ns u g ea
  have h2:=AL f u (List.mem_of_getElem? eu)
  rw[List.length_cons]
  omega
theorem xP {f g:ao} {ns:List Nat} (h:f.deep≤15) (e:f.at ns=some g):ns.length≤15:=by
 have:=zx ns f g e
 omega
theorem zy {K:PySem.W.Frag} {H:Hp}:∀{qs:List Addr} {es:List Ent},bK K H qs es→bK K H qs.reverse es.reverse
 | _,_,.nil=>.nil
 | _,_,.cons a t=>by
  rw[List.reverse_cons,List.reverse_cons]
  exact oJ (zy t) (.cons a .nil)
def zz (K:PySem.W.Frag):Sp:=fun vs H Q _=>∃(x:V) (f:ao),vs=[x]∧ak K H x f.dt∧f.deep≤15∧
 ∀(D:Addr) (qs:List Addr) (es:List Ent) (H':Hp),H D=none→Same H H'→H' D=some (.lst (qs.map V.ref))→bK K H' qs es→KL f es→es.length≤100000→Q (.ref D) H'
theorem xQ {rs:List Addr} {i:Nat} {x:V} (h:(rs.map V.ref)[i]? =some x):∃r,x=.ref r∧rs[i]? =some r:=by
 rw[List.getElem?_map] at h
 cases e:rs[i]? with
 | none=>rw[e] at h;cases h
 | some r=>rw[e] at h;exact⟨r,(Option.some.inj h).symm,rfl⟩
theorem cn:aN ["saying","waiting","found","pair","number","part"] ["saying"] (ag cA):=⟨rfl,rfl,rfl,by decide+kernel,rfl,by decide+kernel,by decide+kernel⟩
theorem oK {a:bR} {b:kG} (T:Txt K mg a) (U:iR K w.params mg b):aS P w K mg base bp 2 a.dh a.dS ["saying"] (zz K):=by
 have jk:aS P w K mg base bp 1 a.dA a.d4 ["saying"] (r6 K):=lK T U
 refine T.pI.ok cn (fun vs H Q E h=>?_) (fun cdv A outer s H vs Q E hr h=>?_)
 ·obtain⟨x,f,rfl,_⟩:=h
  rfl
 ·obtain⟨x,f,rfl,hf,hdp,k⟩:=h
  have iK:aO 1 _:=hr
  refine⟨_,(ai (ay (i:=1) cn.nd rfl (Or.inl rfl) (dc (ae (bL (ae (bL ah) (ae (pv 0) ah))) ah)))
  (ai (ay (i:=2) cn.nd rfl (Or.inl rfl) (dc ah))
  (ai (jG PassesOwn.never (eB (pv 1) (fun _=>rfl))
   (ai (ay (i:=3) cn.nd rfl (Or.inl rfl) (By PySem.F.plainAttrs_list PySem.F.slot_list_pop PySem.F.type_list_pop Bz (pv 1)))
   (ai (fb (gx PySem.F.plainAttrs_list PySem.F.slot_list_append PySem.F.type_list_append fu (pv 2) (ae (pv 3) ah)))
   (aq (cx PassesOwn.never rfl (HB rfl T.yF (ae (az jk iK rfl T.m4 T.m5 T.m6 .nil aJ (ae (aH (aC K) (pv 3) aj (fun _ _=>rfl)) ah)) ah)) (p8 rfl (cK (aF (i:=4) cn.nd rfl (Or.inl rfl)) (cK (aF (i:=5) cn.nd rfl (Or.inl rfl)) jz)))
    (aq (fb (gx PySem.F.plainAttrs_list PySem.F.slot_list_append PySem.F.type_list_append fu (pv 1) (ae (bL (ae (aG (pB K) (aH (aC K) (pv 3) aj (fun _ _=>rfl)) (bL (ae (pv 4) ah))) (ae (pv 5) ah))) ah)))))))))
  (aq (aQ (z_ K rfl rfl T.CP rfl T.Az (ae (pv 2) ah))))))),?_⟩
  have VX:f.size≤70000:=by
   have h1:=d8 f
   have h2:=Nat.pow_le_pow_right (n:=2) (by decide) (show f.deep+1≤16 by omega)
   have h3:(2:Nat) ^ 16=65536:=by decide
   omega
  refine⟨by decide,fun e0 VY=>⟨_,rfl,by show 2≤sizeLine;decide,fun q0 hq0=>⟨by show 1≤sizeLine;decide,fun Wt OU=>?_⟩⟩⟩
  have s0:=Same.new (o:=.tup []) VY
  have s1:=Same.new (o:=.tup [.ref e0,x]) hq0
  have s2:=Same.new (o:=.lst [.ref q0]) OU
  refine⟨by decide,fun Fo KN=>?_⟩
  have s3:=Same.new (o:=.lst []) KN
  have eW:=s3 _ _ (af (H:=upd (upd H e0 (.tup [])) q0 (.tup [.ref e0,x])) (a:=Wt) (o:=.lst [.ref q0]))
  have eF:(upd (upd (upd (upd H e0 (.tup [])) q0 (.tup [.ref e0,x])) Wt (.lst [.ref q0])) Fo (.lst [])) Fo=some (.lst []):=af
  have pr:pT K (upd (upd (upd (upd H e0 (.tup [])) q0 (.tup [.ref e0,x])) Wt (.lst [.ref q0])) Fo (.lst [])) q0 ([],f):=
   ⟨e0,x,s3 _ _ (s2 _ _ af),s3 _ _ (s2 _ _ (s1 _ _ af)),eG (((s0.trans s1).trans s2).trans s3).kts _ _ f.gk hf⟩
  have sA:=((s0.trans s1).trans s2).trans s3
  have KO:Wt≠Fo:=av af KN
  have hW0:H Wt=none:=(s0.trans s1).free OU
  have VZ:H Fo=none:=((s0.trans s1).trans s2).free KN
  generalize upd (upd (upd (upd H e0 (.tup [])) q0 (.tup [.ref e0,x])) Wt (.lst [.ref q0])) Fo (.lst [])=H1 at eW eF pr sA ⊢
  refine⟨fun m σ H'=>∃(ws fs:List Addr) (we fe:List Ent) (v3 v4 v5:Option V),σ=[some x,some (.ref Wt),some (.ref Fo),v3,v4,v5]∧Same H H'∧H' Wt=some (.lst (ws.map V.ref))∧H' Fo=some (.lst (fs.map V.ref))∧bK K H' ws we∧bK K H' fs fe∧Ord f we fe∧
    m=(we.map fun e=>e.2.size).sum∧fe.length+(we.map fun e=>e.2.size).sum≤70000,
   ⟨_,[q0],[],[([],f)],[],none,none,none,rfl,sA,eW,eF,.cons pr .nil,.nil,⟨fun e he=>?_,fun i ns g z=>by simp at z,.inl (by simp)⟩,rfl,by simpa using VX⟩,?_⟩
  ·have e':e=([],f):=by simpa using he
   rw[e'];rfl
  rintro m σ H2 ⟨ws,fs,we,fe,v3,v4,v5,rfl,s2',Dg,OV,pw,pf,od,rfl,hsz⟩
  refine⟨_,rfl, !(ws.map V.ref).isEmpty,.inl ⟨_,.of Dg,rfl⟩,?_⟩
  refine cj (fun hne=>?_) (fun hem=>?_)
  ·have V_:ws≠[]:=fun z=>by subst z;simp at hne
   obtain⟨ws',q,xR,⟨ns,g⟩,rfl,rfl,pw',pq⟩:=xO pw V_
   refine⟨fun σ' H'=>∃(ws fs:List Addr) (we fe:List Ent) (v3 v4 v5:Option V),σ'=[some x,some (.ref Wt),some (.ref Fo),v3,v4,v5]∧Same H H'∧H' Wt=some (.lst (ws.map V.ref))∧H' Fo=some (.lst (fs.map V.ref))∧bK K H' ws we∧bK K H' fs fe∧Ord f we fe∧
     (we.map fun e=>e.2.size).sum<((xR++[(ns,g)]).map fun e=>e.2.size).sum∧fe.length+(we.map fun e=>e.2.size).sum≤70000,
    fun σ' H' ⟨ws,fs,we,fe,v3,v4,v5,a1,a2,a3,a4,a5,a6,a7,a8,a9⟩=>⟨_,a8,ws,fs,we,fe,v3,v4,v5,a1,a2,a3,a4,a5,a6,a7,rfl,a9⟩,?_⟩
   refine⟨_,rfl,.inl ⟨rfl,_,.of Dg⟩,Wt,_,.ref q,rfl,rfl,Dg,by simp,?_⟩
   have dl:((ws'++[q]).map V.ref).dropLast=ws'.map V.ref:=by rw[List.map_append];simp
   rw[dl]
   have kW:=KB.write (d:=Wt) (H:=H2) (o:=.lst (ws'.map V.ref))
   have KP:=bt.lst (o:=.lst (ws'.map V.ref)) Dg
   have KQ:=KB.kts (K:=K) Dg kW
   have OW:(upd H2 Wt (.lst (ws'.map V.ref))) Wt=some (.lst (ws'.map V.ref)):=af
   have Dh:=kW _ _ OV KO.symm
   have OX:=bK.keep KP KQ pw'
   have OY:=bK.keep KP KQ pf
   have OZ:=pq.keep KP KQ
   have C0:=s2'.kbn hW0 kW
   generalize upd H2 Wt (.lst (ws'.map V.ref))=H3 at OW Dh OX OY OZ C0 ⊢
   have Y0:fs.length=fe.length:=Paired.length pf
   refine⟨_,rfl,.inl ⟨rfl,_,.of Dh⟩,_,rfl,Fo,_,_,rfl,rfl,Dh,?_,?_⟩
   ·rw[List.length_map];exact Nat.lt_of_le_of_lt (show fs.length≤70000 by omega) (by decide)
   have kF:=KB.write (d:=Fo) (H:=H3) (o:=.lst (fs.map V.ref++[.ref q]))
   have KR:=bt.lst (o:=.lst (fs.map V.ref++[.ref q])) Dh
   have KS:=KB.kts (K:=K) Dh kF
   have O_:(upd H3 Fo (.lst (fs.map V.ref++[.ref q]))) Fo=some (.lst ((fs++[q]).map V.ref)):=by rw[af,List.map_append];rfl
   have KU:=kF _ _ OW KO
   have O0:=bK.keep KR KS OX
   have O1:=bK.keep KR KS OY
   have KW:=OZ.keep KR KS
   have O6:=C0.kbn VZ kF
   generalize upd H3 Fo (.lst (fs.map V.ref++[.ref q]))=H4 at O_ KU O0 O1 KW O6 ⊢
   obtain⟨pl,y,eq,qQ,dy⟩:=id KW
   refine⟨_,rfl,q,_,_,_,rfl,rfl,.of eq,ax (j:=1) (v:=y) rfl,y,g,rfl,dy,fun D xs H5 hD s5 eD GD=>?_⟩
   have Di:=s5 _ _ KU
   have V0:D≠Wt:=(av KU hD).symm
   have lx:xs.length=g.inner.length:=by rw[GD.length,List.length_map]
   have O7:=gs g
   refine⟨D,rfl,⟨_,.of eD⟩,Eo (xs:=xs) (fun i σ H'=>∃(rs:List Addr) (v4 v5:Option V),σ=[some x,some (.ref Wt),some (.ref Fo),some (.ref q),v4,v5]∧KB Wt H5 H'∧H' Wt=some (.lst ((ws'++rs).map V.ref))∧bK K H' rs ((kids ns 0 g.inner).take i))
    ⟨[],_,_,rfl,KB.refl _ _,by rw[List.append_nil];exact Di,.nil⟩ (fun i σ H' _ ⟨_,_,_,_,h,_⟩=>.of (h _ _ eD V0)) ?_ ?_⟩
   ·rintro i z pp σ H6 hz ⟨rs,v4,v5,rfl,k6,KY,GF⟩ hpp
    have sp:=Same.new (o:=.tup [.int i,z]) hpp
    refine⟨pp,_,rfl,.of af,rfl,_,_,rfl,_,_,rfl,rfl,?_⟩
    obtain⟨dz,Dj,De⟩:=GD.get hz
    rw[List.getElem?_map] at Dj
    cases eh:g.inner[i]? with
    | none=>rw[eh] at Dj;cases Dj
    | some h=>
     rw[eh] at Dj
     have QY:h.dt=dz:=Option.some.inj Dj
     subst QY
     have ur:bt H5 H6:=bt.kb Di k6
     have Dk:ia K H5 H6:=KB.kts Di k6
     have pU:H6 pl=some (.tup (cg ns)):=ur _ _ (s5 _ _ qQ)
     have V1:H6 q=some (.tup [.ref pl,y]):=ur _ _ (s5 _ _ eq)
     have KZ:=sp _ _ KY
     have K_:=eG (Dk.trans sp.kts) _ _ h.gk De
     have K0:=bK.keep sp.kt sp.kts GF
     have K1:=sp _ _ pU
     have O8:=sp _ _ V1
     have k7:KB Wt H5 (upd H6 pp (.tup [.int i,z])):=k6.trans sp.kb
     generalize upd H6 pp (.tup [.int i,z])=H7 at KZ K_ K0 K1 O8 k7 ⊢
     refine⟨_,rfl,.inl ⟨rfl,_,.of KZ⟩,_,rfl,q,_,_,_,rfl,rfl,.of O8,ax (j:=0) (v:=.ref pl) rfl,_,rfl,by show 1≤sizeLine;decide,fun oo hoo=>?_⟩
     have so:=Same.new (o:=.tup [.int (i:Int)]) hoo
     have Dl:(upd H7 oo (.tup [.int (i:Int)])) oo=some (.tup [.int (i:Int)]):=af
     have done:∀(pn:Addr) (H8:Hp),Same H7 H8→H8 pn=some (.tup (cg (ns++[i])))→∀i8,H8 i8=none→
       H8 Wt=some (.lst ((ws'++rs).map V.ref))∧(∃(rs':List Addr) (v4 v5:Option V),[some x,some (.ref Wt),some (.ref Fo),some (.ref q),some (.int (i:Int)),some z]=[some x,some (.ref Wt),some (.ref Fo),some (.ref q),v4,v5]∧
        KB Wt H5 (upd (upd H8 i8 (.tup [.ref pn,z])) Wt (.lst ((ws'++rs).map V.ref++[.ref i8])))∧(upd (upd H8 i8 (.tup [.ref pn,z])) Wt (.lst ((ws'++rs).map V.ref++[.ref i8]))) Wt=some (.lst ((ws'++rs').map V.ref))∧
        bK K (upd (upd H8 i8 (.tup [.ref pn,z])) Wt (.lst ((ws'++rs).map V.ref++[.ref i8]))) rs' ((kids ns 0 g.inner).take (i+1))):=fun pn H8 s8 K2 i8 pV=>by
      have O9:=s8 _ _ KZ
      have s9:=Same.new (o:=.tup [.ref pn,z]) pV
      have O':=s9 _ _ O9
      have kt9:=bt.lst (o:=.lst ((ws'++rs).map V.ref++[.ref i8])) O'
      have Pa:ia K (upd H8 i8 (.tup [.ref pn,z])) (upd (upd H8 i8 (.tup [.ref pn,z])) Wt (.lst ((ws'++rs).map V.ref++[.ref i8]))):=KB.kts O' KB.write
      refine⟨O9,rs++[i8],_,_,rfl,((k7.trans s8.kb).trans s9.kb).trans KB.write,?_,?_⟩
      ·rw[af];simp
      ·have ek:(kids ns 0 g.inner).take (i+1)=(kids ns 0 g.inner).take i++[(ns++[i],h)]:=dJ (by rw[oI,eh,Nat.zero_add];rfl)
       rw[ek]
       refine oJ (bK.keep ((s8.kt.trans s9.kt).trans kt9) ((s8.kts.trans s9.kts).trans Pa) K0) (.cons ⟨pn,z,kt9 _ _ af,kt9 _ _ (s9 _ _ K2),eG ((s8.kts.trans s9.kts).trans Pa) _ _ h.gk K_⟩ .nil)
     have lr:rs.length≤2:=by rw[Paired.length K0,List.length_take,pS];omega
     have lw:((ws'++rs).map V.ref).length<sizeLine:=by
      rw[List.length_map,List.length_append]
      have Y1:ws'.length=xR.length:=Paired.length pw'
      have:xR.length≤(xR.map fun e=>e.2.size).sum:=zv xR
      rw[List.map_append,List.sum_append] at hsz
      exact Nat.lt_of_le_of_lt (show _≤80000 by omega) (by decide)
     refine⟨pl,oo,cg ns,[.int (i:Int)],rfl,rfl,.of (so _ _ K1),.of Dl,by simp,?_,fun hn=>?_,fun hn pn hpn=>?_⟩
     ·have:ns.length≤15:=xP hdp (od.here (ns,g) (.inl (by simp)))
      show(cg ns).length+1≤sizeLine
      rw[cg,List.length_map]
      exact Nat.le_trans (show _≤100 by omega) (by decide)
     ·have hn':ns=[]:=by cases ns with | nil=>rfl | cons _ _=>cases hn
      subst hn'
      refine⟨_,rfl,by show 2≤sizeLine;decide,fun i8 pV=>?_⟩
      obtain⟨d1,d2⟩:=done oo _ so Dl i8 pV
      exact⟨Wt,_,_,rfl,rfl,(Same.new pV) _ _ d1,lw,d2⟩
     ·have V2:=Same.new (o:=.tup (cg ns++[.int (i:Int)])) hpn
      refine⟨_,rfl,by show 2≤sizeLine;decide,fun i8 pV=>?_⟩
      obtain⟨d1,d2⟩:=done pn _ (so.trans V2) (by rw[af,cg,cg,List.map_append];rfl) i8 pV
      exact⟨Wt,_,_,rfl,rfl,(Same.new pV) _ _ d1,lw,d2⟩
   ·rintro σ H6 ⟨rs,v4,v5,rfl,k6,KY,GF⟩
    rw[lx,List.take_of_length_le (by rw[pS];exact Nat.le_refl _)] at GF
    have ur:bt H4 H6:=s5.kt.trans (bt.kb Di k6)
    have Dk:ia K H4 H6:=s5.kts.trans (KB.kts Di k6)
    have V3:=KO.symm
    have sz:=xN ns g.inner 0
    have sg:=size_inner g
    refine⟨ws'++rs,fs++[q],xR++kids ns 0 g.inner,fe++[(ns,g)],_,_,_,rfl,(O6.trans s5).kbn hW0 k6,KY,k6 _ _ (s5 _ _ O_) V3,oJ (bK.keep ur Dk O0) GF,oJ (bK.keep ur Dk O1) (.cons (KW.keep ur Dk) .nil),od.step,?_,?_⟩
    ·rw[List.map_append,List.map_append,List.sum_append,List.sum_append,sz]
     show _<_+(g.size+0)
     omega
    ·rw[List.map_append,List.sum_append,sz,List.length_append]
     rw[List.map_append,List.sum_append] at hsz
     have hsz':fe.length+((xR.map fun e=>e.2.size).sum+(g.size+0))≤70000:=hsz
     show fe.length+1+_≤70000
     omega
  ·have V4:ws=[]:=by
    cases ws with
    | nil=>rfl
    | cons q qs=>exact absurd rfl hem
   subst V4
   have V5:we=[]:=by cases pw;rfl
   subst V5
   refine⟨_,rfl,Fo,_,rfl,.of OV,fun l hl=>?_⟩
   have sl:=Same.new (o:=.lst (fs.map V.ref).reverse) hl
   refine k l fs.reverse fe.reverse _ (s2'.free hl) (s2'.trans sl) (by rw[af,List.map_reverse]) ?_ od.late (by rw[List.length_reverse];omega)
   exact zy (bK.keep sl.kt sl.kts pf)
theorem KB.QZ {K:PySem.W.Frag} {d:Addr} {kvs:List (List Key×V)} {H H':Hp} (h:H d=some (.dT kvs)) (k:KB d H H'):ia K H H':=fun a ys e=>by
 rcases e with(e | ⟨o,e⟩) | e
 ·exact .inl (.inl (k _ _ e (dR e h (fun z=>nomatch z))))
 ·exact .inl (.inr ⟨o,k _ _ e (dR e h (fun z=>nomatch z))⟩)
 ·exact .inr e
theorem bt.dT {d:Addr} {kvs:List (List Key×V)} {H H':Hp} (h:H d=some (.dT kvs)) (k:KB d H H'):bt H H':=fun b ys e=>k b _ e (dR e h (fun z=>nomatch z))
def gK (H:Hp):List Addr→List (List Str)→Prop:=Paired fun r ks=>H r=some (.tup (ks.map V.str))
theorem gK.keep {H H':Hp} (k:bt H H'):∀{rs:List Addr} {bS:List (List Str)},gK H rs bS→gK H' rs bS
 | _,_,.nil=>.nil
 | _,_,.cons a t=>.cons (k _ _ a) (gK.keep k t)
theorem gK.get {H:Hp}:∀{rs:List Addr} {bS:List (List Str)} {i:Nat} {r:Addr},gK H rs bS→rs[i]? =some r→∃ks,bS[i]? =some ks∧H r=some (.tup (ks.map V.str))
 | _,_,_,_,.nil,h=>by simp at h
 | _,_,0,_,.cons a _,h=>by simp at h;subst h;exact⟨_,rfl,a⟩
 | _,_,i+1,_,.cons _ t,h=>by
  simp only[List.getElem?_cons_succ] at h ⊢
  exact gK.get t h
theorem AO (f:ao):inV (V.str f.word) [V.str "some",V.str "each"]=f.binds.isSome:=by
 have e:inV (V.str f.word) [V.str "some",V.str "each"]=decide (f.word∈[("some":Str),"each"]):=pC f.word [("some":Str),"each"]
 rw[e]
 have w1:decide (("same":Str)∈[("some":Str),"each"])=false:=by decide+kernel
 have w2:decide (("less":Str)∈[("some":Str),"each"])=false:=by decide+kernel
 have w3:decide (("sign":Str)∈[("some":Str),"each"])=false:=by decide+kernel
 have w4:decide (("alike":Str)∈[("some":Str),"each"])=false:=by decide+kernel
 have w5:decide (("not":Str)∈[("some":Str),"each"])=false:=by decide+kernel
 have w6:decide (("and":Str)∈[("some":Str),"each"])=false:=by decide+kernel
 have w7:decide (("or":Str)∈[("some":Str),"each"])=false:=by decide+kernel
 have w8:decide (("some":Str)∈[("some":Str),"each"])=true:=by decide+kernel
 have w9:decide (("each":Str)∈[("some":Str),"each"])=true:=by decide+kernel
 cases f with
 | same t u=>exact w1
 | less t u=>exact w2
 | sign a t s=>exact w3
 | alike a t c u=>exact w4
 | no f=>exact w5
 | and f g=>exact w6
 | or f g=>exact w7
 | some n f=>exact w8
 | each n f=>exact w9
theorem oi {N:Nat}:∀{bS:List (List Str)},(∀ks∈bS,ks.length≤N)→bS.flatten.length≤N*bS.length
 | [],_=>Nat.zero_le _
 | ks::bS,h=>by
  rw[List.flatten_cons,List.length_append,List.length_cons]
  have h1:=h ks List.mem_cons_self
  have h2:=oi (bS:=bS) fun x hx=>h x (List.mem_cons_of_mem _ hx)
  rw[Nat.mul_succ]
  omega
def Dm (K:PySem.W.Frag):Sp:=fun vs H Q _=>∃(x:V) (f:ao) (ss:List Str) (I:Addr) (rs:List Addr) (bS:List (List Str)),vs=[x,.ref I]∧ak K H x f.dt∧f.Over ss∧ss.length≤10∧H I=some (.lst (rs.map V.ref))∧gK H rs bS∧bS.length=f.inner.length∧
 (∀(j:Nat) (ks:List Str) (g:ao),bS[j]? =some ks→f.inner[j]? =some g→cS ks g)∧∀(D:Addr) (ks:List Str) (H':Hp),H D=none→Same H H'→H' D=some (.tup (ks.map V.str))→cS ks f→Q (.ref D) H'
theorem gL:aN ["saying","inner","names","some"] ["saying","inner"] (ag dg):=⟨rfl,rfl,rfl,by decide+kernel,rfl,by decide+kernel,by decide+kernel⟩
theorem vq {a:bR} {b:mL} (T:Txt K mg a) (Y:jx K w.params mg b):aS P w K mg base bp 2 a.fF a.gD ["saying","inner"] (Dm K):=by
 have xS:aS P w K mg base bp 1 a.fE a.gC ["saying"] (o3 K):=vp T Y
 refine T.xk.ok gL (fun vs H Q E h=>?_) (fun cdv A outer s H vs Q E hr h=>?_)
 ·obtain⟨x,f,ss,I,rs,bS,rfl,_⟩:=h
  rfl
 ·obtain⟨x,f,ss,I,rs,bS,rfl,hf,ov,hss,eI,tp,lk,fr,k⟩:=h
  have vt:aO 1 _:=hr
  obtain⟨a,xs,rfl,hq,h0,_,hbd⟩:=ux f hf
  refine⟨_,(ai (ay (i:=2) gL.nd rfl (Or.inl rfl) (az xS vt rfl T.xh T.xi T.xj .nil aJ (ae (pv 0) ah)))
  (ai (cx PassesOwn.never rfl (du (pv 1)) (aF (i:=3) gL.nd rfl (Or.inl rfl))
   (aq (fb (gx PySem.F.plainAttrs_list PySem.F.slot_list_extend PySem.F.type_list_extend (Ai K) (pv 2) (ae (pv 3) ah)))))
  (ai (dB (bh (wu K) (aH (aC K) (pv 0) aj (fun _ _=>rfl)) (bL (ae bo (ae bo ah))) (by with_unfolding_all rfl))
   (aq (fO (i:=2) (aI.mk' (esc:=ag dg) (N:=["saying","inner","names","some"]) (own:=["name"]) (aM:=["saying"]) (bH:=[0]) rfl rfl (by decide+kernel)) rfl (du (pv 2)) (fun _ _ _ _=>(aF (i:=0) (show List.Nodup (["name","saying"]:List Str) by decide+kernel) rfl (Or.inl rfl))) (fun _ _ _ _=>(lZ (bh jt (pv 0) (aH (aC K) (pv 1) aj (fun _ _=>rfl)) (bB _)))) (fun _ _ _ _=>(pv 0)) gL.nd rfl rfl))
   b_)
  (aq (aQ (bF (dN K) (by rfl) T.d6 de (ae (aU (wC rfl) (by rfl) T.xB tV (ae (bF (B3 rfl) (by rfl) T.NA Jo (ae (pv 2) ah)) ah)) ah))))))),?_⟩
  refine⟨_,rfl,_,f,ss,rfl,hf,ov,fun N H1 hN s1 eN=>?_⟩
  have V6:I≠N:=av eI hN
  have lr:rs.length=bS.length:=Paired.length tp
  have li:=gs f
  have Y3:=xM ov
  have kl:∀ks∈bS,ks.length≤10:=fun ks hks=>by
   obtain⟨j,hj⟩:=List.getElem?_of_mem hks
   have hl:j<f.inner.length:=by rw[←lk];exact(List.getElem?_eq_some_iff.mp hj).1
   have:=(fr j ks _ hj (List.getElem?_eq_getElem hl)).len (qO ov _ (List.getElem_mem hl))
   omega
  refine⟨_,rfl,I,rfl,⟨_,.of (s1 _ _ eI)⟩,ig (xs:=rs.map V.ref) (fun i σ H'=>∃v3:Option V,σ=[some (.ref a),some (.ref I),some (.ref N),v3]∧KB N H1 H'∧H' N=some (.lst ((f.gw++(bS.take i).flatten).map V.str)))
   ⟨none,rfl,KB.refl _ _,by rw[List.take_zero,List.flatten_nil,List.append_nil];exact eN⟩ (fun i σ H' _ ⟨_,_,h,_⟩=>.of (h _ _ (s1 _ _ eI) V6)) ?_ ?_⟩
  ·rintro i y σ H2 hy ⟨v3,rfl,k2,qR⟩
   obtain⟨r,rfl,hr'⟩:=xQ hy
   obtain⟨ks,Pb,er⟩:=gK.get tp hr'
   have kt:bt H1 H2:=bt.kb eN k2
   have V7:=kt _ _ (s1 _ _ er)
   have l1:=oi (N:=10) (bS:=bS.take i) fun z hz=>kl z (List.mem_of_mem_take hz)
   have l2:(bS.take i).length≤2:=by rw[List.length_take];omega
   have l3:=kl ks (List.mem_of_getElem? Pb)
   refine⟨_,rfl,.inl ⟨rfl,_,.of qR⟩,_,rfl,N,r,_,_,rfl,rfl,qR,.of V7,?_,_,rfl,k2.trans KB.write,?_⟩
   ·rw[List.length_map,List.length_map,List.length_append]
    exact Nat.le_trans (show _≤100 by omega) (by decide)
   ·rw[af,dJ Pb,List.flatten_append,←List.append_assoc,List.map_append]
    simp
  rintro σ H2 ⟨v3,rfl,k2,qR⟩
  rw[List.length_map,lr,List.take_length] at qR
  have s2:Same H H2:=s1.kbn hN k2
  have l1:=oi kl
  have Fn:∀y,y∈f.gw++bS.flatten↔(y∈f.gw∨∃g∈f.inner,g.Free y):=fun y=>by
   rw[List.mem_append,List.mem_flatten]
   constructor
   ·rintro(z | ⟨ks,hks,hy⟩)
    ·exact .inl z
    ·obtain⟨j,hj⟩:=List.getElem?_of_mem hks
     have hl:j<f.inner.length:=by rw[←lk];exact(List.getElem?_eq_some_iff.mp hj).1
     exact .inr ⟨_,List.getElem_mem hl,((fr j ks _ hj (List.getElem?_eq_getElem hl)).mem y).mp hy⟩
   ·rintro(z | ⟨g,hg,hy⟩)
    ·exact .inl z
    ·obtain⟨j,hj⟩:=List.getElem?_of_mem hg
     have hl:j<bS.length:=by rw[lk];exact(List.getElem?_eq_some_iff.mp hj).1
     exact .inr ⟨_,List.getElem_mem hl,((fr j _ g (List.getElem?_eq_getElem hl) hj).mem y).mpr hy⟩
  have len0:(f.gw++bS.flatten).length≤40:=by rw[List.length_append];omega
  generalize f.gw++bS.flatten=GG at qR Fn len0
  dsimp only[aL]
  refine Er (t:=Ec _ _ _) (u:=IK _) (fun σ H'=>∃(L:Addr) (ls:List Str) (v3:Option V),σ=[some (.ref a),some (.ref I),some (.ref L),v3]∧Same H H'∧H' L=some (.lst (ls.map V.str))∧(∀y,y∈ls↔f.Free y)∧ls.length≤40) ?re (fun rest=>?V8)
  case re=>
   rintro σ H3 ⟨L,ls,v3,rfl,s3,eL,mem,ll⟩
   refine⟨_,rfl,L,ls,rfl,.of eL,Nat.lt_of_le_of_lt (show ls.length+1≤41 by omega) (by decide),fun p ks hp nd mk Y4=>?_⟩
   have oP:∀y,y∈ks↔f.Free y:=fun y=>(mk y).trans (mem y)
   have l10:ks.length≤ss.length:=iZ nd fun y hy=>fY ov ((oP y).mp hy)
   have sp:=Same.new (o:=wB P w p ks) hp
   refine⟨p,ks,rfl,af,by omega,fun p2 zs hp2 perm Dd=>?_⟩
   have CT:=Same.new (o:=.lst (zs.map V.str)) hp2
   refine⟨p2,_,rfl,.inl ⟨.of af,fun D hD=>?_⟩⟩
   have sD:=Same.new (o:=.tup (zs.map V.str)) hD
   exact k D zs _ ((s3.trans (sp.trans CT)).free hD) (s3.trans ((sp.trans CT).trans sD)) af ⟨Dd,perm.nodup_iff.mpr nd,fun y=>perm.mem_iff.trans (oP y)⟩
  case V8=>
   refine⟨_,rfl,a,xs,0,.str f.word,rfl,rfl,s2.pA hq,ax (j:=0) h0,by show 2≤sizeLine;decide,fun Z hZ=>⟨Z,_,rfl,.inr (.of af),rfl,rfl,_,rfl,?_⟩⟩
   have sZ:=Same.new (o:=.tup [.str "some",.str "each"]) hZ
   have s3:=s2.trans sZ
   have zt:=sZ _ _ qR
   generalize upd H2 Z (.tup [.str "some",.str "each"])=H3 at s3 zt ⊢
   have ew:(if false=true then !inV (V.str f.word) [V.str "some",V.str "each"] else inV (V.str f.word) [V.str "some",V.str "each"])=f.binds.isSome:=by rw[if_neg (by decide),AO]
   rw[ew]
   cases eb:f.binds with
   | none=>
    refine gb (rest _ _ ⟨N,GG,_,rfl,s3,zt,fun y=>?_,len0⟩)
    rw[Fn y,xK,eb]
    simp
   | some n=>
    refine wa ?_
    have at1:=hbd n eb
    refine⟨_,rfl,N,rfl,⟨_,.of zt⟩,fun C hC=>?_⟩
    refine gX (xs:=GG.map V.str) (fun j σ H'=>∃v:Option V,σ=[v,some (.ref a)]∧Same H3 H'∧H' C=some (.lst (((GG.take j).filter fun y=> !decide (y=n)).map V.str)))
     ⟨none,?sg,Same.new hC,af⟩ (fun j σ H' _ ⟨_,_,s,_⟩=>.of (s _ _ zt)) ?_ ?_
    case sg=>rfl
    ·rintro j y σ H4 hy ⟨v,rfl,s4,eC⟩
     obtain⟨z,rfl,ez⟩:=ix hy
     have ed:decide (V.str z=V.str n)=decide (z=n):=decide_eq_decide.mpr ⟨fun h=>by injection h,fun h=>by rw[h]⟩
     refine⟨_,rfl,_,rfl,a,xs,1,.str n,rfl,rfl,(s3.trans s4).pA hq,ax (j:=1) at1,rfl,_,rfl,?_⟩
     rw[ed]
     refine cj (fun hh=>?_) (fun hh=>?_)
     ·refine⟨_,rfl,_,eC,?_,_,rfl,s4.kbn hC KB.write,?_⟩
      ·rw[List.length_map]
       refine Nat.lt_of_le_of_lt (List.length_filter_le _ _) ?_
       rw[List.length_take]
       exact Nat.lt_of_le_of_lt (show min j GG.length≤40 by omega) (by decide)
      ·rw[af,dJ ez,List.filter_append,List.map_append]
       simp[hh]
     ·refine⟨_,rfl,s4,?_⟩
      have hh':(!decide (z=n))=false:=by simpa using hh
      rw[eC,dJ ez,List.filter_append]
      simp[hh']
    rintro σ H4 ⟨v,rfl,s4,eC⟩
    rw[List.length_map,List.take_length] at eC
    refine rest _ _ ⟨C,_,_,rfl,s3.trans s4,eC,fun y=>?_,Nat.le_trans (List.length_filter_le _ _) len0⟩
    rw[List.mem_filter,Fn y,xK,eb]
    constructor
    ·rintro⟨a1,a2⟩
     exact⟨a1,fun z=>by rw[←Option.some.inj z] at a2;simp at a2⟩
    ·rintro⟨a1,a2⟩
     exact⟨a1,by simpa using fun z=>a2 (by rw[z])⟩
def keyOf (ns:List Nat):List Key:=ns.map fun(n:Nat)=>Sum.inl (n:Int)
theorem xT (ns:List Nat):cg ns=(keyOf ns).map kV:=by
 unfold cg keyOf
 rw[List.map_map]
 rfl
theorem zA {ss:List Str}:∀(ns:List Nat) (f g:ao),f.Over ss→f.at ns=some g→g.Over ss
 | [],f,g,o,e=>by
  have e':f=g:=Option.some.inj e
  rw[←e'];exact o
 | n::ns,f,g,o,e=>by
  have e':(f.inner[n]?).bind (fun g=>g.at ns)=some g:=e
  obtain⟨u,eu,ea⟩:=Option.bind_eq_some_iff.mp e'
  exact zA ns u g (qO o u (List.mem_of_getElem? eu)) ea
theorem uy:∀{ns ms:List Nat},keyOf ns=keyOf ms→ns=ms
 | [],[],_=>rfl
 | [],_::_,h=>by cases h
 | _::_,[],h=>by cases h
 | n::ns,m::ms,h=>by
  have h1:(Sum.inl (n:Int):Key)=Sum.inl (m:Int):=(List.cons.inj h).1
  have h2:(n:Int)=m:=Sum.inl.inj h1
  rw[uy (List.cons.inj h).2,Int.ofNat_inj.mp h2]
def Known (H:Hp) (kvs:List (List Key×V)) (es:List Ent):Prop:=∀e∈es,∃r ks,aR kvs (keyOf e.1)=some (.ref r)∧H r=some (.tup (ks.map V.str))∧cS ks e.2
theorem AQ {H:Hp} {kvs:List (List Key×V)} {g:ao} {ns:List Nat} {es:List Ent} (kn:Known H kvs es) (hk:∀(j:Nat) (h:ao),g.inner[j]? =some h→(ns++[j],h)∈es):
  ∃(rs:List Addr) (bS:List (List Str)),gK H rs bS∧bS.length=g.inner.length∧(∀(j:Nat) (u:V),(rs.map V.ref)[j]? =some u→aR kvs (keyOf (ns++[j]))=some u)∧
   ∀(j:Nat) (ks:List Str) (h:ao),bS[j]? =some ks→g.inner[j]? =some h→cS ks h:=by
 have all:∀n,n≤g.inner.length→∃(rs:List Addr) (bS:List (List Str)),gK H rs bS∧bS.length=n∧(∀(j:Nat) (u:V),(rs.map V.ref)[j]? =some u→aR kvs (keyOf (ns++[j]))=some u)∧
   ∀(j:Nat) (ks:List Str) (h:ao),bS[j]? =some ks→g.inner[j]? =some h→cS ks h:=by
  intro n
  induction n with
  | zero=>exact fun _=>⟨[],[],.nil,rfl,fun j u z=>by simp at z,fun j ks h z=>by simp at z⟩
  | succ n ih=>
   intro hn
   obtain⟨rs,bS,tp,lk,vs,fr⟩:=ih (by omega)
   have lrs:rs.length=bS.length:=Paired.length tp
   obtain⟨h,hh⟩:∃h,g.inner[n]? =some h:=⟨_,List.getElem?_eq_getElem hn⟩
   obtain⟨r,ks,ev,er,Dq⟩:=kn _ (hk n h hh)
   refine⟨rs++[r],bS++[ks],bJ tp (.cons er .nil),by rw[List.length_append,lk];rfl,fun j u z=>?_,fun t ks' h' z1 z2=>?_⟩
   ·rw[List.map_append] at z
    by_cases lt:j<rs.length
    ·rw[List.getElem?_append_left (by rw[List.length_map];exact lt)] at z
     exact vs j u z
    ·have hl:=(List.getElem?_eq_some_iff.mp z).1
     rw[List.length_append,List.length_map] at hl
     have hl':j<rs.length+1:=hl
     have e:j=n:=by omega
     subst e
     rw[List.getElem?_append_right (by rw[List.length_map];omega),List.length_map,lrs,lk,Nat.sub_self] at z
     have z':V.ref r=u:=Option.some.inj z
     rw[←z'];exact ev
   ·by_cases lt:t<bS.length
    ·rw[List.getElem?_append_left lt] at z1
     exact fr t ks' h' z1 z2
    ·have hl:=(List.getElem?_eq_some_iff.mp z1).1
     rw[List.length_append] at hl
     have hl':t<bS.length+1:=hl
     have e:t=bS.length:=by omega
     subst e
     rw[List.getElem?_append_right (Nat.le_refl _),Nat.sub_self] at z1
     have V9:ks=ks':=Option.some.inj z1
     rw[lk,hh] at z2
     have V':h=h':=Option.some.inj z2
     rw[←V9,←V'];exact Dq
 exact all _ (Nat.le_refl _)
def xU (K:PySem.W.Frag):Sp:=fun vs H Q _=>∃(D pl:Addr) (y:V) (g:ao) (kvs:List (List Key×V)) (ns:List Nat) (us:List V),vs=[.ref D,.ref pl,y]∧ak K H y g.dt∧H D=some (.dT kvs)∧H pl=some (.tup (cg ns))∧ns.length≤15∧us.length=g.inner.length∧
 (∀(j:Nat) (u:V),us[j]? =some u→aR kvs (keyOf (ns++[j]))=some u)∧∀(C:Addr) (H':Hp),H C=none→Same H H'→H' C=some (.lst us)→Q (.ref C) H'
def uz (K:PySem.W.Frag):Sp:=fun vs H Q _=>∃(x:V) (f:ao) (ss:List Str),vs=[x]∧ak K H x f.dt∧f.deep≤15∧f.Over ss∧ss.length≤10∧
 ∀(D:Addr) (kvs:List (List Key×V)) (r:Addr) (ks:List Str) (H':Hp),Same H H'→H' D=some (.dT kvs)→aR kvs []=some (.ref r)→H' r=some (.tup (ks.map V.str))→cS ks f→Q (.ref D) H'
def Dr (K:PySem.W.Frag):Sp:=fun vs H Q _=>∃(x:V) (f:ao) (ss:List Str),vs=[x]∧ak K H x f.dt∧f.deep≤15∧f.Over ss∧ss.length≤10∧
 ∀(r:Addr) (ks:List Str) (H':Hp),Same H H'→H' r=some (.tup (ks.map V.str))→cS ks f→Q (.ref r) H'
theorem pW:aN ["told","place","saying"] ["told","place","saying"] (ag cm):=⟨rfl,rfl,rfl,by decide+kernel,rfl,by decide+kernel,by decide+kernel⟩
theorem pX {a:bR} {b:kG} (T:Txt K mg a) (U:iR K w.params mg b):aS P w K mg base bp 2 a.dH a.eQ ["told","place","saying"] (xU K):=by
 have jk:aS P w K mg base bp 1 a.dA a.d4 ["saying"] (r6 K):=lK T U
 refine T.qz.ok pW (fun vs H Q E h=>?_) (fun cdv A outer s H vs Q E hr h=>?_)
 ·obtain⟨D,pl,y,g,kvs,ns,us,rfl,_⟩:=h
  rfl
 ·obtain⟨D,pl,y,g,kvs,ns,us,rfl,dy,eD,qQ,hns,Ks,hus,k⟩:=h
  have iK:aO 1 _:=hr
  refine⟨_,(aq (aQ (cz (aI.mk' (esc:=ag cm) (N:=["told","place","saying"]) (own:=["number"]) (aM:=["told","place"]) (bH:=[0,1]) rfl rfl (by decide+kernel)) rfl (dD rfl T.fV (ae (aU (bW K) (by rfl) T.fj dF (ae (az jk iK rfl T.m4 T.m5 T.m6 .nil aJ (ae (pv 2) ah)) ah)) ah)) (fun _ _ _ _=>(aF (i:=0) (show List.Nodup (["number","told","place"]:List Str) by decide+kernel) rfl (Or.inl rfl))) (fun _ _ _ _=>bM) (fun _ _ _ _=>(cH (bP hr) (pv 1) (aG (pB K) (pv 2) (bL (ae (pv 0) ah))) (fun _ _=>rfl)))))),?_⟩
  refine⟨_,rfl,y,g,rfl,dy,fun D2 xs H4 hD2 s4 Q_ GD=>?_⟩
  have lx:xs.length=g.inner.length:=by rw[GD.length,List.length_map]
  refine⟨_,xs.length,rfl,.inl ⟨_,.of Q_,rfl⟩,?_⟩
  have O7:=gs g
  have GH:=s4 _ _ eD
  have xV:=s4 _ _ qQ
  refine⟨_,rfl,by omega,by omega,fun C hC=>?_⟩
  refine me (lo:=0) (fun j σ H'=>∃(v:Option V),σ=[v,some (.ref D),some (.ref pl)]∧Same H4 H'∧H' C=some (.lst (us.take j)))
   ⟨none,?sg,Same.new hC,af⟩ ?_ ?_
  case sg=>rfl
  ·rintro j σ H5 hj ⟨v,rfl,s5,eC⟩
   have hj':j<us.length:=by omega
   have ej:(0:Int)+(j:Int)=(j:Int):=by omega
   obtain⟨u,hu⟩:∃u,us[j]? =some u:=⟨_,List.getElem?_eq_getElem hj'⟩
   have ev:=hus j u hu
   have done:∀(pn:Addr) (H6:Hp),Same H5 H6→H6 pn=some (.tup (cg (ns++[j])))→∃(a:Addr) (v:V),V.ref D=.ref a∧lV H6 a (.ref pn) (some v)∧∃ys,H6 C=some (.lst ys)∧ys.length<sizeLine∧
     ∃(v':Option V),[some (V.int (0+(j:Int))),some (.ref D),some (.ref pl)]=[v',some (.ref D),some (.ref pl)]∧Same H4 (upd H6 C (.lst (ys++[v])))∧(upd H6 C (.lst (ys++[v]))) C=some (.lst (us.take (j+1))):=fun pn H6 s6 K2=>by
    have Pc:=s5.trans s6
    have Wa:=s6 _ _ eC
    refine⟨D,u,rfl,.inr ⟨kvs,keyOf (ns++[j]),pn,.inl (Pc _ _ GH),rfl,by rw[K2,xT],ev.symm⟩,_,Wa,?_,_,rfl,Pc.kbn hC KB.write,by rw[af,dJ hu]⟩
    rw[List.length_take];exact Nat.lt_of_lt_of_le (show min j us.length<10 by omega) (by decide)
   refine⟨_,rfl,_,rfl,_,rfl,by show 1≤sizeLine;decide,fun oo hoo=>?_⟩
   have so:=Same.new (o:=.tup [.int (0+(j:Int))]) hoo
   have Dl:(upd H5 oo (.tup [.int (0+(j:Int))])) oo=some (.tup (cg [j])):=by rw[af,ej];rfl
   have xW:=s5 _ _ xV
   refine⟨pl,oo,cg ns,cg [j],rfl,rfl,.of (so _ _ xW),.of Dl,by simp[cg],?_,fun hn=>?_,fun hn pn hpn=>?_⟩
   ·rw[cg,cg,List.length_map,List.length_map]
    exact Nat.le_trans (show _≤100 by simp;omega) (by decide)
   ·have hn':ns=[]:=by cases ns with | nil=>rfl | cons _ _=>cases hn
    have e1:cg (ns++[j])=cg [j]:=by rw[hn'];rfl
    exact done oo _ so (by rw[e1];exact Dl)
   ·exact done pn _ (so.trans (Same.new hpn)) (by rw[af,cg,cg,cg,List.map_append])
  rintro σ H5 ⟨v,rfl,s5,eC⟩
  rw[Int.toNat_natCast,lx,←Ks,List.take_length] at eC
  exact k C H5 (s4.free hC) (s4.trans s5) eC
theorem dX:aN ["saying","names","place","part"] ["saying"] (ag cB):=⟨rfl,rfl,rfl,by decide+kernel,rfl,by decide+kernel,by decide+kernel⟩
theorem oM {a:bR} {b:kG} {c:mL} (T:Txt K mg a) (U:iR K w.params mg b) (Y:jx K w.params mg c):aS P w K mg base bp 3 a.di a.dU ["saying"] (uz K):=by
 have qS:aS P w K mg base bp 2 a.dH a.eQ ["told","place","saying"] (xU K):=pX T U
 have pY:aS P w K mg base bp 2 a.dh a.dS ["saying"] (zz K):=oK T U
 have xX:aS P w K mg base bp 2 a.fF a.gD ["saying","inner"] (Dm K):=vq T Y
 refine T.pM.ok dX (fun vs H Q E h=>?_) (fun cdv A outer s H vs Q E hr h=>?_)
 ·obtain⟨x,f,ss,rfl,_⟩:=h
  rfl
 ·obtain⟨x,f,ss,rfl,hf,hdp,ov,hss,k⟩:=h
  have pZ:aO 2 _:=hr
  have oN:aO 2 _:=hr
  have vw:aO 2 _:=hr
  refine⟨_,(ai (ay (i:=1) dX.nd rfl (Or.inl rfl) En)
  (ai (cx PassesOwn.never rfl (du (az pY oN rfl T.pJ T.pK T.pL .nil aJ (ae (pv 0) ah))) (p8 rfl (cK (aF (i:=2) dX.nd rfl (Or.inl rfl)) (cK (aF (i:=3) dX.nd rfl (Or.inl rfl)) jz)))
   (aq (kY (bP hr) (pv 1) (pv 2) (az xX vw rfl T.xl T.xm T.xn .nil aJ (ae (pv 3) (ae (az qS pZ rfl T.qA T.qB T.qC .nil aJ (ae (pv 1) (ae (pv 2) (ae (pv 3) ah)))) ah))) rfl)))
  (aq (aQ (pv 1))))),?_⟩
  refine fun D hD=>?_
  have sD:=Same.new (o:=.dT []) hD
  refine⟨_,rfl,x,f,rfl,eG sD.kts _ _ f.gk hf,hdp,fun L qs es H2 hL s2 eL prs late Y5=>?_⟩
  have oY:H2 D=some (.dT []):=s2 _ _ af
  have Wb:L≠D:=(av af hL).symm
  have OC:qs.length=es.length:=Paired.length prs
  have Wc:=sD.trans s2
  refine⟨L,rfl,⟨_,.of eL⟩,ig (xs:=qs.map V.ref) (fun i σ H'=>∃(kvs:List (List Key×V)) (v2 v3:Option V),σ=[some x,some (.ref D),v2,v3]∧KB D H2 H'∧H' D=some (.dT kvs)∧kvs.length≤i∧Known H' kvs (es.take i))
   ⟨[],none,none,rfl,KB.refl _ _,oY,Nat.le_refl _,fun e he=>by simp at he⟩ (fun i σ H' _ ⟨_,_,_,_,h,_⟩=>.of (h _ _ eL Wb)) ?_ ?_⟩
  ·rintro i y0 σ H3 hy ⟨kvs,v2,v3,rfl,k3,zB,Wd,kn⟩
   obtain⟨q,rfl,hq⟩:=xQ hy
   obtain⟨⟨ns,g⟩,he,pq⟩:=zu prs hq
   have Wf:bt H2 H3:=bt.dT oY k3
   have Wg:ia K H2 H3:=KB.QZ oY k3
   obtain⟨pl,y,eq,qQ,dy⟩:=pq.keep Wf Wg
   have hin:=List.mem_of_getElem? he
   have GI:f.at ns=some g:=late.here _ hin
   have Wh:=zA ns f g ov GI
   have hi:i<es.length:=(List.getElem?_eq_some_iff.mp he).1
   refine⟨q,_,rfl,.of eq,rfl,_,_,rfl,_,_,rfl,rfl,?_⟩
   have O7:=gs g
   obtain⟨rs,bS,tp,lk,vs',fr⟩:=AQ (kvs:=kvs) (H:=H3) (g:=g) (ns:=ns) (es:=es.take i) kn (fun j h hh=>by
    obtain⟨j',hj2,ee⟩:=late.kid i ns g he j h hh
    exact List.mem_of_getElem? (i:=j') (by rw[List.getElem?_take_of_lt hj2];exact ee))
   have lrs:rs.length=bS.length:=Paired.length tp
   refine⟨_,rfl,_,rfl,_,rfl,_,rfl,D,pl,y,g,kvs,ns,rs.map V.ref,rfl,dy,zB,qQ,xP hdp GI,by rw[List.length_map,lrs,lk],vs',fun C H5 hC s5 eC=>?_⟩
   refine⟨y,g,ss,C,rs,bS,rfl,eG s5.kts _ _ g.gk dy,Wh,hss,eC,gK.keep s5.kt tp,lk,fr,fun D3 ks H6 Y6 s6 Q0 Dq=>?_⟩
   have GJ:=s5.trans s6
   have Pd:=GJ _ _ zB
   have pU:=GJ _ _ qQ
   refine⟨_,rfl,_,rfl,D,_,rfl,kq.t (k:=keyOf ns) Pd (by rw[pU,xT]) (Nat.lt_of_le_of_lt (show kvs.length≤100000 by omega) (by decide)),?_⟩
   have Pe:bt H6 (upd H6 D (.dT (putK kvs (keyOf ns) (.ref D3)))):=bt.dT Pd KB.write
   refine⟨_,_,_,rfl,(k3.trans GJ.kb).trans KB.write,af,Nat.le_trans (gj _ _ _) (by omega),fun e hm=>?_⟩
   rw[dJ he] at hm
   by_cases ek:keyOf e.1=keyOf ns
   ·have en:=uy ek
    have eg:e.2=g:=by
     have h1:f.at e.1=some e.2:=by
      rcases List.mem_append.mp hm with z | z
      ·exact late.here e (List.mem_of_mem_take z)
      ·rw[List.mem_singleton.mp z];exact GI
     rw[en,GI] at h1
     exact(Option.some.inj h1).symm
    exact⟨D3,ks,by rw[lT,if_pos ek],Pe _ _ Q0,by rw[eg];exact Dq⟩
   ·rcases List.mem_append.mp hm with z | z
    ·obtain⟨r,ks',a1,a2,a3⟩:=kn e z
     exact⟨r,ks',by rw[lT,if_neg ek];exact a1,Pe _ _ (GJ.kt _ _ a2),a3⟩
    ·exact absurd (by rw[List.mem_singleton.mp z]) ek
  ·rintro σ H3 ⟨kvs,v2,v3,rfl,k3,zB,Wd,kn⟩
   rw[List.length_map,OC,List.take_length] at kn
   obtain⟨r,ks,a1,a2,a3⟩:=kn _ late.root
   exact⟨_,rfl,k D kvs r ks H3 (Wc.kbn hD k3) zB a1 a2 a3⟩
theorem vy:aN ["saying"] ["saying"] (ag d_):=⟨rfl,rfl,rfl,by decide+kernel,rfl,by decide+kernel,by decide+kernel⟩
theorem vz {a:bR} {b:kG} {c:mL} (T:Txt K mg a) (U:iR K w.params mg b) (Y:jx K w.params mg c):aS P w K mg base bp 4 a.fG a.gE ["saying"] (Dr K):=by
 have p_:aS P w K mg base bp 3 a.di a.dU ["saying"] (uz K):=oM T U Y
 refine T.xo.ok vy (fun vs H Q E h=>?_) (fun cdv A outer s H vs Q E hr h=>?_)
 ·obtain⟨x,f,ss,rfl,_⟩:=h
  rfl
 ·obtain⟨x,f,ss,rfl,hf,hdp,ov,hss,k⟩:=h
  have oO:aO 3 _:=hr
  refine⟨_,(aq (aQ (cH (bP hr) (az p_ oO rfl T.pN T.pO T.pP .nil aJ (ae (pv 0) ah)) (bL ah) (fun _ _=>rfl)))),?_⟩
  refine⟨_,rfl,x,f,ss,rfl,hf,hdp,ov,hss,fun D kvs r ks H1 s1 eD ev er Dq=>⟨by decide,fun e he=>?_⟩⟩
  have se:=Same.new (o:=.tup []) he
  exact⟨D,.ref r,rfl,.inr ⟨kvs,[],e,.inl (se _ _ eD),rfl,af,ev.symm⟩,k r ks _ (s1.trans se) (se _ _ er) Dq⟩
def cF (H:Hp) (a:Addr) (t:Term):Prop:=∃(b:Addr) (ps:List Addr),H a=some (.tup [.int t.num,.ref b])∧H b=some (.tup (ps.map V.ref))∧Paired (fun(p:Addr) (q:Str×Int)=>H p=some (.tup [.str q.1,.int q.2])) ps t.parts
theorem cF.keep {H H':Hp} {a:Addr} {t:Term} (h:cF H a t) (k:bt H H'):cF H' a t:=by
 obtain⟨b,ps,h1,h2,h3⟩:=h
 exact⟨b,ps,k _ _ h1,k _ _ h2,Paired.nr h3 fun _ _ z=>k _ _ z⟩
def aZ (n:Str):List (Str×Int)→Int→Int
 | [],d=>d
 | p::ps,d=>aZ n ps (if n=p.1 then p.2 else d)
def Term.at (t:Term) (n:Str):Int:=aZ n t.parts 0
def dk (p:Str×Int):Key×V:=(Sum.inr p.1,.int p.2)
theorem qT (n:Str):∀(ps:List (Str×Int)) (kvs:List (Key×V)) (d:Int),(aR kvs (Sum.inr n)).getD (.int 0)=.int d→(aR (br kvs (ps.map dk)) (Sum.inr n)).getD (.int 0)=.int (aZ n ps d)
 | [],kvs,d,h=>h
 | p::ps,kvs,d,h=>by
  show(aR (br (putK kvs (Sum.inr p.1) (.int p.2)) (ps.map dk)) (Sum.inr n)).getD (.int 0)=_
  refine qT n ps _ _ ?_
  rw[lT]
  by_cases e:n=p.1
  ·rw[if_pos (by rw[e]),if_pos e];rfl
  ·rw[if_neg (fun z=>e (Sum.inr.inj z)),if_neg e];exact h
theorem Term.xY (t:Term) (n:Str):(aR (br [] (t.parts.map dk)) (Sum.inr n)).getD (.int 0)=.int (t.at n):=qT n t.parts [] 0 rfl
def Ij:Sp:=fun vs H Q _=>∃(a nm:Addr) (t:Term) (ss:List Str),vs=[.ref a,.ref nm]∧cF H a t∧t.parts.length≤100∧H nm=some (.tup (ss.map V.str))∧ss.length≤100∧∀(D:Addr) (H':Hp),H D=none→Same H H'→H' D=some (.lst ((ss.map t.at).map V.int))→Q (.ref D) H'
theorem o4:aN ["term","names","times"] ["term","names"] (ag eO):=⟨rfl,rfl,rfl,by decide+kernel,rfl,by decide+kernel,by decide+kernel⟩
theorem yH {a:bR} (T:Txt K mg a):aS P w K mg base bp 1 a.jv a.kz ["term","names"] Ij:=by
 refine T.Av.ok o4 (fun vs H Q E h=>?_) (fun cdv A outer s H vs Q E hr h=>?_)
 ·obtain⟨ta,nm,t,ss,rfl,_⟩:=h
  rfl
 ·obtain⟨ta,nm,t,ss,rfl,⟨b,ps,e1,e2,e3⟩,lp,en,ls,k⟩:=h
  refine⟨_,(ai (ay (i:=2) o4.nd rfl (Or.inr rfl) (bF (ju hr.hd) (by rfl) T.jU ip (ae (aH (aC K) (pv 0) aj (fun _ _=>rfl)) ah)))
  (aq (aQ (cz (aI.mk' (esc:=ag eO) (N:=["term","names","times"]) (own:=["name"]) (aM:=["times"]) (bH:=[2]) rfl rfl (by decide+kernel)) rfl (eS (pv 1)) (fun _ _ _ _=>(aF (i:=0) (show List.Nodup (["name","times"]:List Str) by decide+kernel) rfl (Or.inl rfl))) (fun _ _ _ _=>bM) (fun _ _ _ _=>(pz (bP hr) (pv 1) (pv 0) aj ⟨rfl,rfl,rfl,rfl⟩)))))),?_⟩
  have big:(10000:Nat)≤sizeLine:=by decide
  have pk:Paired (fun(p:Addr) (q:Key×V)=>H p=some (.tup [kV q.1,q.2])) ps (t.parts.map dk):=by
   clear lp e1 e2
   generalize t.parts=l at e3
   induction e3 with
   | nil=>exact .nil
   | cons h _ ih=>exact .cons h ih
  refine⟨_,rfl,ta,_,_,.ref b,rfl,rfl,.of e1,ax (j:=1) rfl,b,ps,_,rfl,e2,pk,by rw[List.length_map];omega,fun D hD=>?_⟩
  have sD:=Same.new (o:=.dK (br [] (t.parts.map dk))) hD
  dsimp only[aL]
  refine⟨_,rfl,nm,rfl,⟨_,.of (sD _ _ en)⟩,fun C hC=>?_⟩
  have hCD:D≠C:=av (show(upd H D (.dK (br [] (t.parts.map dk)))) D=some _ from af) hC
  have Pf:H C=none:=sD.free hC
  refine dM (xs:=ss.map V.str) (fun i σ H'=>∃v:Option V,σ=[v,some (.ref D)]∧Same H H'∧H' D=some (.dK (br [] (t.parts.map dk)))∧H' C=some (.lst (((ss.take i).map t.at).map V.int)))
   ⟨none,?sg,sD.trans (Same.new hC),by rw[au hCD];exact af,af⟩ (fun i σ H' _ ⟨_,_,s',_⟩=>.of (s' _ _ en)) ?_ ?_
  case sg=>rfl
  ·rintro i x σ H' hx ⟨v,rfl,s',d',c'⟩
   obtain⟨n,rfl,en'⟩:=ix hx
   have hi:=(List.getElem?_eq_some_iff.mp en').1
   refine⟨_,rfl,D,rfl,.inl ⟨_,.inl d'⟩,_,rfl,_,.inl ⟨_,Sum.inr n,.inl d',rfl,rfl⟩,?_⟩
   rw[t.xY n]
   refine⟨_,c',?_,_,rfl,s'.kbn Pf KB.write,by rw[au hCD];exact d',?_⟩
   ·rw[List.length_map,List.length_map,List.length_take];omega
   ·rw[af,take_snoc en',List.map_append,List.map_append];rfl
  rintro σ H' ⟨v,rfl,s',d',c'⟩
  rw[List.length_map,List.take_length] at c'
  exact k C H' Pf s' c'
def dot:List Int→List Int→Int
 | x::xs,y::ys=>x*y+dot xs ys
 | _,_=>0
def NF:Sp:=fun vs H Q _=>∃(a b:Addr) (xs ys:List Int),vs=[.ref a,.ref b]∧H a=some (.tup (xs.map V.int))∧H b=some (.lst (ys.map V.int))∧xs.length=ys.length∧ys.length≤100∧(∀x∈xs,0≤x∧x<100)∧∀H',Same H H'→Q (.int (dot xs ys)) H'
theorem zC:∀(xs ys:List Int),(List.zipWith (· * ·) xs ys).sum=dot xs ys
 | [],_=>rfl
 | _::_,[]=>rfl
 | x::xs,y::ys=>by rw[List.zipWith_cons_cons,List.sum_cons,zC xs ys];rfl
theorem Ik {xs ys:List Int} {i:Nat} {x y:Int} (hx:xs[i]? =some x) (hy:ys[i]? =some y):List.zipWith (· * ·) (xs.take (i+1)) (ys.take (i+1))=List.zipWith (· * ·) (xs.take i) (ys.take i)++[x*y]:=by
 rw[take_snoc hx,take_snoc hy,List.zipWith_append]
 ·rfl
 ·have h1:=(List.getElem?_eq_some_iff.mp hx).1
  have h2:=(List.getElem?_eq_some_iff.mp hy).1
  rw[List.length_take,List.length_take];omega
theorem Du:aN ["letter","times"] ["letter","times"] (ag gR):=⟨rfl,rfl,rfl,by decide+kernel,rfl,by decide+kernel,by decide+kernel⟩
theorem Dv {a:bR} (T:Txt K mg a):aS P w K mg base bp 1 a.mq a.nT ["letter","times"] NF:=by
 refine T.EY.ok Du (fun vs H Q E h=>?_) (fun cdv A outer s H vs Q E hr h=>?_)
 ·obtain⟨a1,a2,xs,ys,rfl,_⟩:=h
  rfl
 ·obtain⟨a1,a2,xs,ys,rfl,e1,e2,hl,hy,hx,k⟩:=h
  refine⟨_,(aq (aQ (aU (nK K) (by rfl) T.Ax wq (ae (cz (aI.mk' (esc:=ag gR) (N:=["letter","times"]) (own:=["figure","many"]) (aM:=[]) (bH:=[]) rfl rfl (by decide+kernel)) rfl (HX rfl T.Ay (ae (pv 0) (ae (pv 1) ah))) (fun _ _ _ _=>(rK K (n:=2) rfl (cK (aF (i:=0) (show List.Nodup (["figure","many"]:List Str) by decide+kernel) rfl (Or.inl rfl)) (cK (aF (i:=1) (show List.Nodup (["figure","many"]:List Str) by decide+kernel) rfl (Or.inl rfl)) jz)))) (fun _ _ _ _=>bM) (fun _ _ _ _=>(aG ft (pv 0) (pv 1)))) ah)))),?_⟩
  have big:(10000:Nat)≤sizeLine:=by decide
  refine⟨_,rfl,_,rfl,a1,a2,rfl,⟨_,.of e1⟩,⟨_,.of e2⟩,fun C hC=>?_⟩
  have n2:a2≠C:=av e2 hC
  refine Cu (xs:=xs.map V.int) (ys:=ys.map V.int) (fun i σ H'=>∃v1 v2:Option V,σ=[v1,v2]∧Same H H'∧H' C=some (.lst ((List.zipWith (· * ·) (xs.take i) (ys.take i)).map V.int))) (by rw[List.length_map,List.length_map];exact hl)
   ⟨none,none,?sg,Same.new hC,af⟩ (fun i σ H' _ ⟨_,_,_,s',_⟩=>⟨.of (s' _ _ e1),.of (s' _ _ e2)⟩) ?_ ?_
  case sg=>rfl
  ·rintro i u v p σ H1 hu hv ⟨v1,v2,rfl,s1,c1⟩ hp
   obtain⟨x,rfl,ex⟩:=iu hu
   obtain⟨y,rfl,ey⟩:=iu hv
   have hb:=hx x (List.mem_of_getElem? ex)
   have sp:=Same.new (o:=.tup [.int x,.int y]) hp
   have hi:=(List.getElem?_eq_some_iff.mp ex).1
   refine⟨p,_,rfl,.of af,rfl,_,_,rfl,_,_,rfl,rfl,?_⟩
   refine⟨_,rfl,_,rfl,_,_,rfl,rfl,.inl ⟨by omega,by omega⟩,_,sp _ _ c1,?_,_,_,rfl,(s1.trans sp).kbn hC KB.write,?_⟩
   ·rw[List.length_map,List.length_zipWith,List.length_take,List.length_take];omega
   ·rw[af,Ik ex ey,List.map_append];rfl
  rintro σ H1 ⟨v1,v2,rfl,s1,c1⟩
  rw[List.length_map,List.take_length,hl,List.take_length] at c1
  refine⟨C,_,rfl,.of c1,?_⟩
  rw[zC]
  exact k H1 s1
def Il:Sp:=fun vs H Q _=>∃(b:Nat) (a:Addr) (ys:List Int),vs=[.int b,.ref a]∧b≤4∧H a=some (.lst (ys.map V.int))∧ys.length≤4∧∀(D:Addr) (H':Hp),H D=none→Same H H'→H' D=some (.lst (((lets b ys.length).map fun l=>dot l ys).map V.int))→Q (.ref D) H'
theorem sf (b:Nat):∀(n:Nat) (l:List Int),l∈lets b n→∀x∈l,0≤x∧x<b
 | 0,l,h,x,hx=>by rw[show l=[] from List.mem_singleton.mp h] at hx;cases hx
 | n+1,l,h,x,hx=>by
  obtain⟨l',h1,h2⟩:=List.mem_flatMap.mp (show l∈(lets b n).flatMap fun l=>(List.range b).map fun(f:Nat)=>l++[(f:Int)] from h)
  obtain⟨f,hf,rfl⟩:=List.mem_map.mp h2
  have:=List.mem_range.mp hf
  rcases List.mem_append.mp hx with z | z
  ·exact sf b n l' h1 x z
  ·rw[List.mem_singleton.mp z];omega
def bx (b:Nat) (ys:List Int):List Int:=(lets b ys.length).map fun l=>dot l ys
theorem uA (b:Nat) (ys:List Int):(bx b ys).length=b ^ ys.length:=by unfold bx;rw[List.length_map,iH]
theorem sj:aN ["base","times"] ["base","times"] (ag cN):=⟨rfl,rfl,rfl,by decide+kernel,rfl,by decide+kernel,by decide+kernel⟩
theorem lL {a:bR} (T:Txt K mg a):aS P w K mg base bp 2 a.gF a.iB ["base","times"] Il:=by
 have ji:=lG (P:=P) (w:=w) (base:=base) T
 have Fp:=Dv (P:=P) (w:=w) (base:=base) T
 refine T.uT.ok sj (fun vs H Q E h=>?_) (fun cdv A outer s H vs Q E hr h=>?_)
 ·obtain⟨b,ta,ys,rfl,_⟩:=h
  rfl
 ·obtain⟨b,ta,ys,rfl,hb4,e,hy,k⟩:=h
  have iI:aO 1 _:=hr
  have Dw:aO 1 _:=hr
  refine⟨_,(aq (aQ (cz (aI.mk' (esc:=ag cN) (N:=["base","times"]) (own:=["letter"]) (aM:=["times"]) (bH:=[1]) rfl rfl (by decide+kernel)) rfl (du (az ji iI rfl T.mZ T.m_ T.m3 .nil aJ (ae (pv 0) (ae (aU (bW K) (by rfl) T.fj dF (ae (pv 1) ah)) ah)))) (fun _ _ _ _=>(aF (i:=0) (show List.Nodup (["letter","times"]:List Str) by decide+kernel) rfl (Or.inl rfl))) (fun _ _ _ _=>bM) (fun _ _ _ _=>(az Fp Dw rfl T.EZ T.E_ T.E1 .nil aJ (ae (pv 0) (ae (pv 1) ah))))))),?_⟩
  have big:(10000:Nat)≤sizeLine:=by decide
  refine⟨_,rfl,_,rfl,.ref ta,ys.length,rfl,.inl ⟨_,.of e,by rw[List.length_map]⟩,b,ys.length,rfl,hb4,hy,fun D ps H1 hD s1 d1 tp=>?_⟩
  refine⟨D,rfl,⟨_,.of d1⟩,fun C hC=>?_⟩
  have e1:=s1 _ _ e
  have hpl:ps.length≤256:=by
   rw[Paired.length tp,iH];exact i7 hb4 hy
  refine gX (xs:=ps.map V.ref) (fun i σ H'=>∃v:Option V,σ=[v,some (.ref ta)]∧Same H1 H'∧H' C=some (.lst ((((lets b ys.length).take i).map fun l=>dot l ys).map V.int)))
   ⟨none,?sg,Same.new hC,af⟩ (fun i σ H' _ ⟨_,_,s',_⟩=>.of (s' _ _ d1)) ?_ ?_
  case sg=>rfl
  ·rintro i x σ H' hx ⟨v,rfl,s',c'⟩
   obtain⟨p,rfl,ep⟩:=oG hx
   obtain⟨l,el,hl⟩:=tp.get ep
   have hm:=List.mem_of_getElem? el
   have hi:=(List.getElem?_eq_some_iff.mp ep).1
   refine⟨_,rfl,_,rfl,p,ta,l,ys,rfl,s' _ _ hl,s' _ _ e1,pQ b _ l hm,by omega,fun x hx=>by have:=sf b _ l hm x hx;omega,fun H2 s2=>?_⟩
   refine⟨_,s2 _ _ c',?_,_,rfl,(s'.trans s2).kbn hC KB.write,?_⟩
   ·rw[List.length_map,List.length_map,List.length_take];omega
   ·rw[af,take_snoc el,List.map_append,List.map_append];rfl
  rintro σ H' ⟨v,rfl,s',c'⟩
  rw[List.length_map,Paired.length tp,List.take_length] at c'
  exact k C H' (s1.free hC) (s1.trans s') c'
def Im:Sp:=fun vs H Q _=>∃(sy a b nm:Addr) (w0:V) (t u:Term) (ss:List Str),vs=[.ref sy,.ref nm]∧H sy=some (.tup [w0,.ref a,.ref b])∧cF H a t∧cF H b u∧t.parts.length≤100∧u.parts.length≤100∧H nm=some (.tup (ss.map V.str))∧ss.length≤100∧
 ∀(D:Addr) (H':Hp),H D=none→Same H H'→H' D=some (.lst ((ss.map fun n=>t.at n-u.at n).map V.int))→Q (.ref D) H'
theorem Dx {ss:List Str} {i:Nat} {n:Str} (t u:Term) (h:ss[i]? =some n):(((ss.take (i+1)).map fun n=>t.at n-u.at n).map V.int)=(((ss.take i).map fun n=>t.at n-u.at n).map V.int)++[.int (t.at n-u.at n)]:=by
 rw[take_snoc h,List.map_append,List.map_append];rfl
theorem iL:aN ["saying","names","left","right"] ["saying","names"] (ag cO):=⟨rfl,rfl,rfl,by decide+kernel,rfl,by decide+kernel,by decide+kernel⟩
theorem lM {a:bR} (T:Txt K mg a):aS P w K mg base bp 2 a.gG a.iC ["saying","names"] Im:=by
 have qU:=yH (P:=P) (w:=w) (base:=base) T
 refine T.uV.ok iL (fun vs H Q E h=>?_) (fun cdv A outer s H vs Q E hr h=>?_)
 ·obtain⟨sy,ta,tb,nm,w0,t,u,ss,rfl,_⟩:=h
  rfl
 ·obtain⟨sy,ta,tb,nm,w0,t,u,ss,rfl,es,e1,e2,l1,l2,en,ls,k⟩:=h
  have o5:aO 1 _:=hr
  refine⟨_,(ai (ay (i:=2) iL.nd rfl (Or.inl rfl) (az qU o5 rfl T.qD T.qE T.qF .nil aJ (ae (aH (aC K) (pv 0) aj (fun _ _=>rfl)) (ae (pv 1) ah))))
  (ai (ay (i:=3) iL.nd rfl (Or.inl rfl) (az qU o5 rfl T.qD T.qE T.qF .nil aJ (ae (aH (aC K) (pv 0) aj (fun _ _=>rfl)) (ae (pv 1) ah))))
  (aq (aQ (cz (aI.mk' (esc:=ag cO) (N:=["saying","names","left","right"]) (own:=["one","other"]) (aM:=[]) (bH:=[]) rfl rfl (by decide+kernel)) rfl (Jx rfl T.Ay (ae (pv 2) (ae (pv 3) ah))) (fun _ _ _ _=>(rK K (n:=2) rfl (cK (aF (i:=0) (show List.Nodup (["one","other"]:List Str) by decide+kernel) rfl (Or.inl rfl)) (cK (aF (i:=1) (show List.Nodup (["one","other"]:List Str) by decide+kernel) rfl (Or.inl rfl)) jz)))) (fun _ _ _ _=>bM) (fun _ _ _ _=>(aG fq (pv 0) (pv 1)))))))),?_⟩
  have big:(10000:Nat)≤sizeLine:=by decide
  refine⟨_,rfl,sy,_,_,.ref ta,rfl,rfl,.of es,ax (j:=1) rfl,_,rfl,ta,nm,t,ss,rfl,e1,l1,en,ls,fun D1 H1 hD1 s1 d1=>?_⟩
  dsimp only[aL]
  refine⟨_,rfl,sy,_,_,.ref tb,rfl,rfl,.of (s1 _ _ es),ax (j:=2) rfl,_,rfl,tb,nm,u,ss,rfl,e2.keep s1.kt,l2,s1 _ _ en,ls,fun D2 H2 hD2 s2 d2=>?_⟩
  dsimp only[aL]
  have Pg:=s2 _ _ d1
  refine⟨_,rfl,_,rfl,D1,D2,rfl,⟨_,.of Pg⟩,⟨_,.of d2⟩,fun C hC=>?_⟩
  refine ES (xs:=(ss.map t.at).map V.int) (ys:=(ss.map u.at).map V.int) (fun i σ H'=>∃v1 v2:Option V,σ=[v1,v2]∧Same H2 H'∧H' C=some (.lst (((ss.take i).map fun n=>t.at n-u.at n).map V.int))) (by rw[List.length_map,List.length_map,List.length_map,List.length_map])
   ⟨none,none,?sg,Same.new hC,af⟩ (fun i σ H' _ ⟨_,_,_,s',_⟩=>⟨.of (s' _ _ Pg),.of (s' _ _ d2)⟩) ?_ ?_
  case sg=>rfl
  ·rintro i x y p σ H' hx hy ⟨v1,v2,rfl,s',c'⟩ hp
   obtain⟨x,rfl,ex⟩:=iu hx
   obtain⟨y,rfl,ey⟩:=iu hy
   rw[List.getElem?_map] at ex ey
   obtain⟨n,en',rfl⟩:=Option.map_eq_some_iff.mp ex
   rw[en'] at ey
   have ey:=Option.some.inj ey
   subst ey
   have hi:=(List.getElem?_eq_some_iff.mp en').1
   have sp:=Same.new (o:=.tup [.int (t.at n),.int (u.at n)]) hp
   refine⟨p,_,rfl,.of af,rfl,_,_,rfl,_,_,rfl,rfl,?_⟩
   refine⟨_,rfl,_,rfl,_,_,rfl,rfl,_,sp _ _ c',?_,_,_,rfl,(s'.trans sp).kbn hC KB.write,?_⟩
   ·rw[List.length_map,List.length_map,List.length_take];omega
   ·rw[af,Dx t u en']
  rintro σ H' ⟨v1,v2,rfl,s',c'⟩
  rw[List.length_map,List.length_map,List.take_length] at c'
  exact k C H' ((s1.trans s2).free hC) ((s1.trans s2).trans s') c'
def Dy (b:Nat):Option Int→Int→Option Int
 | none,_=>none
 | some r,t=>if(r-t) % (b:Int)=0 then some ((r-t) / (b:Int)) else none
def xZ:Sp:=fun vs H Q _=>∃(b:Nat) (r:Option Int) (t:Int),vs=[.int b,oV r,.int t]∧2≤b∧b≤4∧Q (oV (Dy b r t)) H
theorem sk:aN ["base","room","total"] ["base","room","total"] (ag dv):=⟨rfl,rfl,rfl,by decide+kernel,rfl,by decide+kernel,by decide+kernel⟩
theorem sr {a:bR} (T:Txt K mg a):aS P w K mg base bp 1 a.eV a.fS ["base","room","total"] xZ:=by
 refine T.uW.ok sk (fun vs H Q E h=>?_) (fun cdv A outer s H vs Q E hr h=>?_)
 ·obtain⟨b,r,t,rfl,_⟩:=h
  rfl
 ·obtain⟨b,r,t,rfl,hb2,hb4,k⟩:=h
  refine⟨_,(ai (dB (PW.pt (g6 (bh Bn (pv 1) nA (bB _)) (iS (bh jt (aG fg (aG fq (pv 1) (pv 2)) (pv 0)) aj (bB _)))))
   (aq (aQ nA))
   b_)
  (aq (aQ (aG il (aG fq (pv 1) (pv 2)) (pv 0))))),?_⟩
  have lg:((b:Nat):Int).natAbs.log2<9000:=by
   rw[Int.natAbs_natCast]
   exact Nat.lt_of_le_of_lt (Nat.log2_le_self b) (by omega)
  refine⟨_,rfl,rfl,_,rfl,?_⟩
  cases r with
  | none=>
   refine cj (fun _=>?_) (fun z=>absurd rfl z)
   exact cj (fun _=>k) (fun z=>absurd rfl z)
  | some r=>
   refine cj (fun z=>absurd z (by simp[oV])) (fun _=>?_)
   refine⟨_,rfl,_,rfl,_,_,rfl,rfl,_,rfl,_,_,rfl,rfl,by show(0:Int)<_;omega,rfl,_,rfl,?_⟩
   have k':Q (oV (if(r-t) % (b:Int)=0 then some ((r-t) / (b:Int)) else none)) H:=k
   by_cases hz:(r-t) % (b:Int)=0
   ·rw[if_pos hz] at k'
    refine cj (fun z=>absurd z (by show ¬(!decide (V.int ((r-t) % (b:Int))=V.int 0))=true;rw[hz];decide)) (fun _=>?_)
    exact⟨_,rfl,_,rfl,_,_,rfl,rfl,_,rfl,_,_,rfl,rfl,⟨by omega,lg⟩,k'⟩
   ·rw[if_neg hz] at k'
    exact cj (fun _=>k') (fun z=>absurd (by simp[hz]) z)
def GK:List (Pos×Str):=[(⟨100,13,100,71⟩,(("same_growth":Str)++".<locals>.")++"<lambda>"),(⟨101,27,101,49⟩,(("same_growth":Str)++".<locals>.")++"<lambda>")]
def GL:List (Pos×Str):=[(⟨105,13,105,63⟩,(("less_growth":Str)++".<locals>.")++"<lambda>"),(⟨106,27,106,49⟩,(("less_growth":Str)++".<locals>.")++"<lambda>")]
structure TB (a:bR) (H:Hp):Prop where
 sm:Tab H a.bN GK
 le:Tab H a.bO GL
def KX (a:bR) (H H':Hp):Prop:=∀b o,H b=some o→(∀qs,o≠.h9 qs)→H' b=some o
theorem KX.trans {a:bR} {H H1 H2:Hp} (x:KX a H H1) (y:KX a H1 H2):KX a H H2:=fun b o e n=>y b o (x b o e n) n
theorem KX.same {a:bR} {H H':Hp} (s:Same H H'):KX a H H':=fun b o e _=>s b o e
theorem KX.kt {a:bR} {H H':Hp} (x:KX a H H'):bt H H':=fun b xs e=>x b _ e fun _ z=>nomatch z
theorem KX.kb {a:bR} {H H':Hp} {T:Addr} {L:List (Pos×Str)} (t:Tab H T L) (k:KB T H H'):KX a H H':=fun b o e n=>k b o e fun z=>by
 obtain⟨qs,h,_⟩:=t
 rw[z,h] at e
 exact n qs (Option.some.inj e).symm
theorem _root_.L2.Tab.Ph {H H':Hp} {T d:Addr} {L L':List (Pos×Str)} (x:Tab H T L) (y:Tab H d L') (s:KB d H H') (hd:T≠d):Tab H' T L:=by
 obtain⟨ps,h1,h2,h3⟩:=x
 obtain⟨qs,g,_⟩:=y
 refine⟨ps,s _ _ h1 hd,h2,fun p hp=>?_⟩
 rcases h3 p hp with z | ⟨c,z1,z2⟩
 ·exact .inl z
 ·exact .inr ⟨c,z1,s _ _ z2 fun e=>by rw[e,g] at z2;cases z2⟩
theorem TB.same {a:bR} {H H':Hp} (t:TB a H) (s:Same H H'):TB a H':=⟨t.sm.same s,t.le.same s⟩
section
variable {K:PySem.W.Frag} {mg:Str→Option Value} {a:bR} {H H':Hp}
theorem TB.Pj (T:Txt K mg a) (t:TB a H) (k:KB a.bN H H') (y:Tab H' a.bN GK):TB a H':=⟨y,t.le.Ph t.sm k T.tne01.symm⟩
theorem TB.kle (T:Txt K mg a) (t:TB a H) (k:KB a.bO H H') (y:Tab H' a.bO GL):TB a H':=⟨t.sm.Ph t.le k T.tne01,y⟩
end
theorem apart2 {p q:Pos×Str} (h:p.1.line≠q.1.line):Apart [p,q]:=fun a ha b hb e _=>by
 rcases List.mem_cons.mp ha with z | z<;>rcases List.mem_cons.mp hb with y | y
 ·rw[z,y]
 ·rw[z,List.mem_singleton.mp y] at e;exact absurd e h
 ·rw[y,List.mem_singleton.mp z] at e;exact absurd e.symm h
 ·rw[List.mem_singleton.mp z,List.mem_singleton.mp y]
def lN (ls:Bool) (b:Nat) (su:List Int) (r:Option Int) (c:Nat):Option Int:=if ls then r.map fun i=>(i-su.getD c 0) / (b:Int) else Dy b r (su.getD c 0)
def dr (ls:Bool) (r:Option Int):Bool:=if ls then(match r with | some i=>decide (0≤i) | none=>false) else decide (r=some 0)
def x2 (ls:Bool) (r:Option Int):Prop:=ls=true→r.isSome=true
def cb (ls:Bool) (t u:Term):Int:=if ls then u.num-t.num-1 else u.num-t.num
def i9 (sa:Addr) (su:List Int) (H:Hp):Prop:=H sa=some (.lst (su.map V.int))
theorem i9.kx {a:bR} {sa:Addr} {su:List Int} {H H':Hp} (e:i9 sa su H) (k:KX a H H'):i9 sa su H':=k _ _ e fun _ y=>nomatch y
theorem i9.dm {sa:Addr} {su:List Int} {H:Hp} {D:List Addr} (hD:∀a∈D,∃φ,H a=some (.ext φ)) (e:i9 sa su H):i9 sa su (L2.dm D H):=wI hD e (fun _ y=>nomatch y)
theorem K3 {ls:Bool} {b:Nat} {su:List Int} {r:Option Int} {c:Nat} (h:x2 ls r):x2 ls (lN ls b su r c):=fun e=>by
 subst e
 obtain⟨i,rfl⟩:=Option.isSome_iff_exists.mp (h rfl)
 rfl
def GN (P:Program) (w:World) (K:PySem.W.Frag) (mg:Str→Option Value) (base:Heap) (a:bR) (ls:Bool):Sp:=fun vs H Q _=>∃(b:Nat) (nm sy ta tb:Addr) (w0:V) (t u:Term) (ss:List Str),vs=[.int b,.ref nm,.ref sy]∧2≤b∧b≤4∧H sy=some (.tup [w0,.ref ta,.ref tb])∧cF H ta t∧cF H tb u∧t.parts.length≤100∧u.parts.length≤100∧H nm=some (.tup (ss.map V.str))∧ss.length≤4∧TB a H∧
 ∀(g f1 f2 sa:Addr) (D:List Addr) (H':Hp),KX a H H'→TB a H'→(∀a∈D,∃φ,H' a=some (.ext φ))→i9 sa (bx b (ss.map fun n=>t.at n-u.at n)) H'→H' g=some (.tup [.int (cb ls t u),.ref f1,.ref f2])→
  gQ P w K mg base H' D 2 f1 2 (AE (wV P w) (b ^ ss.length) (lN ls b (bx b (ss.map fun n=>t.at n-u.at n))) (x2 ls) (i9 sa (bx b (ss.map fun n=>t.at n-u.at n))))→
  gQ P w K mg base H' D 2 f2 1 (AF (wV P w) (dr ls) (x2 ls) (i9 sa (bx b (ss.map fun n=>t.at n-u.at n))))→Q (.ref g) H'
theorem fZ:aN ["base","names","saying","sums","first","onward"] ["base","names","saying"] (ag bz):=⟨rfl,rfl,rfl,by decide+kernel,rfl,by decide+kernel,by decide+kernel⟩
set_option maxHeartbeats 16000000 in
theorem sv {a:bR} (T:Txt K mg a) (hB:fQ mg base):aS P w K mg base bp 3 a.cP a.iD ["base","names","saying"] (GN P w K mg base a false):=by
 have jm:=lL (P:=P) (w:=w) (base:=base) T
 have jn:=lM (P:=P) (w:=w) (base:=base) T
 refine T.u_.okR fZ (fun vs H Q E h=>?_) (fun Ar outer sh H vs Q E inj hr h=>?_)
 ·obtain⟨b,nm,sy,ta,tb',w0,t,u,ss,rfl,_⟩:=h
  rfl
 ·obtain⟨b,nm,sy,ta,tb',w0,t,u,ss,rfl,hb2,hb4,es,e1,e2,l1,l2,oZ,ls,tb,q⟩:=h
  have iM:aO 2 _:=hr
  have iN:aO 2 _:=hr
  refine⟨_,jB (ay (i:=3) fZ.nd rfl (Or.inr rfl) (az jm iM rfl T.m7 T.m8 T.m9 .nil aJ (ae (pv 0) (ae (az jn iN rfl T.ng T.nh T.ni .nil aJ (ae (pv 2) (ae (pv 1) ah))) ah))))
   (jB (ay (i:=4) fZ.nd rfl (Or.inl rfl) (aG fq (aH (aC K) (aH (aC K) (pv 2) aj (fun _ _=>rfl)) aj (fun _ _=>rfl)) (aH (aC K) (aH (aC K) (pv 2) aj (fun _ _=>rfl)) aj (fun _ _=>rfl))))
   (jB (ay (i:=5) fZ.nd rfl (Or.inl rfl) (oF (T:=a.bN) (L:=GK) rfl T.nj hB rfl rfl (List.mem_cons_self) (apart2 (by decide)) rfl))
   (Ca (bL (ae (pv 4) (ae (pv 5) (ae (oF (T:=a.bN) (L:=GK) rfl T.nj hB rfl rfl (List.mem_cons_of_mem _ List.mem_cons_self) (apart2 (by decide)) rfl) ah))))))),?_⟩
  refine⟨_,rfl,_,rfl,_,rfl,sy,ta,tb',nm,w0,t,u,ss,rfl,es,e1,e2,l1,l2,oZ,by omega,fun D0 H0 zl s0 d0=>?_⟩
  refine⟨b,D0,_,rfl,hb4,d0,by rw[List.length_map];exact ls,fun sa H1 hsa s1' d1=>?_⟩
  have s1:=s0.trans s1'
  rw[show((lets b (ss.map fun n=>t.at n-u.at n).length).map fun l=>dot l (ss.map fun n=>t.at n-u.at n))=bx b (ss.map fun n=>t.at n-u.at n) from rfl] at d1
  have Dz:(bx b (ss.map fun n=>t.at n-u.at n)).length=b ^ ss.length:=by rw[uA,List.length_map]
  generalize bx b (ss.map fun n=>t.at n-u.at n)=su at d1 q Dz
  dsimp only[aL]
  obtain⟨b1,ps1,a11,_⟩:=e1.keep s1.kt
  obtain⟨Wi,ps2,a21,_⟩:=e2.keep s1.kt
  have es1:=s1 _ _ es
  refine⟨_,rfl,sy,_,_,.ref tb',rfl,rfl,.of es1,ax (j:=2) rfl,tb',_,_,.int u.num,rfl,rfl,.of a21,ax (j:=0) rfl,_,rfl,sy,_,_,.ref ta,rfl,rfl,.of es1,ax (j:=1) rfl,ta,_,_,.int t.num,rfl,rfl,.of a11,ax (j:=0) rfl,_,_,rfl,rfl,?_⟩
  have ev1:i9 sa su H1:=d1
  have o6:=tb.same s1
  dsimp only[aL]
  refine⟨o6.sm,fun f1 d1 Q1 H3 hf1 K4 K5 Fq kb3=>?_⟩
  have k3:KX a H1 H3:=KX.kb o6.sm kb3
  have o7:=o6.Pj T kb3 Fq
  dsimp only[aL]
  refine⟨_,rfl,_,rfl,o7.sm,fun f2 d2 Q2 H5 hf2 K6 K7 Fs DA=>?_⟩
  have k35:KX a H3 H5:=KX.kb o7.sm DA
  have zD:=o7.Pj T DA Fs
  refine⟨by show 3≤sizeLine;decide,fun g hg=>?_⟩
  have sg:=Same.new (o:=.tup [.int (cb false t u),.ref f1,.ref f2]) hg
  obtain⟨c1,h1⟩:∃c,(PyProof.Rows.envOfC "same_growth" (ag bz) sh.heap.objs.size a.cP (.ref a.eX)).cells.lookup ("base":Str)=some c:=ij rfl
  obtain⟨c2',h2⟩:∃c,(PyProof.Rows.envOfC "same_growth" (ag bz) sh.heap.objs.size a.cP (.ref a.eX)).cells.lookup ("sums":Str)=some c:=ij rfl
  let l:List (Nat×Str×Addr×V):=[(0,"base",c1,.int (b:Nat)),(3,"sums",c2',.ref sa)]
  have C:uf (jd bp P w K mg base ["base","names","saying","sums","first","onward"] "same_growth" (ag bz) a.cP (.ref a.eX) Ar outer sh H E) [some (.int (b:Nat)),some (.ref nm),some (.ref sy),some (.ref sa),some (.int (cb false t u)),some (.ref f1)] l:=
   ⟨List.forall_mem_cons.mpr ⟨⟨rfl,rfl,rfl,h1⟩,List.forall_mem_cons.mpr ⟨⟨rfl,rfl,rfl,h2⟩,fun _ h=>nomatch h⟩⟩,show(["base","sums"]:List Str).Nodup by decide+kernel⟩
  refine⟨ky l,C.cells,fun fr=>?_⟩
  have sm:=j9 fr
  have g1:=C.got inj (upd H5 g (.tup [.int (cb false t u),.ref f1,.ref f2])) (q:=(0,"base",c1,.int (b:Nat))) (by simp[l])
  have g2:=C.got inj (upd H5 g (.tup [.int (cb false t u),.ref f1,.ref f2])) (q:=(3,"sums",c2',.ref sa)) (by simp[l])
  have s6:=sg.trans sm
  have qV:=k35.trans (KX.same s6)
  have x3:=qV _ _ K4 fun _ y=>nomatch y
  have x4:=qV _ _ K5 fun _ y=>nomatch y
  have x8:=s6 _ _ K6
  have x9:=s6 _ _ K7
  have K8:=i9.kx ev1 (k3.trans qV)
  have K9:∀x∈[f1,d1,f2,d2,c1,c2'],∃φ,je (ky l) (upd H5 g (.tup [.int (cb false t u),.ref f1,.ref f2])) x=some (.ext φ):=fun x hx=>by
   simp only[List.mem_cons,List.not_mem_nil,or_false] at hx
   rcases hx with z | z | z | z | z | z
   ·rw[z];exact⟨_,x3⟩
   ·rw[z];exact⟨_,x4⟩
   ·rw[z];exact⟨_,x8⟩
   ·rw[z];exact⟨_,x9⟩
   ·rw[z];exact⟨_,g1⟩
   ·rw[z];exact⟨_,g2⟩
  refine q g f1 f2 sa [f1,d1,f2,d2,c1,c2'] _ ((KX.same s1).trans (k3.trans qV)) (zD.same s6) K9 K8 (sm _ _ af) ?_ ?_
  ·refine gQ.lam x3 (by simp) x4 (by simp) (ps:=["room","letter"]) (aM:=["base","sums"]) (fvs:=[.int (b:Nat),.ref sa]) (eJ.mk' rfl rfl rfl (by decide+kernel) (by decide+kernel) (by decide+kernel) (by decide+kernel) (by decide+kernel)) inj (List.forall_mem_cons.mpr ⟨⟨rfl,List.mem_of_getElem? (i:=1) rfl⟩,List.forall_mem_cons.mpr ⟨⟨rfl,List.mem_of_getElem? (i:=0) rfl⟩,fun _ h=>nomatch h⟩⟩)
    (.cons ⟨c1,rfl,h1,by simp,g1⟩ (.cons ⟨c2',rfl,h2,by simp,g2⟩ .nil)) (fun us hl=>match us,hl with | [_,_],_=>rfl) (fun vs H Q E h=>?_) (fun base' W A outer s H vs Q E hr h=>?_)
   ·obtain⟨x,v,c,rfl,_⟩:=h
    rfl
   ·obtain⟨S,vv,c,rfl,rfl,qN,hc,ev,kk⟩:=h
    have K':su[c]? =some (su.getD c 0):=item_at 0 (by rw[Dz];exact hc)
    have vA:aS P w K mg base' bp 1 a.eV a.fS ["base","room","total"] xZ:=sr T
    have hr1:aO 1 _:=hr
    refine⟨_,az vA hr1 (by rfl) T.uX T.uY T.uZ .nil aJ (ae (pv 2) (ae (pv 0) (ae (aH (iq K) (pv 3) (pv 1) (fun _ _=>rfl)) ah))),?_⟩
    exact⟨_,rfl,_,rfl,_,rfl,_,rfl,sa,_,_,.int (su.getD c 0),rfl,rfl,.of ev,ax (by rw[List.getElem?_map,K'];rfl),b,S,_,rfl,hb2,hb4,kk _ H (.refl _) rfl⟩
  ·refine gQ.lam x8 (by simp) x9 (by simp) (ps:=["room"]) (aM:=[]) (fvs:=[]) (eJ.mk' rfl rfl rfl (by decide+kernel) (by decide+kernel) (by decide+kernel) (by decide+kernel) (by decide+kernel)) inj (fun _ h=>nomatch h)
    .nil (fun us hl=>match us,hl with | [_],_=>rfl) (fun vs H Q E h=>?_) (fun base' W A outer s H vs Q E hr h=>?_)
   ·obtain⟨x,v,rfl,_⟩:=h
    rfl
   ·obtain⟨S,vv,rfl,rfl,qN,ev,kk⟩:=h
    refine⟨_,ox lR (pv 0) aj (bB _),?_⟩
    have key:decide (oV S=V.int 0)=dr false S:=by
     cases S with
     | none=>rfl
     | some i=>
      show decide (V.int i=V.int 0)=decide ((some i:Option Int)=some 0)
      by_cases e:i=0
      ·subst e;rfl
      ·rw[decide_eq_false (fun z=>e (V.int.inj z)),decide_eq_false (fun z=>e (Option.some.inj z))]
    refine⟨_,rfl,by cases S<;>rfl,?_⟩
    rw[key]
    exact kk H (.refl _)
theorem f_:aN ["base","names","saying","sums","first","onward"] ["base","names","saying"] (ag bA):=⟨rfl,rfl,rfl,by decide+kernel,rfl,by decide+kernel,by decide+kernel⟩
set_option maxHeartbeats 16000000 in
theorem sx {a:bR} (T:Txt K mg a) (hB:fQ mg base):aS P w K mg base bp 3 a.cQ a.iE ["base","names","saying"] (GN P w K mg base a true):=by
 have jm:=lL (P:=P) (w:=w) (base:=base) T
 have jn:=lM (P:=P) (w:=w) (base:=base) T
 refine T.u5.okR f_ (fun vs H Q E h=>?_) (fun Ar outer sh H vs Q E inj hr h=>?_)
 ·obtain⟨b,nm,sy,ta,tb',w0,t,u,ss,rfl,_⟩:=h
  rfl
 ·obtain⟨b,nm,sy,ta,tb',w0,t,u,ss,rfl,hb2,hb4,es,e1,e2,l1,l2,oZ,ls,tb,q⟩:=h
  have iM:aO 2 _:=hr
  have iN:aO 2 _:=hr
  refine⟨_,jB (ay (i:=3) f_.nd rfl (Or.inr rfl) (az jm iM rfl T.m7 T.m8 T.m9 .nil aJ (ae (pv 0) (ae (az jn iN rfl T.ng T.nh T.ni .nil aJ (ae (pv 2) (ae (pv 1) ah))) ah))))
   (jB (ay (i:=4) f_.nd rfl (Or.inl rfl) (aG fq (aG fq (aH (aC K) (aH (aC K) (pv 2) aj (fun _ _=>rfl)) aj (fun _ _=>rfl)) (aH (aC K) (aH (aC K) (pv 2) aj (fun _ _=>rfl)) aj (fun _ _=>rfl))) aj))
   (jB (ay (i:=5) f_.nd rfl (Or.inl rfl) (oF (T:=a.bO) (L:=GL) rfl T.nq hB rfl rfl (List.mem_cons_self) (apart2 (by decide)) rfl))
   (Ca (bL (ae (pv 4) (ae (pv 5) (ae (oF (T:=a.bO) (L:=GL) rfl T.nq hB rfl rfl (List.mem_cons_of_mem _ List.mem_cons_self) (apart2 (by decide)) rfl) ah))))))),?_⟩
  refine⟨_,rfl,_,rfl,_,rfl,sy,ta,tb',nm,w0,t,u,ss,rfl,es,e1,e2,l1,l2,oZ,by omega,fun D0 H0 zl s0 d0=>?_⟩
  refine⟨b,D0,_,rfl,hb4,d0,by rw[List.length_map];exact ls,fun sa H1 hsa s1' d1=>?_⟩
  have s1:=s0.trans s1'
  rw[show((lets b (ss.map fun n=>t.at n-u.at n).length).map fun l=>dot l (ss.map fun n=>t.at n-u.at n))=bx b (ss.map fun n=>t.at n-u.at n) from rfl] at d1
  have Dz:(bx b (ss.map fun n=>t.at n-u.at n)).length=b ^ ss.length:=by rw[uA,List.length_map]
  generalize bx b (ss.map fun n=>t.at n-u.at n)=su at d1 q Dz
  dsimp only[aL]
  obtain⟨b1,ps1,a11,_⟩:=e1.keep s1.kt
  obtain⟨Wi,ps2,a21,_⟩:=e2.keep s1.kt
  have es1:=s1 _ _ es
  refine⟨_,rfl,sy,_,_,.ref tb',rfl,rfl,.of es1,ax (j:=2) rfl,tb',_,_,.int u.num,rfl,rfl,.of a21,ax (j:=0) rfl,_,rfl,sy,_,_,.ref ta,rfl,rfl,.of es1,ax (j:=1) rfl,ta,_,_,.int t.num,rfl,rfl,.of a11,ax (j:=0) rfl,_,_,rfl,rfl,_,_,rfl,rfl,?_⟩
  have ev1:i9 sa su H1:=d1
  have o6:=tb.same s1
  dsimp only[aL]
  refine⟨o6.le,fun f1 d1 Q1 H3 hf1 K4 K5 Fq kb3=>?_⟩
  have k3:KX a H1 H3:=KX.kb o6.le kb3
  have o7:=o6.kle T kb3 Fq
  dsimp only[aL]
  refine⟨_,rfl,_,rfl,o7.le,fun f2 d2 Q2 H5 hf2 K6 K7 Fs DA=>?_⟩
  have k35:KX a H3 H5:=KX.kb o7.le DA
  have zD:=o7.kle T DA Fs
  refine⟨by show 3≤sizeLine;decide,fun g hg=>?_⟩
  have sg:=Same.new (o:=.tup [.int (cb true t u),.ref f1,.ref f2]) hg
  obtain⟨c1,h1⟩:∃c,(PyProof.Rows.envOfC "less_growth" (ag bA) sh.heap.objs.size a.cQ (.ref a.eY)).cells.lookup ("base":Str)=some c:=ij rfl
  obtain⟨c2',h2⟩:∃c,(PyProof.Rows.envOfC "less_growth" (ag bA) sh.heap.objs.size a.cQ (.ref a.eY)).cells.lookup ("sums":Str)=some c:=ij rfl
  let l:List (Nat×Str×Addr×V):=[(0,"base",c1,.int (b:Nat)),(3,"sums",c2',.ref sa)]
  have C:uf (jd bp P w K mg base ["base","names","saying","sums","first","onward"] "less_growth" (ag bA) a.cQ (.ref a.eY) Ar outer sh H E) [some (.int (b:Nat)),some (.ref nm),some (.ref sy),some (.ref sa),some (.int (cb true t u)),some (.ref f1)] l:=
   ⟨List.forall_mem_cons.mpr ⟨⟨rfl,rfl,rfl,h1⟩,List.forall_mem_cons.mpr ⟨⟨rfl,rfl,rfl,h2⟩,fun _ h=>nomatch h⟩⟩,show(["base","sums"]:List Str).Nodup by decide+kernel⟩
  refine⟨ky l,C.cells,fun fr=>?_⟩
  have sm:=j9 fr
  have g1:=C.got inj (upd H5 g (.tup [.int (cb true t u),.ref f1,.ref f2])) (q:=(0,"base",c1,.int (b:Nat))) (by simp[l])
  have g2:=C.got inj (upd H5 g (.tup [.int (cb true t u),.ref f1,.ref f2])) (q:=(3,"sums",c2',.ref sa)) (by simp[l])
  have s6:=sg.trans sm
  have qV:=k35.trans (KX.same s6)
  have x3:=qV _ _ K4 fun _ y=>nomatch y
  have x4:=qV _ _ K5 fun _ y=>nomatch y
  have x8:=s6 _ _ K6
  have x9:=s6 _ _ K7
  have K8:=i9.kx ev1 (k3.trans qV)
  have K9:∀x∈[f1,d1,f2,d2,c1,c2'],∃φ,je (ky l) (upd H5 g (.tup [.int (cb true t u),.ref f1,.ref f2])) x=some (.ext φ):=fun x hx=>by
   simp only[List.mem_cons,List.not_mem_nil,or_false] at hx
   rcases hx with z | z | z | z | z | z
   ·rw[z];exact⟨_,x3⟩
   ·rw[z];exact⟨_,x4⟩
   ·rw[z];exact⟨_,x8⟩
   ·rw[z];exact⟨_,x9⟩
   ·rw[z];exact⟨_,g1⟩
   ·rw[z];exact⟨_,g2⟩
  refine q g f1 f2 sa [f1,d1,f2,d2,c1,c2'] _ ((KX.same s1).trans (k3.trans qV)) (zD.same s6) K9 K8 (sm _ _ af) ?_ ?_
  ·refine gQ.lam x3 (by simp) x4 (by simp) (ps:=["room","letter"]) (aM:=["base","sums"]) (fvs:=[.int (b:Nat),.ref sa]) (eJ.mk' rfl rfl rfl (by decide+kernel) (by decide+kernel) (by decide+kernel) (by decide+kernel) (by decide+kernel)) inj (List.forall_mem_cons.mpr ⟨⟨rfl,List.mem_of_getElem? (i:=1) rfl⟩,List.forall_mem_cons.mpr ⟨⟨rfl,List.mem_of_getElem? (i:=0) rfl⟩,fun _ h=>nomatch h⟩⟩)
    (.cons ⟨c1,rfl,h1,by simp,g1⟩ (.cons ⟨c2',rfl,h2,by simp,g2⟩ .nil)) (fun us hl=>match us,hl with | [_,_],_=>rfl) (fun vs H Q E h=>?_) (fun base' W A outer s H vs Q E hr h=>?_)
   ·obtain⟨x,v,c,rfl,_⟩:=h
    rfl
   ·obtain⟨S,vv,c,rfl,rfl,qN,hc,ev,kk⟩:=h
    have K':su[c]? =some (su.getD c 0):=item_at 0 (by rw[Dz];exact hc)
    obtain⟨i,rfl⟩:∃i,S=some i:=Option.isSome_iff_exists.mp (qN rfl)
    refine⟨_,aG il (aG fq (pv 0) (aH (iq K) (pv 3) (pv 1) (fun _ _=>rfl))) (pv 2),?_⟩
    have lg:((b:Nat):Int).natAbs.log2<9000:=by
     rw[Int.natAbs_natCast]
     exact Nat.lt_of_le_of_lt (Nat.log2_le_self b) (by omega)
    exact⟨_,rfl,_,rfl,_,rfl,sa,_,_,.int (su.getD c 0),rfl,rfl,.of ev,ax (by rw[List.getElem?_map,K'];rfl),_,_,rfl,rfl,_,rfl,_,_,rfl,rfl,⟨by omega,lg⟩,kk _ H (.refl _) rfl⟩
  ·refine gQ.lam x8 (by simp) x9 (by simp) (ps:=["room"]) (aM:=[]) (fvs:=[]) (eJ.mk' rfl rfl rfl (by decide+kernel) (by decide+kernel) (by decide+kernel) (by decide+kernel) (by decide+kernel)) inj (fun _ h=>nomatch h)
    .nil (fun us hl=>match us,hl with | [_],_=>rfl) (fun vs H Q E h=>?_) (fun base' W A outer s H vs Q E hr h=>?_)
   ·obtain⟨x,v,rfl,_⟩:=h
    rfl
   ·obtain⟨S,vv,rfl,rfl,qN,ev,kk⟩:=h
    obtain⟨i,rfl⟩:∃i,S=some i:=Option.isSome_iff_exists.mp (qN rfl)
    refine⟨_,ox FW (pv 0) aj (bB _),?_⟩
    exact⟨_,rfl,_,_,rfl,rfl,kk H (.refl _)⟩
def mM (ls:Bool) (t u:Term):ao:=if ls then .less t u else .same t u
def AU (ls:Bool):Str:=if ls then "less" else "same"
def fk (t u:Term) (ks:List Str):List Int:=ks.map fun n=>t.at n-u.at n
def mN (H:Hp) (sy ta tb:Addr) (ls:Bool) (t u:Term):Prop:=H sy=some (.tup [.str (AU ls),.ref ta,.ref tb])∧cF H ta t∧cF H tb u
theorem mN.keep {H H':Hp} {sy ta tb:Addr} {ls:Bool} {t u:Term} (h:mN H sy ta tb ls t u) (k:bt H H'):mN H' sy ta tb ls t u:=⟨k _ _ h.1,h.2.1.keep k,h.2.2.keep k⟩
theorem cF.dat {K:PySem.W.Frag} {H:Hp} {a:Addr} {t:Term} (h:cF H a t):ak K H (.ref a) t.dt:=by
 obtain⟨b,ps,h1,h2,h3⟩:=h
 refine iw (.of h1) (bX y8 (bX (iw (.of h2) ?_) dP))
 clear h1 h2
 generalize t.parts=l at h3
 induction h3 with
 | nil=>exact dP
 | cons h _ ih=>exact bX (iw (.of h) (bX oz (bX y8 dP))) ih
theorem mN.dat {K:PySem.W.Frag} {H:Hp} {sy ta tb:Addr} {ls:Bool} {t u:Term} (h:mN H sy ta tb ls t u):ak K H (.ref sy) (mM ls t u).dt:=by
 obtain⟨h1,h2,h3⟩:=h
 cases ls
 ·exact iw (.of h1) (bX oz (bX h2.dat (bX h3.dat dP)))
 ·exact iw (.of h1) (bX oz (bX h2.dat (bX h3.dat dP)))
def Io (P:Program) (w:World) (K:PySem.W.Frag) (mg:Str→Option Value) (base:Heap) (a:bR):Sp:=fun vs H Q _=>∃(ls:Bool) (b:Nat) (wo nm sy ta tb:Addr) (wv:V) (t u:Term) (ss:List Str),vs=[.ref wo,.ref nm,.ref sy]∧2≤b∧b≤4∧H wo=some (.tup [.int b,wv])∧mN H sy ta tb ls t u∧t.parts.length≤100∧u.parts.length≤100∧H nm=some (.tup (ss.map V.str))∧ss.length≤4∧TB a H∧
 ∀(g f1 f2 sa:Addr) (D:List Addr) (H':Hp),KX a H H'→TB a H'→(∀a∈D,∃φ,H' a=some (.ext φ))→i9 sa (bx b (fk t u ss)) H'→H' g=some (.tup [.int (cb ls t u),.ref f1,.ref f2])→
  gQ P w K mg base H' D 2 f1 2 (AE (wV P w) (b ^ ss.length) (lN ls b (bx b (fk t u ss))) (x2 ls) (i9 sa (bx b (fk t u ss))))→
  gQ P w K mg base H' D 2 f2 1 (AF (wV P w) (dr ls) (x2 ls) (i9 sa (bx b (fk t u ss))))→Q (.ref g) H'
theorem sG:aN ["world","names","saying","base","row","sums","onward","is_yes"] ["world","names","saying"] (ag bY):=⟨rfl,rfl,rfl,by decide+kernel,rfl,by decide+kernel,by decide+kernel⟩
theorem qW:aN ["world","names","saying","base","one","other","left","right","onward","is_yes"] ["world","names","saying"] (ag bQ):=⟨rfl,rfl,rfl,by decide+kernel,rfl,by decide+kernel,by decide+kernel⟩
theorem sH:aN ["world","names","saying"] ["world","names","saying"] (ag dw):=⟨rfl,rfl,rfl,by decide+kernel,rfl,by decide+kernel,by decide+kernel⟩
theorem sI {a:bR} (T:Txt K mg a) (hB:fQ mg base):aS P w K mg base bp 4 a.gJ a.iG ["world","names","saying"] (Io P w K mg base a):=by
 have vB:=sv (P:=P) (w:=w) (base:=base) T hB
 have vC:=sx (P:=P) (w:=w) (base:=base) T hB
 have vD:aS P w K mg base bp 1 a.gH a.iF ["world","names","saying"] (fun _ _ _ _=>False):=T.vd.okR sG (fun vs H Q E h=>h.elim) (fun Ar outer sh H vs Q E inj hr h=>h.elim)
 have sO:aS P w K mg base bp 1 a.fU a.hU ["world","names","saying"] (fun _ _ _ _=>False):=T.rR.okR qW (fun vs H Q E h=>h.elim) (fun Ar outer sh H vs Q E inj hr h=>h.elim)
 refine T.vh.ok sH (fun vs H Q E h=>?_) (fun cdv A outer s H vs Q E hr h=>?_)
 ·obtain⟨ls,b,wo,nm,sy,ta,tb',wv,t,u,ss,rfl,_⟩:=h
  rfl
 ·obtain⟨ls,b,wo,nm,sy,ta,tb',wv,t,u,ss,rfl,hb2,hb4,ew,⟨es,e1,e2⟩,l1,l2,en,l4,tb,q⟩:=h
  have sQ:aO 3 _:=hr
  have sU:aO 3 _:=hr
  have sX:aO 1 _:=hr.mono (by decide)
  have qX:aO 1 _:=hr.mono (by decide)
  refine⟨_,(ai (dB (bh lR (aH (aC K) (pv 2) aj (fun _ _=>rfl)) bo (bB _))
   (aq (aQ (az vB sQ rfl T.u0 T.u3 T.u4 .nil aJ (ae (aH (aC K) (pv 0) aj (fun _ _=>rfl)) (ae (pv 1) (ae (pv 2) ah))))))
   b_)
  (ai (dB (bh lR (aH (aC K) (pv 2) aj (fun _ _=>rfl)) bo (bB _))
   (aq (aQ (az vC sU rfl T.u6 T.u9 T.vb .nil aJ (ae (aH (aC K) (pv 0) aj (fun _ _=>rfl)) (ae (pv 1) (ae (pv 2) ah))))))
   b_)
  (ai (dB (bh lR (aH (aC K) (pv 2) aj (fun _ _=>rfl)) bo (bB _))
   (aq (aQ (az vD sX rfl T.ve T.vf T.vg .nil aJ (ae (pv 0) (ae (pv 1) (ae (pv 2) ah))))))
   b_)
  (aq (aQ (az sO qX rfl T.rS T.rV T.rW .nil aJ (ae (pv 0) (ae (pv 1) (ae (pv 2) ah))))))))),?_⟩
  refine⟨_,rfl,sy,_,_,.str (AU ls),rfl,rfl,.of es,ax (j:=0) rfl,by cases ls<;>rfl,_,rfl,?_⟩
  cases ls with
  | false=>
   refine cj (fun _=>?_) (fun z=>absurd (by decide) z)
   exact⟨_,rfl,wo,_,_,.int (b:Nat),rfl,rfl,.of ew,ax (j:=0) rfl,_,rfl,_,rfl,b,nm,sy,ta,tb',_,t,u,ss,rfl,hb2,hb4,es,e1,e2,l1,l2,en,l4,tb,q⟩
  | true=>
   refine cj (fun z=>absurd z (by decide)) (fun _=>?_)
   refine⟨_,rfl,sy,_,_,.str (AU true),rfl,rfl,.of es,ax (j:=0) rfl,rfl,_,rfl,?_⟩
   refine cj (fun _=>?_) (fun z=>absurd (by decide) z)
   exact⟨_,rfl,wo,_,_,.int (b:Nat),rfl,rfl,.of ew,ax (j:=0) rfl,_,rfl,_,rfl,b,nm,sy,ta,tb',_,t,u,ss,rfl,hb2,hb4,es,e1,e2,l1,l2,en,l4,tb,q⟩
abbrev zE (ls:Bool) (b:Nat) (t u:Term) (ks:List Str):Option Int→Nat→Option Int:=lN ls b (bx b (fk t u ks))
def yb (a:bR):Sp:=fun vs H Q _=>∃(ls:Bool) (b most:Nat) (wo sy ta tb:Addr) (wv:V) (t u:Term) (ss:List Str),vs=[.ref wo,.ref sy,.int most]∧2≤b∧b≤4∧H wo=some (.tup [.int b,wv])∧mN H sy ta tb ls t u∧(mM ls t u).Over ss∧ss.length≤4∧most≤10000∧TB a H∧
 (∀(ks:List Str) (xs:List (Option Int)) (H':Hp),KX a H H'→TB a H'→cS ks (mM ls t u)→xs.Nodup→(∀x∈xs,∃w,dj (b ^ ks.length) w∧x=dq (zE ls b t u ks) (some (cb ls t u)) w)→most<xs.length→Q .non H')∧
 ∀(ks:List Str) (p nm:Addr) (xs:List (Option Int)) (mv:List (List Nat)) (H':Hp),KX a H H'→TB a H'→cS ks (mM ls t u)→jV H' p nm (xs.map (dr ls)) mv→H' nm=some (.tup (ks.map V.str))→mv.length=xs.length→xs.length≤most→cI (some (cb ls t u)) (zE ls b t u ks) (b ^ ks.length) xs mv→Q (.ref p) H'
theorem DB {ls:Bool} {t u:Term} {ss:List Str} (h:(mM ls t u).Over ss):dW ss t∧dW ss u:=by cases ls<;>exact h
theorem qY:aN ["world","saying","most","names"] ["world","saying","most"] (ag cq):=⟨rfl,rfl,rfl,by decide+kernel,rfl,by decide+kernel,by decide+kernel⟩
theorem AV {a:bR} {pb:kG} {pc:mL} (T:Txt K mg a) (hB:fQ mg base) (U:iR K w.params mg pb) (Y:jx K w.params mg pc):aS P w K mg base bp 5 a.i_ a.hV ["world","saying","most"] (yb a):=by
 have yc:aS P w K mg base bp 4 a.fG a.gE ["saying"] (Dr K):=vz T U Y
 have vE:=sI (P:=P) (w:=w) (base:=base) T hB
 have yd:=vo (P:=P) (w:=w) (base:=base) T 2
 refine T.Cy.ok qY (fun vs H Q E h=>?_) (fun Ar outer s H vs Q E hr h=>?_)
 ·obtain⟨ls,b,most,wo,sy,ta,tb',wv,t,u,ss,rfl,_⟩:=h
  rfl
 ·obtain⟨ls,b,most,wo,sy,ta,tb',wv,t,u,ss,rfl,hb2,hb4,ew,sat,ov,l4,hm,tb,q0,q⟩:=h
  have vF:aO 4 _:=hr
  have tf:aO 4 _:=hr
  have vG:aO 4 _:=hr
  refine⟨_,(ai (ay (i:=3) qY.nd rfl (Or.inl rfl) (az yc vF rfl T.xp T.xq T.xr .nil aJ (ae (pv 1) ah)))
  (aq (aQ (az yd vG rfl T.xb T.xc T.xf .nil aJ (ae (aH (aC K) (pv 0) aj (fun _ _=>rfl)) (ae (pv 3) (ae (az vE tf rfl T.vi T.vj T.vm .nil aJ (ae (pv 0) (ae (pv 3) (ae (pv 1) ah)))) (ae (pv 2) ah)))))))),?_⟩
  have hov:=DB ov
  refine⟨_,rfl,_,_,ss,rfl,sat.dat,by cases ls<;>exact Nat.zero_le _,ov,by omega,fun nm ks H1 s1 en fr=>?_⟩
  have lk:ks.length≤4:=Nat.le_trans (fr.len ov) l4
  dsimp only[aL]
  have Pk:=s1 _ _ ew
  refine⟨_,rfl,wo,_,_,.int (b:Nat),rfl,rfl,.of Pk,ax (j:=0) rfl,_,rfl,_,rfl,_,rfl,_,rfl,ls,b,wo,nm,sy,ta,tb',wv,t,u,ks,rfl,hb2,hb4,Pk,sat.keep s1.kt,by have:=hov.1.1;omega,by have:=hov.2.1;omega,en,lk,tb.same s1,fun g f1 f2 sa D H2 k2 tb2 hD ev eg F1 F2=>?_⟩
  refine⟨_,rfl,b,most,nm,g,ks,Option Int,wV P w,zE ls b t u ks,dr ls,x2 ls,i9 sa (bx b (fk t u ks)),some (cb ls t u),_,f1,f2,D,rfl,hb4,lk,k2.kt _ _ en,eg,hD,F1,F2,fun _ _ h _=>K3 h,fun H H' e s=>s _ _ e,fun D H hD e=>e.dm hD,rfl,fun _=>rfl,ev,hm,fun xs H3 s3 nd rc lt=>?_,fun xs mv p H3 s3 hl hle gr Wj=>?_⟩
  ·exact q0 ks xs H3 ((KX.same s1).trans (k2.trans (KX.same s3))) (tb2.same s3) fr nd rc lt
  ·exact q ks p nm xs mv H3 ((KX.same s1).trans (k2.trans (KX.same s3))) (tb2.same s3) fr Wj (s3 _ _ (k2.kt _ _ en)) hl hle gr
theorem DC {b i:Nat} (hb:2≤b) {ns:List Nat} (h:∀n∈ns,n / b ^ i=0):ib b ns≤i:=by
 by_cases e:ns=[]
 ·subst e;exact Nat.zero_le _
 ·obtain⟨n,hn,en⟩:=zq (b:=b) e
  rw[←en]
  rcases Nat.lt_or_ge i (gW b n).length with z | z
  ·have:=(qL hb i n).mp z
   have:=h n hn
   omega
  ·exact z
theorem Ip {b i:Nat} (hb:2≤b) {ns:List Nat} (h:ib b ns≤i):∀n∈ns,n / b ^ i=0:=fun n hn=>by
 have h1:=xF (b:=b) hn
 rcases Nat.eq_zero_or_pos (n / b ^ i) with z | z
 ·exact z
 ·have:=(qL hb i n).mpr z
  omega
theorem ye {b:Nat}:∀(ds:List Nat),(∀d∈ds,d=0)→lst b 0 ds=0
 | [],_=>rfl
 | d::ds,h=>by
  rw[pR,h d List.mem_cons_self,Nat.zero_mul,Nat.zero_add]
  exact ye ds fun x hx=>h x (List.mem_cons_of_mem _ hx)
theorem ti (ds:List Int):dot [] ds=0:=by cases ds<;>rfl
theorem zF:∀(xs ys ds:List Int),xs.length=ys.length→dot (List.zipWith (· + ·) xs ys) ds=dot xs ds+dot ys ds
 | [],[],ds,_=>by rw[List.zipWith_nil_left,ti];rfl
 | [],_::_,_,h=>by cases h
 | _::_,[],_,h=>by cases h
 | x::xs,y::ys,[],_=>rfl
 | x::xs,y::ys,d::ds,h=>by
  rw[List.zipWith_cons_cons]
  show(x+y)*d+dot (List.zipWith (· + ·) xs ys) ds=x*d+dot xs ds+(y*d+dot ys ds)
  rw[zF xs ys ds (Nat.succ.inj h),Int.add_mul]
  omega
theorem mO (c:Int):∀(xs ds:List Int),dot (xs.map (c* ·)) ds=c*dot xs ds
 | [],ds=>by rw[List.map_nil,ti,Int.mul_zero]
 | x::xs,[]=>by rw[List.map_cons];show(0:Int)=c*0;rw[Int.mul_zero]
 | x::xs,d::ds=>by
  rw[List.map_cons]
  show c*x*d+dot (xs.map (c* ·)) ds=c*(x*d+dot xs ds)
  rw[mO c xs ds,Int.mul_add,Int.mul_assoc]
def part (b:Nat) (ns:List Nat) (ds:List Int) (k:Nat):Int:=dot (aK (ns.map (· % b ^ k))) ds
def oj (b:Nat) (ns:List Nat) (ds:List Int) (k:Nat):Int:=dot (aK (ns.map fun n=>n / b ^ k % b)) ds
theorem uB (b:Nat) (ns:List Nat) (ds:List Int):part b ns ds 0=0:=by
 unfold part
 have e:aK (ns.map (· % b ^ 0))=(aK ns).map ((0:Int)* ·):=by
  unfold aK
  rw[List.map_map,List.map_map]
  refine List.map_congr_left fun n _=>?_
  show((n % b ^ 0:Nat):Int)=0*(n:Int)
  rw[Nat.pow_zero,Nat.mod_one];omega
 rw[e,mO,Int.zero_mul]
theorem uC (b:Nat) (ns:List Nat) (ds:List Int) (k:Nat):part b ns ds (k+1)=part b ns ds k+((b ^ k:Nat):Int)*oj b ns ds k:=by
 unfold part oj
 rw[←mO,←zF _ _ _ (by unfold aK;simp)]
 congr 1
 unfold aK
 rw[List.map_map,List.map_map,List.map_map,List.map_map,List.zipWith_map,List.zipWith_self]
 refine List.map_congr_left fun n _=>?_
 show((n % b ^ (k+1):Nat):Int)=((n % b ^ k:Nat):Int)+((b ^ k:Nat):Int)*((n / b ^ k % b:Nat):Int)
 rw[Nat.pow_succ,Nat.mod_mul,Int.natCast_add,Int.natCast_mul]
theorem Ft {b k:Nat} (hb:0<b) {ns:List Nat} (h:∀n∈ns,n / b ^ k=0) (ds:List Int):part b ns ds k=dot (aK ns) ds:=by
 unfold part
 congr 2
 refine(List.map_congr_left fun n hn=>?_).trans (List.map_id _)
 refine Nat.mod_eq_of_lt ?_
 rcases(Nat.div_eq_zero_iff).mp (h n hn) with z | z
 ·exact absurd z (Nat.ne_of_gt (Nat.pow_pos hb))
 ·exact z
theorem p6 {b:Nat} (hb:0<b) {ns:List Nat} {ds:List Int} (hl:ns.length=ds.length) (k:Nat):(bx b ds).getD (f' b ns k) 0=oj b ns ds k:=by
 unfold bx oj
 rw[List.getD_eq_getElem?_getD,List.getElem?_map,←hl,zp hb ns.length _ (qM hb ns k),Kn hb]
 rfl
theorem DD (x d:Int) {m b:Int} (hm:0<m) (hb:0<b):(x / m-d) / b=(x-m*d) / (m*b):=by
 have e:x / m-d=(x-m*d) / m:=by
  rw[show x-m*d=x+m*(-d) by rw[Int.mul_neg];rfl,Int.add_mul_ediv_left _ _ (by omega)]
  omega
 rw[e,Int.ediv_ediv_of_nonneg (by omega)]
def yf (b:Nat) (ns:List Nat) (k:Nat):List Nat:=(List.range k).map (f' b ns)
theorem yg (b:Nat) (ns:List Nat) (k:Nat):yf b ns (k+1)=yf b ns k++[f' b ns k]:=by unfold yf;rw[List.range_succ,List.map_append];rfl
theorem yh {b:Nat} (hb:0<b) {ns:List Nat} {ds:List Int} (hl:ns.length=ds.length) (f:Int):∀k,dq (lN true b (bx b ds)) (some f) (yf b ns k)=some ((f-part b ns ds k) / ((b ^ k:Nat):Int))
 | 0=>by
  show some f=_
  rw[uB,Nat.pow_zero]
  show some f=some ((f-0) / 1)
  rw[Int.ediv_one];congr 1;omega
 | k+1=>by
  have hm:(0:Int)<((b ^ k:Nat):Int):=by have:=Nat.pow_pos (n:=k) hb;omega
  rw[yg,mG,yh hb hl f k]
  show lN true b (bx b ds) (some ((f-part b ns ds k) / ((b ^ k:Nat):Int))) (f' b ns k)=_
  show some (((f-part b ns ds k) / ((b ^ k:Nat):Int)-(bx b ds).getD (f' b ns k) 0) / (b:Int))=_
  rw[p6 hb hl,DD _ _ hm (by omega),uC,Nat.pow_succ,Int.natCast_mul]
  congr 2
  omega
theorem yi {b:Nat} (hb:0<b) {ns:List Nat} {ds:List Int} (hl:ns.length=ds.length) (f:Int):∀k,(∃r,dq (lN false b (bx b ds)) (some f) (yf b ns k)=some r∧f-part b ns ds k=((b ^ k:Nat):Int)*r)∨(dq (lN false b (bx b ds)) (some f) (yf b ns k)=none∧¬((b ^ k:Nat):Int) ∣ f-part b ns ds k)
 | 0=>.inl ⟨f,rfl,by rw[uB,Nat.pow_zero];show f-0=1*f;omega⟩
 | k+1=>by
  have hm:(0:Int)<((b ^ k:Nat):Int):=by have:=Nat.pow_pos (n:=k) hb;omega
  have e1:f-part b ns ds (k+1)=f-part b ns ds k-((b ^ k:Nat):Int)*oj b ns ds k:=by rw[uC];omega
  have ep:((b ^ (k+1):Nat):Int)=((b ^ k:Nat):Int)*(b:Int):=by rw[Nat.pow_succ,Int.natCast_mul]
  rw[yg,mG]
  rcases yi hb hl f k with⟨r,h1,h2⟩ | ⟨h1,h2⟩
  ·rw[h1]
   have st:dq (lN false b (bx b ds)) (some r) [f' b ns k]=if(r-oj b ns ds k) % (b:Int)=0 then some ((r-oj b ns ds k) / (b:Int)) else none:=by
    show(if(r-(bx b ds).getD (f' b ns k) 0) % (b:Int)=0 then some ((r-(bx b ds).getD (f' b ns k) 0) / (b:Int)) else none)=_
    rw[p6 hb hl]
   rw[st,e1,h2,←Int.mul_sub,ep]
   by_cases z:(r-oj b ns ds k) % (b:Int)=0
   ·rw[if_pos z]
    refine .inl ⟨_,rfl,?_⟩
    rw[Int.mul_assoc,Int.mul_ediv_cancel' (Int.dvd_of_emod_eq_zero z)]
   ·rw[if_neg z]
    refine .inr ⟨rfl,fun h=>z ?_⟩
    exact Int.emod_eq_zero_of_dvd (Int.dvd_of_mul_dvd_mul_left (by omega) h)
  ·rw[h1]
   refine .inr ⟨rfl,fun h=>h2 ?_⟩
   rw[e1,ep] at h
   have h3:((b ^ k:Nat):Int) ∣ f-part b ns ds k-((b ^ k:Nat):Int)*oj b ns ds k:=Int.dvd_trans (Int.dvd_mul_right _ _) h
   have:=Int.dvd_add h3 (Int.dvd_mul_right ((b ^ k:Nat):Int) (oj b ns ds k))
   rwa [Int.sub_add_cancel] at this
def GO (ls:Bool) (f:Int) (ns:List Nat) (ds:List Int):Bool:=if ls then decide (0≤f-dot (aK ns) ds) else decide (f-dot (aK ns) ds=0)
theorem mean {b:Nat} (hb:2≤b) {ns:List Nat} {ds:List Int} (hl:ns.length=ds.length) (ls:Bool) (f:Int):dr ls (dq (lN ls b (bx b ds)) (some f) (AB b ns))=GO ls f ns ds:=by
 have hb0:0<b:=by omega
 have hm:(0:Int)<((b ^ ib b ns:Nat):Int):=by have:=Nat.pow_pos (n:=ib b ns) hb0;omega
 have pa:=Ft hb0 (Ip hb (Nat.le_refl (ib b ns))) ds
 have ew:AB b ns=yf b ns (ib b ns):=rfl
 rw[ew]
 cases ls with
 | true=>
  rw[yh hb0 hl,pa]
  show decide (0≤_ / _)=decide (0≤_)
  rw[decide_eq_decide]
  exact Int.ediv_nonneg_iff_of_pos hm
 | false=>
  rcases yi hb0 hl f (ib b ns) with⟨r,h1,h2⟩ | ⟨h1,h2⟩
  ·rw[pa] at h2
   rw[h1]
   show decide ((some r:Option Int)=some 0)=decide (f-dot (aK ns) ds=0)
   rw[decide_eq_decide,h2]
   constructor
   ·intro e;rw[Option.some.inj e,Int.mul_zero]
   ·intro e
    rcases Int.mul_eq_zero.mp e with z | z
    ·omega
    ·rw[z]
  ·rw[pa] at h2
   rw[h1]
   show decide ((none:Option Int)=some 0)=decide (f-dot (aK ns) ds=0)
   rw[decide_eq_decide]
   constructor
   ·intro e;cases e
   ·intro e;rw[e] at h2;exact absurd (Int.dvd_zero _) h2
def DE (r:Option Int):Prop:=∀i,r=some i→ -200≤i∧i≤200
theorem La {ls:Bool} {b:Nat} (hb:2≤b) (hb4:b≤4) {su:List Int} (hs:∀x∈su, -81≤x∧x≤81) {r:Option Int} (h:DE r) (c:Nat):DE (lN ls b su r c):=by
 have hc: -81≤su.getD c 0∧su.getD c 0≤81:=by
  rw[List.getD_eq_getElem?_getD]
  cases e:su[c]? with
  | none=>exact⟨by decide,by decide⟩
  | some x=>exact hs x (List.mem_of_getElem? e)
 cases r with
 | none=>
  intro i e
  cases ls<;>cases e
 | some j=>
  obtain⟨h1,h2⟩:=h j rfl
  have key: -200≤(j-su.getD c 0) / (b:Int)∧(j-su.getD c 0) / (b:Int)≤200:=by
   generalize su.getD c 0=s at hc
   constructor
   ·rw[Int.le_ediv_iff_mul_le (by omega)]
    omega
   ·have:(j-s) / (b:Int)<201:=by
     rw[Int.ediv_lt_iff_lt_mul (by omega)]
     omega
    omega
  intro i e
  cases ls with
  | true=>
   have e':(j-su.getD c 0) / (b:Int)=i:=Option.some.inj e
   rw[←e'];exact key
  | false=>
   have e':(if(j-su.getD c 0) % (b:Int)=0 then some ((j-su.getD c 0) / (b:Int)) else none)=some i:=e
   by_cases z:(j-su.getD c 0) % (b:Int)=0
   ·rw[if_pos z] at e'
    rw[←Option.some.inj e'];exact key
   ·rw[if_neg z] at e'
    cases e'
theorem zG {ls:Bool} {b:Nat} (hb:2≤b) (hb4:b≤4) {su:List Int} (hs:∀x∈su, -81≤x∧x≤81):∀(w:List Nat) (r:Option Int),DE r→DE (dq (lN ls b su) r w)
 | [],r,h=>h
 | c::w,r,h=>zG hb hb4 hs w _ (La hb hb4 hs h c)
theorem Iq {xs:List (Option Int)} (nd:xs.Nodup) (h:∀x∈xs,DE x):xs.length≤402:=by
 have:=List.Nodup.length_le_of_subset (l₂:=none::(List.range 401).map fun(k:Nat)=>(some ((k:Int)-200):Option Int)) nd fun x hx=>by
  cases x with
  | none=>exact List.mem_cons_self
  | some i=>
   obtain⟨h1,h2⟩:=h _ hx i rfl
   refine List.mem_cons_of_mem _ (List.mem_map.mpr ⟨(i+200).toNat,List.mem_range.mpr (by omega),?_⟩)
   congr 1
   omega
 rw[List.length_cons,List.length_map,List.length_range] at this
 exact this
theorem DF:∀(l ds:List Int),(∀x∈l,0≤x∧x≤3)→(∀d∈ds, -9≤d∧d≤9)→ -(27*(ds.length:Int))≤dot l ds∧dot l ds≤27*(ds.length:Int)
 | [],ds,_,_=>by rw[ti];omega
 | x::xs,[],_,_=>by show-(27*((0:Nat):Int))≤0∧(0:Int)≤27*((0:Nat):Int);omega
 | x::xs,d::ds,h1,h2=>by
  have ih:=DF xs ds (fun y hy=>h1 y (List.mem_cons_of_mem _ hy)) fun y hy=>h2 y (List.mem_cons_of_mem _ hy)
  have hx:=h1 x List.mem_cons_self
  have hd:=h2 d List.mem_cons_self
  have m: -27≤x*d∧x*d≤27:=by
   have:x=0∨x=1∨x=2∨x=3:=by omega
   rcases this with rfl | rfl | rfl | rfl<;>omega
  show-(27*((ds.length+1:Nat):Int))≤x*d+dot xs ds∧x*d+dot xs ds≤27*((ds.length+1:Nat):Int)
  omega
theorem Fu {b:Nat} (hb4:b≤4) {ds:List Int} (hd:∀d∈ds, -9≤d∧d≤9) (hl:ds.length≤3):∀x∈bx b ds, -81≤x∧x≤81:=fun x hx=>by
 obtain⟨l,hl',rfl⟩:=List.mem_map.mp hx
 have:=DF l ds (fun y hy=>by have:=sf b _ l hl' y hy;omega) hd
 omega
def qZ (t:Term):Prop:=0≤t.num∧t.num≤99∧∀q∈t.parts,1≤q.2∧q.2≤9
theorem i' (n:Str):∀(ps:List (Str×Int)) (d:Int),(∀q∈ps,1≤q.2∧q.2≤9)→0≤d→d≤9→0≤aZ n ps d∧aZ n ps d≤9
 | [],d,_,h1,h2=>⟨h1,h2⟩
 | p::ps,d,h,h1,h2=>by
  have hp:=h p List.mem_cons_self
  refine i' n ps _ (fun q hq=>h q (List.mem_cons_of_mem _ hq)) ?_ ?_<;>split<;>omega
theorem Fv {t u:Term} (ht:qZ t) (hu:qZ u) (ks:List Str):∀d∈fk t u ks, -9≤d∧d≤9:=fun d hd=>by
 obtain⟨n,_,rfl⟩:=List.mem_map.mp hd
 have h1:=i' n t.parts 0 ht.2.2 (by omega) (by omega)
 have h2:=i' n u.parts 0 hu.2.2 (by omega) (by omega)
 show-9≤aZ n t.parts 0-aZ n u.parts 0∧aZ n t.parts 0-aZ n u.parts 0≤9
 omega
theorem yj {ls:Bool} {b:Nat} (hb:2≤b) (hb4:b≤4) {t u:Term} (ht:qZ t) (hu:qZ u) {ks:List Str} (hk:ks.length≤3) {xs:List (Option Int)} (nd:xs.Nodup) (h:∀x∈xs,∃w,dj (b ^ ks.length) w∧x=dq (zE ls b t u ks) (some (cb ls t u)) w):xs.length≤402:=by
 refine Iq nd fun x hx=>?_
 obtain⟨w,_,rfl⟩:=h x hx
 refine zG hb hb4 (Fu hb4 (Fv ht hu ks) (by unfold fk;rw[List.length_map];exact hk)) w _ fun i e=>?_
 rw[←Option.some.inj e]
 unfold cb
 have h1:=ht.1
 have h2:=ht.2.1
 have h3:=hu.1
 have h4:=hu.2.1
 split<;>omega
theorem AW {b:Nat} (hb:0<b) (ds:List Int):(bx b ds).getD 0 0=0:=by
 have e:=p6 (b:=b) hb (ns:=List.replicate ds.length 0) (ds:=ds) List.length_replicate 0
 have l0:f' b (List.replicate ds.length 0) 0=0:=by
  unfold f'
  rw[List.map_replicate,Nat.zero_div,Nat.zero_mod]
  exact ye _ fun x hx=>List.eq_of_mem_replicate hx
 rw[l0] at e
 rw[e]
 unfold oj
 have z:aK ((List.replicate ds.length 0).map fun n=>n / b ^ 0 % b)=(aK (List.replicate ds.length 0)).map ((0:Int)* ·):=by
  unfold aK
  rw[List.map_map,List.map_map]
  refine List.map_congr_left fun n hn=>?_
  rw[List.eq_of_mem_replicate hn]
  show((0 / b ^ 0 % b:Nat):Int)=0*((0:Nat):Int)
  rw[Nat.zero_div,Nat.zero_mod];rfl
 rw[z,mO,Int.zero_mul]
theorem q_ {ls:Bool} {b:Nat} (hb:2≤b) (ds:List Int) (r:Option Int):dr ls (lN ls b (bx b ds) r 0)=dr ls r:=by
 have e0:=AW (b:=b) (by omega) ds
 cases r with
 | none=>cases ls<;>rfl
 | some i=>
  cases ls with
  | true=>
   show decide (0≤(i-(bx b ds).getD 0 0) / (b:Int))=decide (0≤i)
   rw[e0,Int.sub_zero,decide_eq_decide]
   exact Int.ediv_nonneg_iff_of_pos (by omega)
  | false=>
   show decide ((if(i-(bx b ds).getD 0 0) % (b:Int)=0 then some ((i-(bx b ds).getD 0 0) / (b:Int)) else none)=some 0)=decide ((some i:Option Int)=some 0)
   rw[e0,Int.sub_zero,decide_eq_decide]
   by_cases z:i % (b:Int)=0
   ·rw[if_pos z]
    have h:=Int.emod_add_mul_ediv i b
    constructor
    ·intro e
     rw[Option.some.inj e,z] at h
     rw[←h];rfl
    ·intro e
     rw[Option.some.inj e,Int.zero_ediv]
   ·rw[if_neg z]
    constructor
    ·intro e;cases e
    ·intro e;rw[Option.some.inj e] at z;exact absurd (Int.zero_emod _) z
theorem bD.ktu {H H':Hp} {F L:Addr} (h:bD H F L) (k:cW F L H H'):bt H H':=fun b ys e=>by
 obtain⟨ms,n,sd,e1,e2,_⟩:=h.ex
 exact k b _ e (dR e e1 (fun z=>nomatch z)) (dR e e2 (fun z=>nomatch z))
abbrev iO (H:Hp):List Addr→List (Str×Int)→Prop:=Paired (fun(p:Addr) (q:Str×Int)=>H p=some (.tup [.str q.1,.int q.2]))
theorem iO.keep {H H':Hp} {ps:List Addr} {qs:List (Str×Int)} (h:iO H ps qs) (k:bt H H'):iO H' ps qs:=Paired.nr h fun _ _ z=>k _ _ z
def Lb:Sp:=fun vs H Q _=>∃(F L nm:Addr) (ss:List Str),vs=[.ref F,.ref nm]∧bD H F L∧H nm=some (.tup (ss.map V.str))∧ss.length≤3∧
 ∀(ta:Addr) (t:Term) (H':Hp),cW F L H H'→bD H' F L→cF H' ta t→dW ss t→qZ t→(t.parts.map (·.1)).Sublist ss→Q (.ref ta) H'
theorem uD:aN ["_law_feed_here","_law_names_here","_law_parts"] ["_law_feed_here","_law_names_here"] (ag gU):=⟨rfl,rfl,rfl,by decide+kernel,rfl,by decide+kernel,by decide+kernel⟩
set_option maxHeartbeats 16000000 in
theorem DG {a:bR} (T:Txt K mg a):aS P w K mg base bp 2 a.mC a.nY ["_law_feed_here","_law_names_here"] Lb:=by
 have bE:=i4 (P:=P) (w:=w) (base:=base) T
 refine T.E7.ok uD (fun vs H Q E h=>?_) (fun cdv A outer s H vs Q E hr h=>?_)
 ·obtain⟨F,L,nm,ss,rfl,_⟩:=h
  rfl
 ·obtain⟨F,L,nm,ss,rfl,hf,en,ls,k⟩:=h
  have bj:aO 1 _:=hr
  refine⟨_,(ai (fO (i:=2) (aI.mk' (esc:=ag gU) (N:=["_law_feed_here","_law_names_here","_law_parts"]) (own:=["_law_name"]) (aM:=["_law_feed_here"]) (bH:=[0]) rfl rfl (by decide+kernel)) rfl (eS (pv 1)) (fun _ _ _ _=>(aF (i:=0) (show List.Nodup (["_law_name","_law_feed_here"]:List Str) by decide+kernel) rfl (Or.inl rfl))) (fun _ _ _ _=>(lZ (bh vH (az bE bj rfl T.bT T.bU T.bV .nil aJ (ae (pv 1) (ae aj ah))) aj (bB _)))) (fun _ _ _ _=>(bL (ae (pv 0) (ae (aG dY aj (az bE bj rfl T.bT T.bU T.bV .nil aJ (ae (pv 1) (ae (aH (iq K) (dc (ae aj (ae aj ah))) (az bE bj rfl T.bT T.bU T.bV .nil aJ (ae (pv 1) (ae aj ah))) (fun _ _=>rfl)) ah)))) ah)))) uD.nd rfl rfl)
  (aq (aQ (bL (ae (aH (iq K) (dc (ae (az bE bj rfl T.bT T.bU T.bV .nil aJ (ae (pv 0) (ae aj ah))) (ae (az bE bj rfl T.bT T.bU T.bV .nil aJ (ae (pv 0) (ae aj ah))) ah))) (az bE bj rfl T.bT T.bU T.bV .nil aJ (ae (pv 0) (ae aj ah))) (fun _ _=>rfl)) (ae (bF (dN K) (by rfl) T.d6 de (ae (pv 2) ah)) ah)))))),?_⟩
  have DH:(2 ^ 10:Nat)<2 ^ 1000:=Nat.pow_lt_pow_right (by decide) (by decide)
  have big:(10000:Nat)≤sizeLine:=by decide
  have small:∀x:Nat,x≤1000→x<2 ^ 1000:=fun x hx=>Nat.lt_trans (show x<2 ^ 10 by omega) DH
  refine bu fun Y hY=>?_
  refine⟨_,rfl,nm,rfl,⟨_,.of en⟩,fun C hC=>?_⟩
  have nC:=hf.lI hC
  refine dM (xs:=ss.map V.str) (fun i σ H'=>∃(ps:List Addr) (qs:List (Str×Int)) (v:Option V),σ=[v,some (.ref F)]∧cW F L H H'∧bD H' F L∧H' C=some (.lst (ps.map V.ref))∧iO H' ps qs∧(qs.map (·.1)).Sublist (ss.take i)∧qs.length≤i∧∀q∈qs,q.1∈ss∧1≤q.2∧q.2≤9)
   ⟨[],[],none,?sg,(Same.new hC).kb2,hf.same (Same.new hC),af,.nil,List.nil_sublist _,Nat.le_refl _,fun q hq=>(by cases hq)⟩ (fun i σ H' _ ⟨_,_,_,_,k',_⟩=>.of (hf.ktu k' _ _ en)) ?_ ?_
  case sg=>rfl
  ·rintro i x σ H1 hx ⟨ps,qs,v,rfl,k1,f1,c1,tp,sb,lq,hq⟩
   obtain⟨n,rfl,en'⟩:=ix hx
   have hi:=(List.getElem?_eq_some_iff.mp en').1
   have lp:ps.length=qs.length:=Paired.length tp
   refine⟨_,rfl,F,L,3,rfl,f1,by decide,small _ (by decide),fun r H2 r1 k2 f2=>⟨_,_,rfl,rfl,_,rfl,?_⟩⟩
   have Pl:=f1.ktu k2
   have c2:=k2 _ _ c1 nC.1 nC.2
   refine cj (fun _=>?_) (fun _=>⟨ps,qs,_,rfl,k1.trans k2,f2,c2,tp.keep Pl,sb.trans (List.take_sublist_take_left (Nat.le_succ i)),by omega,hq⟩)
   refine⟨_,rfl,_,rfl,by show 2≤sizeLine;decide,fun Z hZ=>?_⟩
   have sZ:=Same.new (o:=.lst [.int 2,.int 9]) hZ
   have nZ:=f2.lI hZ
   refine⟨_,rfl,F,L,2,rfl,f2.same sZ,by decide,small _ (by decide),fun r2 H3 q2 k3 f3=>?_⟩
   obtain⟨d,hd,hd0,Y7⟩:∃d:Nat,oT ([.int 2,.int 9]:List V) (r2:Int)=some (.int (d:Nat))∧0<d∧d≤9:=by
    match r2,q2 with
    | 0,_=>exact⟨2,rfl,by decide,by decide⟩
    | 1,_=>exact⟨9,rfl,by decide,by decide⟩
   refine⟨Z,_,_,.int (d:Nat),rfl,rfl,.of (k3 _ _ af nZ.1 nZ.2),hd,F,L,d,rfl,f3,hd0,small _ (by omega),fun r3 H4 q3 k4 f4=>⟨_,_,rfl,rfl,by show 2≤sizeLine;decide,fun p hp=>?_⟩⟩
   have sp:=Same.new (o:=.tup [.str n,.int (1+(r3:Int))]) hp
   have k24:=((sZ.kb2.trans k3).trans k4).trans sp.kb2
   have kA:=k1.trans (k2.trans k24)
   have f5:=f4.same sp
   have c5:=k24 _ _ c2 nC.1 nC.2
   have Pm:iO (upd H4 p (.tup [.str n,.int (1+(r3:Int))])) ps qs:=(tp.keep Pl).keep (f2.ktu k24)
   have e5:(upd H4 p (.tup [.str n,.int (1+(r3:Int))])) p=some (.tup [.str n,.int (1+(r3:Int))]):=af
   generalize upd H4 p (.tup [.str n,.int (1+(r3:Int))])=H5 at kA f5 c5 Pm e5 ⊢
   have kC:bt H5 (upd H5 C (.lst (ps.map V.ref++[.ref p]))):=bt.lst c5
   refine⟨_,c5,by rw[List.length_map];omega,ps++[p],qs++[(n,1+(r3:Int))],_,rfl,cW.AI kA hC,f5.upd nC,by rw[af,List.map_append];rfl,bJ (Pm.keep kC) (.cons (kC _ _ e5) .nil),by rw[List.map_append,take_snoc en'];exact sb.append (List.Sublist.refl _),by rw[List.length_append];show qs.length+1≤_;omega,fun q hq'=>?_⟩
   rcases List.mem_append.mp hq' with z | z
   ·exact hq q z
   ·rw[List.mem_singleton.mp z];exact⟨List.mem_of_getElem? en',by show 1≤1+(r3:Int);omega,by show 1+(r3:Int)≤9;omega⟩
  rintro σ H1 ⟨ps,qs,v,rfl,k1,f1,c1,tp,sb,lq,hq⟩
  rw[List.length_map] at lq
  rw[List.length_map,List.take_length] at sb
  dsimp only[aL]
  subst hY
  refine⟨_,rfl,F,L,5,rfl,f1,by decide,small _ (by decide),fun r1 H2 q1 k2 f2=>⟨_,rfl,F,L,100,rfl,f2,by decide,small _ (by decide),fun r2 H3 q2 k3 f3=>⟨by show 2≤sizeLine;decide,fun Z hZ=>?_⟩⟩⟩
  have sZ:=Same.new (o:=.lst [.int (r1:Nat),.int (r2:Nat)]) hZ
  have nZ:=f3.lI hZ
  refine⟨_,rfl,F,L,2,rfl,f3.same sZ,by decide,small _ (by decide),fun r3 H4 q3 k4 f4=>?_⟩
  obtain⟨d,hd,YA⟩:∃d:Nat,oT ([.int (r1:Nat),.int (r2:Nat)]:List V) (r3:Int)=some (.int (d:Nat))∧d≤99:=by
   match r3,q3 with
   | 0,_=>exact⟨r1,rfl,by omega⟩
   | 1,_=>exact⟨r2,rfl,by omega⟩
  have k14:=((k2.trans k3).trans sZ.kb2).trans k4
  have c4:=k14 _ _ c1 nC.1 nC.2
  refine⟨Z,_,_,.int (d:Nat),rfl,rfl,.of (k4 _ _ af nZ.1 nZ.2),hd,_,rfl,C,_,rfl,.inl ⟨.of c4,fun D hD=>?_⟩⟩
  have sD:=Same.new (o:=.tup (ps.map V.ref)) hD
  refine⟨by show 2≤sizeLine;decide,fun ta Wk=>?_⟩
  have sT:=Same.new (o:=.tup [.int (d:Nat),.ref D]) Wk
  have k15:=(k14.trans sD.kb2).trans sT.kb2
  exact k ta ⟨(d:Int),qs⟩ _ (k1.trans k15) (f4.same (sD.trans sT)) ⟨D,ps,af,sT _ _ af,tp.keep (f1.ktu k15)⟩ ⟨by show qs.length≤3;omega,fun q h=>(hq q h).1⟩ ⟨by show(0:Int)≤d;omega,by show(d:Int)≤99;omega,fun q h=>(hq q h).2⟩ sb
def wsum (v:Str→Int):List (Str×Int)→Int
 | []=>0
 | q::qs=>v q.1*q.2+wsum v qs
def fK (t:Term) (v:Str→Int):Int:=t.num+wsum v t.parts
theorem yk (v:Str→Int):∀qs:List (Str×Int),(qs.map fun q=>v q.1*q.2).sum=wsum v qs
 | []=>rfl
 | q::qs=>by rw[List.map_cons,List.sum_cons,yk v qs];rfl
def Lc (H:Hp) (D:Addr) (ks:List Str) (v:Str→Int):Prop:=∃kvs:List (Key×V),Rd H D (.dK kvs)∧∀n∈ks,aR kvs (Sum.inr n)=some (.int (v n))
def Ir:Sp:=fun vs H Q _=>∃(ta D:Addr) (t:Term) (ks:List Str) (v:Str→Int),vs=[.ref ta,.ref D]∧cF H ta t∧qZ t∧t.parts.length≤100∧Lc H D ks v∧(∀q∈t.parts,q.1∈ks)∧∀H',Same H H'→Q (.int (fK t v)) H'
theorem AX:aN ["_law_term_here","_law_values"] ["_law_term_here","_law_values"] (ag fD):=⟨rfl,rfl,rfl,by decide+kernel,rfl,by decide+kernel,by decide+kernel⟩
theorem ra {a:bR} (T:Txt K mg a):aS P w K mg base bp 1 a.kf a.mD ["_law_term_here","_law_values"] Ir:=by
 refine T.CO.ok AX (fun vs H Q E h=>?_) (fun cdv A outer s H vs Q E hr h=>?_)
 ·obtain⟨ta,D,t,ks,v,rfl,_⟩:=h
  rfl
 ·obtain⟨ta,D,t,ks,v,rfl,⟨b,ps,e1,e2,e3⟩,sm,lt,⟨kvs,ed,hv⟩,hk,k⟩:=h
  refine⟨_,(aq (aQ (aG dY (aH (aC K) (pv 0) aj (fun _ _=>rfl)) (aU (nK K) (by rfl) T.Ax wq (ae (cz (aI.mk' (esc:=ag fD) (N:=["_law_term_here","_law_values"]) (own:=["_law_name","_law_many"]) (aM:=["_law_values"]) (bH:=[1]) rfl rfl (by decide+kernel)) rfl (eS (aH (aC K) (pv 0) aj (fun _ _=>rfl))) (fun _ _ _ _=>(rK K (n:=2) rfl (cK (aF (i:=0) (show List.Nodup (["_law_name","_law_many","_law_values"]:List Str) by decide+kernel) rfl (Or.inl rfl)) (cK (aF (i:=1) (show List.Nodup (["_law_name","_law_many","_law_values"]:List Str) by decide+kernel) rfl (Or.inl rfl)) jz)))) (fun _ _ _ _=>bM) (fun _ _ _ _=>(aG ft (cH (bP hr) (pv 2) (pv 0) (fun _ _=>rfl)) (pv 1)))) ah))))),?_⟩
  have big:(10000:Nat)≤sizeLine:=by decide
  refine⟨_,rfl,ta,_,_,.int t.num,rfl,rfl,.of e1,ax (j:=0) rfl,_,rfl,ta,_,_,.ref b,rfl,rfl,.of e1,ax (j:=1) rfl,b,rfl,⟨_,.of e2⟩,fun C hC=>?_⟩
  have lps:ps.length=t.parts.length:=Paired.length e3
  have sC:=Same.new (o:=.lst []) hC
  have dC:∀{H':Hp},Same H H'→Rd H' D (.dK kvs):=fun {H'} s=>by
   rcases ed with z | ⟨o,z⟩
   ·exact .inl (s _ _ z)
   ·exact .inr ⟨o,s _ _ z⟩
  refine dM (xs:=ps.map V.ref) (fun i σ H'=>∃v1 v2:Option V,σ=[v1,v2,some (.ref D)]∧Same H H'∧H' C=some (.lst (((t.parts.take i).map fun q=>v q.1*q.2).map V.int)))
   ⟨none,none,?sg,sC,af⟩ (fun i σ H' _ ⟨_,_,_,s',_⟩=>.of (s' _ _ e2)) ?_ ?_
  case sg=>rfl
  ·rintro i x σ H1 hx ⟨v1,v2,rfl,s1,c1⟩
   obtain⟨p,rfl,ep⟩:=oG hx
   have hi:=(List.getElem?_eq_some_iff.mp ep).1
   obtain⟨q,hq,Wl⟩:=g9 e3 ep
   have Pn:=List.mem_of_getElem? hq
   have hb:=sm.2.2 q Pn
   refine⟨p,_,rfl,.of (s1 _ _ Wl),rfl,_,_,rfl,_,_,rfl,rfl,?_⟩
   refine⟨_,rfl,_,rfl,D,.int (v q.1),rfl,.inl ⟨kvs,Sum.inr q.1,dC s1,rfl,(hv q.1 (hk q Pn)).symm⟩,_,rfl,_,_,rfl,rfl,.inr ⟨by omega,by omega⟩,_,c1,?_,_,_,rfl,s1.kbn hC KB.write,?_⟩
   ·rw[List.length_map,List.length_map,List.length_take];omega
   ·rw[af,take_snoc hq,List.map_append,List.map_append];rfl
  rintro σ H1 ⟨v1,v2,rfl,s1,c1⟩
  rw[List.length_map,lps,List.take_length] at c1
  refine⟨C,_,rfl,.of c1,_,_,rfl,rfl,?_⟩
  rw[yk]
  exact k H1 s1
theorem GP {H:Hp} {a:Addr} {t:Term} (h:cF H a t):∃(b:Addr) (ps:List Addr),H a=some (.tup [.int t.num,.ref b])∧H b=some (.tup (ps.map V.ref))∧Paired (fun(p:Addr) (q:Key×V)=>H p=some (.tup [kV q.1,q.2])) ps (t.parts.map dk):=by
 obtain⟨b,ps,e1,e2,e3⟩:=h
 refine⟨b,ps,e1,e2,?_⟩
 clear e1 e2
 generalize t.parts=l at e3
 induction e3 with
 | nil=>exact .nil
 | cons h _ ih=>exact .cons h ih
def NG (_ j:Int):Prop:=j≠0∧j.natAbs.log2<9000
theorem Fw {X:Cx}:cC X (binaryOp .FloorDiv) (rI NG fun i j=>.int (i.fdiv j)):=Bk fun i j _ _ _ _ _ hc q=>PyProof.Rows.floordiv_int hc.1 q (.inl (PyProof.noPylong_of_log2 hc.2))
def cU (v:Str→Int) (ks:List Str):List (Key×V):=ks.map fun n=>(Sum.inr n,V.int (v n))
theorem j0 {v:Str→Int} {n:Str}:∀{ks:List Str},n∈ks→aR (cU v ks) (Sum.inr n)=some (.int (v n))
 | m::ks,h=>by
  show aR ((Sum.inr m,V.int (v m))::cU v ks) (Sum.inr n)=_
  by_cases e:m=n
  ·subst e;exact bG rfl
  ·have:n∈ks:=(List.mem_cons.mp h).resolve_left fun z=>e z.symm
   rw[←j0 this]
   unfold aR
   rw[List.find?_cons_of_neg (by simp[e])]
theorem Iu {v:Str→Int} {n:Str} {x:Int} {ks:List Str} (h:n∈ks):putK (cU v ks) (Sum.inr n) (.int x)=cU (fun m=>if m=n then x else v m) ks:=by
 unfold putK cU
 rw[if_pos (List.any_eq_true.mpr ⟨(Sum.inr n,V.int (v n)),List.mem_map.mpr ⟨n,h,rfl⟩,by simp⟩),List.map_map]
 refine List.map_congr_left fun m _=>?_
 show(if(Sum.inr m:Key)=Sum.inr n then((Sum.inr m:Key),V.int x) else(Sum.inr m,V.int (v m)))=(Sum.inr m,V.int (if m=n then x else v m))
 by_cases e:m=n
 ·rw[if_pos (by rw[e]),if_pos e]
 ·rw[if_neg (fun z=>e (Sum.inr.inj z)),if_neg e]
theorem zH {v:Str→Int} {B:Int} (hv:∀n,0≤v n∧v n≤B):∀{qs:List (Str×Int)},(∀q∈qs,1≤q.2∧q.2≤9)→0≤wsum v qs∧wsum v qs≤9*B*(qs.length:Int)
 | [],_=>by show(0:Int)≤0∧(0:Int)≤9*B*((0:Nat):Int);omega
 | q::qs,h=>by
  have ih:=zH hv fun p hp=>h p (List.mem_cons_of_mem _ hp)
  have hq:=h q List.mem_cons_self
  have hn:=hv q.1
  have h1:0≤v q.1*q.2:=Int.mul_nonneg hn.1 (by omega)
  have h2:v q.1*q.2≤B*9:=Int.mul_le_mul hn.2 hq.2 (by omega) (by omega)
  show 0≤v q.1*q.2+wsum v qs∧v q.1*q.2+wsum v qs≤9*B*((qs.length+1:Nat):Int)
  have e:9*B*((qs.length+1:Nat):Int)=9*B*(qs.length:Int)+9*B:=by rw[Int.natCast_add,Int.mul_add];omega
  omega
theorem yl {t:Term} (ht:qZ t) (l3:t.parts.length≤3) {v:Str→Int} {B:Int} (hB:1≤B) (hv:∀n,0≤v n∧v n≤B):0≤fK t v∧fK t v≤126*B:=by
 have h:=zH hv ht.2.2
 have h1:=ht.1
 have h2:=ht.2.1
 have:9*B*(t.parts.length:Int)≤9*B*3:=Int.mul_le_mul_of_nonneg_left (by omega) (by omega)
 unfold fK
 omega
theorem Iv {x m B:Int} (h:x.natAbs≤126*B.natAbs) (hB:1≤B) {c d:Int} (hc:0≤c∧c≤B) (hd:0≤d∧d≤1):0≤(if(c-x.fdiv m+d)>0 then(c-x.fdiv m+d) else 0)∧(if(c-x.fdiv m+d)>0 then(c-x.fdiv m+d) else 0)≤128*B:=by
 have h1:=Int.natAbs_fdiv_le_natAbs x m
 split<;>omega
def Ld:Sp:=fun vs H Q _=>∃(F L ta tb D:Addr) (t u:Term) (ks:List Str) (v:Str→Int),vs=[.ref F,.ref ta,.ref tb,.ref D]∧bD H F L∧cF H ta t∧cF H tb u∧qZ t∧qZ u∧t.parts.length≤3∧u.parts.length≤3∧(∀q∈t.parts,q.1∈ks)∧(∀q∈u.parts,q.1∈ks)∧H D=some (.dK (cU v ks))∧D≠F∧ks.length≤3∧(∀n,0≤v n∧v n≤10 ^ 60)∧
 ∀(o:Obj) (Dn:Addr) (v':Str→Int) (H':Hp),(∀b o,H b=some o→b≠F→b≠L→b≠D→H' b=some o)→bD H' F L→H' D=some (.c_ o (.dK (cU v ks)))→H Dn=none→H' Dn=some (.dK (cU v' ks))→(∀n,0≤v' n∧v' n≤128 ^ 3*10 ^ 60)→Q (.ref Dn) H'
theorem ja:aN ["_law_feed_here","_law_one","_law_other","_law_values","_law_found","_law_name","_law_many","_law_apart"] ["_law_feed_here","_law_one","_law_other","_law_values"] (ag iz):=⟨rfl,rfl,rfl,by decide+kernel,rfl,by decide+kernel,by decide+kernel⟩
set_option maxHeartbeats 16000000 in
theorem DI {a:bR} (T:Txt K mg a):aS P w K mg base bp 2 a.mF a.n8 ["_law_feed_here","_law_one","_law_other","_law_values"] Ld:=by
 have bE:=i4 (P:=P) (w:=w) (base:=base) T
 have jb:=ra (P:=P) (w:=w) (base:=base) T
 refine T.E9.ok ja (fun vs H Q E h=>?_) (fun cdv A outer s H vs Q E hr h=>?_)
 ·obtain⟨F,L,ta,tb',D,t,u,ks,v,rfl,_⟩:=h
  rfl
 ·obtain⟨F,L,ta,tb',D,t,u,ks,v,rfl,hf,et,eu,st,su,lt,lu,ot,ou,eD,Po,lk,hv,k⟩:=h
  have bj:aO 1 _:=hr
  have h_:aO 1 _:=hr
  refine⟨_,(ai (ay (i:=4) ja.nd rfl (Or.inl rfl) (bF Ab (by rfl) T.jU ip (ae (pv 3) ah)))
  (ai (cx PassesOwn.never rfl (Ex (pv 3)) (aF (i:=5) ja.nd rfl (Or.inl rfl))
   (ai (ay (i:=6) ja.nd rfl (Or.inl rfl) (aG fq (pz (bP hr) (bF (ju hr.hd) (by rfl) T.jU ip (ae (aH (aC K) (pv 1) aj (fun _ _=>rfl)) ah)) (pv 5) aj ⟨rfl,rfl,rfl,rfl⟩) (pz (bP hr) (bF (ju hr.hd) (by rfl) T.jU ip (ae (aH (aC K) (pv 2) aj (fun _ _=>rfl)) ah)) (pv 5) aj ⟨rfl,rfl,rfl,rfl⟩)))
   (ai (ay (i:=7) ja.nd rfl (Or.inl rfl) (aG fq (az jb h_ rfl T.kg T.kh T.ki .nil aJ (ae (pv 1) (ae (pv 4) ah))) (az jb h_ rfl T.kg T.kh T.ki .nil aJ (ae (pv 2) (ae (pv 4) ah)))))
   (aq (dB (bh jt (pv 6) aj (bB _))
    (aq (kY (bP hr) (pv 4) (pv 5) (aU (Bp rfl) (by rfl) T.NB Jm (ae aj (ae (aG dY (aG fq (cH (bP hr) (pv 4) (pv 5) (fun _ _=>rfl)) (aG Fw (pv 7) (pv 6))) (aH (iq K) (dc (ae aj (ae aj (ae aj ah)))) (az bE bj rfl T.bT T.bU T.bV .nil aJ (ae (pv 0) (ae aj ah))) (fun _ _=>rfl))) ah))) rfl))
    b_)))))
  (aq (aQ (pv 4))))),?_⟩
  have big:(10000:Nat)≤sizeLine:=by decide
  have DH:(2 ^ 10:Nat)<2 ^ 1000:=Nat.pow_lt_pow_right (by decide) (by decide)
  obtain⟨Wm,fn,Wn,Pp,Le,_⟩:=hf.ex
  have Pq:D≠L:=fun z=>by rw[z,Le] at eD;cases eD
  refine bu fun Y hY=>?_
  refine⟨_,rfl,D,_,rfl,.inl eD,fun Dn rb=>?_⟩
  have sN:=Same.new (o:=.dK (cU v ks)) rb
  have Pr:Dn≠D:=(av eD rb).symm
  have nN:=hf.lI rb
  dsimp only[aL]
  subst hY
  refine bu fun Y hY=>?_
  refine⟨_,rfl,D,_,rfl,sN _ _ eD,fun o=>Cm (kvs:=cU v ks) (fun i σ H'=>∃(v':Str→Int) (x5 x6 x7:Option V),σ=[some (.ref F),some (.ref ta),some (.ref tb'),some (.ref D),some (.ref Dn),x5,x6,x7]∧(∀b o,H b=some o→b≠F→b≠L→b≠D→H' b=some o)∧bD H' F L∧H' D=some (.c_ o (.dK (cU v ks)))∧H' Dn=some (.dK (cU v' ks))∧∀n,0≤v' n∧v' n≤128 ^ i*10 ^ 60)
   ⟨v,none,none,none,rfl,fun b o e _ _ nb=>by rw[au nb];exact sN _ _ e,(hf.same sN).upd ⟨Po,Pq⟩,af,by rw[au Pr];exact af,fun n=>by have:=hv n;omega⟩ (fun i σ H' _ ⟨_,_,_,_,_,_,_,e,_⟩=>e) ?_ ?_⟩
  ·rintro i kk vv σ H1 N hN hk ⟨v',x5,x6,x7,rfl,kp,f1,Lf,qP,hv1⟩
   have GQ:bt H H1:=fun b xs e=>kp b _ e (dR e Pp (fun z=>nomatch z)) (dR e Le (fun z=>nomatch z)) (dR e eD (fun z=>nomatch z))
   obtain⟨n,hn,en⟩:∃n∈ks,(Sum.inr n,V.int (v n))=(kk,vv):=List.mem_map.mp (List.mem_of_getElem? hk)
   cases en
   have hik:i<3:=by
    have:=(List.getElem?_eq_some_iff.mp hk).1
    rw[show(cU v ks).length=ks.length from List.length_map _] at this
    omega
   have Lg:(3:Nat)<2 ^ 1000:=Nat.lt_trans (by decide) DH
   dsimp only[aL]
   refine bu fun Y2 DJ=>?_
   obtain⟨b1,ps1,a1,a2,a3⟩:=GP (et.keep GQ)
   refine⟨_,rfl,ta,_,_,.ref b1,rfl,rfl,.of a1,ax (j:=1) rfl,b1,ps1,_,rfl,a2,a3,by rw[List.length_map];omega,fun D1 hD1=>?_⟩
   have rf:=Same.new (o:=.dK (br [] (t.parts.map dk))) hD1
   refine⟨D1,rfl,.inl ⟨_,.inl af⟩,_,rfl,_,.inl ⟨_,Sum.inr n,.inl af,rfl,rfl⟩,?_⟩
   rw[t.xY n]
   obtain⟨b2,ps2,g1,g2,g3⟩:=GP ((eu.keep GQ).keep rf.kt)
   refine⟨_,rfl,tb',_,_,.ref b2,rfl,rfl,.of g1,ax (j:=1) rfl,b2,ps2,_,rfl,g2,g3,by rw[List.length_map];omega,fun D2 hD2=>?_⟩
   have Pt:=Same.new (o:=.dK (br [] (u.parts.map dk))) hD2
   refine⟨D2,rfl,.inl ⟨_,.inl af⟩,_,rfl,_,.inl ⟨_,Sum.inr n,.inl af,rfl,rfl⟩,?_⟩
   rw[u.xY n]
   have s12:=rf.trans Pt
   generalize upd (upd H1 D1 (.dK (br [] (t.parts.map dk)))) D2 (.dK (br [] (u.parts.map dk)))=H2 at s12 ⊢
   refine⟨_,_,rfl,rfl,?_⟩
   dsimp only[aL]
   subst DJ
   refine bu fun Y2 DJ=>?_
   have qR:=s12 _ _ qP
   refine⟨_,rfl,_,rfl,ta,Dn,t,ks,v',rfl,(et.keep GQ).keep s12.kt,st,by omega,⟨_,.inl qR,fun m hm=>j0 hm⟩,ot,fun H3 s3=>⟨_,rfl,_,rfl,tb',Dn,u,ks,v',rfl,(eu.keep GQ).keep (s12.trans s3).kt,su,by omega,⟨_,.inl (s3 _ _ qR),fun m hm=>j0 hm⟩,ou,fun H4 s4=>⟨_,_,rfl,rfl,?_⟩⟩⟩
   have rg:=s12.trans (s3.trans s4)
   have f4:=f1.same rg
   have GH:=rg _ _ Lf
   have Lh:=rg _ _ qP
   have Pu:∀b o,H b=some o→b≠F→b≠L→b≠D→H4 b=some o:=fun b o e n1 n2 n3=>rg _ _ (kp b o e n1 n2 n3)
   clear s12 s3 s4 rg rf Pt a1 a2 a3 g1 g2 g3
   have B1:(1:Int)≤128 ^ i*10 ^ 60:=by
    have:i=0∨i=1∨i=2:=by omega
    rcases this with z | z | z<;>subst z<;>decide
   have nx:∀m,0≤v' m∧v' m≤128 ^ (i+1)*10 ^ 60:=fun m=>by
    have:=hv1 m
    rw[Int.pow_succ]
    omega
   have Y8:=yl st lt B1 hv1
   have Y9:=yl su lu B1 hv1
   dsimp only[aL]
   subst DJ
   refine⟨_,rfl,rfl,_,rfl,?_⟩
   refine cj (fun z=>?_) (fun _=>hN _ _ ⟨v',_,_,_,rfl,Pu,f4,GH,Lh,nx⟩)
   have hm0:t.at n-u.at n≠0:=fun e=>by rw[e] at z;simp at z
   have hmb:(t.at n-u.at n).natAbs.log2<9000:=by
    have h1:=i' n t.parts 0 st.2.2 (by omega) (by omega)
    have h2:=i' n u.parts 0 su.2.2 (by omega) (by omega)
    refine Nat.lt_of_le_of_lt (Nat.log2_le_self _) ?_
    show(aZ n t.parts 0-aZ n u.parts 0).natAbs<9000
    omega
   refine⟨_,rfl,_,rfl,Dn,.int (v' n),rfl,.inl ⟨_,Sum.inr n,.inl Lh,rfl,(j0 hn).symm⟩,_,rfl,_,rfl,_,_,rfl,rfl,⟨hm0,hmb⟩,_,_,rfl,rfl,by show 3≤sizeLine;decide,fun Z hZ=>?_⟩
   have sZ:=Same.new (o:=.lst [.int 0,.int 0,.int 1]) hZ
   have nZ:=f4.lI hZ
   refine⟨_,rfl,F,L,3,rfl,f4.same sZ,by decide,Lg,fun r H5 q5 k5 f5=>?_⟩
   obtain⟨d,hd,hd0,hd1⟩:∃d:Int,oT ([.int 0,.int 0,.int 1]:List V) (r:Int)=some (.int d)∧0≤d∧d≤1:=by
    match r,q5 with
    | 0,_=>exact⟨0,rfl,by decide,by decide⟩
    | 1,_=>exact⟨0,rfl,by decide,by decide⟩
    | 2,_=>exact⟨1,rfl,by decide,by decide⟩
   have Wo:=k5 _ _ (sZ _ _ Lh) nN.1 nN.2
   have Wq:=k5 _ _ (sZ _ _ GH) Po Pq
   have Wr:∀b o,H b=some o→b≠F→b≠L→b≠D→H5 b=some o:=fun b o e n1 n2 n3=>k5 _ _ (sZ _ _ (Pu b o e n1 n2 n3)) n1 n2
   refine⟨Z,_,_,.int d,rfl,rfl,.of (k5 _ _ af nZ.1 nZ.2),hd,_,_,rfl,rfl,_,_,rfl,_,rfl,_,rfl,Dn,_,rfl,.inl ⟨_,Sum.inr n,Wo,rfl,by rw[show(cU v' ks).length=ks.length from List.length_map _];omega,rfl⟩,?_⟩
   rw[Iu hn]
   refine hN _ _ ⟨_,_,_,_,rfl,fun b o e n1 n2 n3=>?_,f5.upd nN,by rw[au Pr.symm];exact Wq,af,fun m=>?_⟩
   ·rw[au (av e rb)];exact Wr b o e n1 n2 n3
   ·by_cases e:m=n
    ·rw[if_pos e,Int.pow_succ]
     have:=Iv (x:=fK t v'-fK u v') (m:=t.at n-u.at n) (B:=128 ^ i*10 ^ 60) (by omega) B1 (hv1 n) ⟨hd0,hd1⟩
     omega
    ·rw[if_neg e];exact nx m
  ·rintro σ H1 ⟨v',x5,x6,x7,rfl,kp,f1,Lf,qP,hv1⟩
   subst hY
   refine⟨_,rfl,k o Dn v' H1 kp f1 Lf rb qP fun n=>?_⟩
   have l:(cU v ks).length=ks.length:=List.length_map _
   rw[l] at hv1
   have h:=hv1 n
   have:ks.length=0∨ks.length=1∨ks.length=2∨ks.length=3:=by omega
   rcases this with z | z | z | z<;>rw[z] at h<;>omega
def fL (v:Str→Int) (f:Str→Int) (ks:List Str):Int:=(ks.map fun n=>v n*f n).sum
theorem g5 (v f:Str→Int) (n:Str) (ks:List Str):fL v f (n::ks)=v n*f n+fL v f ks:=by unfold fL;rw[List.map_cons,List.sum_cons]
theorem jy {n:Str}:∀{qs:List (Str×Int)} {d:Int},n ∉ qs.map (·.1)→aZ n qs d=d
 | [],d,_=>rfl
 | q::qs,d,h=>by
  rw[List.map_cons,List.mem_cons,not_or] at h
  show aZ n qs (if n=q.1 then q.2 else d)=d
  rw[if_neg h.1]
  exact jy h.2
theorem ym {v:Str→Int} {f g:Str→Int} {m:Str} {x:Int} (hg:g m=0) (hf:∀n,f n=if n=m then x else g n):∀{ks:List Str},ks.Nodup→fL v f ks=(if m∈ks then v m*x else 0)+fL v g ks
 | [],_=>by rw[if_neg (by simp)];rfl
 | n::ks,nd=>by
  obtain⟨n1,n2⟩:=List.nodup_cons.mp nd
  rw[g5,g5,ym hg hf n2,hf n]
  by_cases e:n=m
  ·subst e
   rw[if_pos rfl,if_neg n1,if_pos List.mem_cons_self,hg,Int.mul_zero]
  ·rw[if_neg e]
   by_cases hm:m∈ks
   ·rw[if_pos hm,if_pos (List.mem_cons_of_mem _ hm)];omega
   ·rw[if_neg hm,if_neg (fun z=>(List.mem_cons.mp z).elim (fun y=>e y.symm) hm)];omega
theorem o8:∀ks:List Str,(ks.map fun _=>(0:Int)).sum=0
 | []=>rfl
 | a::ks=>by rw[List.map_cons,List.sum_cons,o8 ks];rfl
theorem p7 {v:Str→Int} {ks:List Str} (nd:ks.Nodup):∀{qs:List (Str×Int)},(qs.map (·.1)).Nodup→(∀q∈qs,q.1∈ks)→wsum v qs=fL v (fun n=>aZ n qs 0) ks
 | [],_,_=>by
  unfold fL
  have:(ks.map fun n=>v n*aZ n [] 0)=ks.map fun _=>(0:Int):=List.map_congr_left fun n _=>by show v n*0=0;rw[Int.mul_zero]
  rw[this,o8]
  rfl
 | q::qs,h,hk=>by
  rw[List.map_cons] at h
  obtain⟨n1,n2⟩:=List.nodup_cons.mp h
  have ih:=p7 (v:=v) nd n2 fun p hp=>hk p (List.mem_cons_of_mem _ hp)
  have:=ym (v:=v) (f:=fun n=>aZ n (q::qs) 0) (g:=fun n=>aZ n qs 0) (m:=q.1) (x:=q.2) (jy n1) (fun n=>by
   show aZ n qs (if n=q.1 then q.2 else 0)=_
   by_cases e:n=q.1
   ·subst e;rw[if_pos rfl,if_pos rfl];exact jy n1
   ·rw[if_neg e,if_neg e]) nd
  rw[this,if_pos (hk q List.mem_cons_self),←ih]
  rfl
theorem yn (v f g:Str→Int):∀ks:List Str,fL v f ks-fL v g ks=fL v (fun n=>f n-g n) ks
 | []=>rfl
 | n::ks=>by
  rw[g5,g5,g5,←yn v f g ks,Int.mul_sub]
  omega
theorem yo {v:Str→Int} (hv:∀n,0≤v n) (f:Str→Int):∀ks:List Str,dot (aK (ks.map fun n=>(v n).toNat)) (ks.map f)=fL v f ks
 | []=>rfl
 | n::ks=>by
  rw[g5,←yo hv f ks]
  show(((v n).toNat:Nat):Int)*f n+dot (aK (ks.map fun n=>(v n).toNat)) (ks.map f)=_
  rw[Int.toNat_of_nonneg (hv n)]
theorem DK {t u:Term} {ks:List Str} (nd:ks.Nodup) (nt:(t.parts.map (·.1)).Nodup) (nu:(u.parts.map (·.1)).Nodup) (ht:∀q∈t.parts,q.1∈ks) (hu:∀q∈u.parts,q.1∈ks) {v:Str→Int} (hv:∀n,0≤v n):
  fK t v-fK u v=t.num-u.num+dot (aK (ks.map fun n=>(v n).toNat)) (fk t u ks):=by
 unfold fK fk
 rw[p7 nd nt ht,p7 nd nu hu,yo hv,←yn]
 show t.num+fL v (fun n=>aZ n t.parts 0) ks-(u.num+fL v (fun n=>aZ n u.parts 0) ks)=t.num-u.num+(fL v t.at ks-fL v u.at ks)
 show t.num+fL v t.at ks-(u.num+fL v u.at ks)=_
 omega
theorem rh {t u:Term} {ks:List Str} {v:Str→Int} (ls:Bool) {x:Int} (e:x=t.num-u.num+dot (aK (ks.map fun n=>(v n).toNat)) (fk t u ks)):GO ls (cb ls t u) (ks.map fun n=>(v n).toNat) (fk t u ks)=if ls then decide (x<0) else decide (x=0):=by
 cases ls with
 | true=>
  show decide (0≤u.num-t.num-1-dot _ _)=decide (x<0)
  rw[decide_eq_decide]
  omega
 | false=>
  show decide (u.num-t.num-dot _ _=0)=decide (x=0)
  rw[decide_eq_decide]
  omega
theorem uE:∀{kvs more:List (Key×V)},(more.map (·.1)).Nodup→(∀p∈more,aR kvs p.1=none)→br kvs more=kvs++more
 | kvs,[],_,_=>(List.append_nil _).symm
 | kvs,p::more,nd,h=>by
  rw[List.map_cons] at nd
  obtain⟨n1,n2⟩:=List.nodup_cons.mp nd
  show br (putK kvs p.1 p.2) more=_
  rw[jJ _ (h p List.mem_cons_self)]
  rw[uE n2 fun q hq=>?_,List.append_assoc]
  ·rfl
  ·rw[jQ (h q (List.mem_cons_of_mem _ hq))]
   have ne:p.1≠q.1:=fun e=>n1 (e▸List.mem_map.mpr ⟨q,hq,rfl⟩)
   unfold aR
   rw[List.find?_cons_of_neg (by simp[ne])]
   rfl
theorem uF {v:Str→Int} {ks:List Str} (nd:ks.Nodup):br [] (cU v ks)=cU v ks:=by
 rw[uE (kvs:=[]) ?_ (fun p _=>rfl),List.nil_append]
 unfold cU
 rw[List.map_map]
 exact nd.map _ fun a b h e=>h (Sum.inr.inj e)
def vK (b:Nat) (bs:List Bool) (mv:List (List Nat)) (ns:List Nat):Bool:=lang bs mv 0 (AB b ns)
def Li (K:PySem.W.Frag):Sp:=fun vs H Q _=>∃(b:Nat) (ma na nm:Addr) (bs:List Bool) (mv:List (List Nat)) (ns:List Nat),vs=[.int b,.ref ma,.ref na]∧2≤b∧b≤4∧jV H ma nm bs mv∧Moves bs.length (b ^ ns.length) mv∧0<bs.length∧H na=some (.lst ((aK ns).map V.int))∧ns.length≤3∧(∀n∈ns,n<2 ^ 600)∧
 ∀H',Same H H'→Q (.bl (vK b bs mv ns)) H'
theorem Fx (mv:List (List Nat)) (r:Nat) (xs:List Nat) (f:Nat):run mv r (xs++[f])=(mv.getD (run mv r xs) []).getD f 0:=by rw[zk];rfl
theorem zI:∀{ns:List Nat},0<(aK ns).sum→∃n∈ns,0<n
 | [],h=>by cases h
 | n::ns,h=>by
  have h':0<(n:Int)+(aK ns).sum:=h
  rcases Nat.eq_zero_or_pos n with z | z
  ·subst z
   obtain⟨m,hm,h0⟩:=zI (ns:=ns) (by omega)
   exact⟨m,List.mem_cons_of_mem _ hm,h0⟩
  ·exact⟨n,List.mem_cons_self,z⟩
theorem yp:∀{ns:List Nat},¬0<(aK ns).sum→∀n∈ns,n=0
 | [],_,n,hn=>by cases hn
 | m::ns,h,n,hn=>by
  have nn:∀l:List Nat,0≤(aK l).sum:=fun l=>by
   induction l with
   | nil=>exact Int.le_refl _
   | cons x l ih=>show 0≤(x:Int)+(aK l).sum;omega
  have h':¬0<(m:Int)+(aK ns).sum:=h
  have h1:=nn ns
  rcases List.mem_cons.mp hn with e | e
  ·omega
  ·exact yp (ns:=ns) (by omega) n e
theorem d9:aN ["_law_base","_law_machine","_law_numbers","_law_room","_law_left","_law_letter","_law_number"] ["_law_base","_law_machine","_law_numbers"] (ag gV):=⟨rfl,rfl,rfl,by decide+kernel,rfl,by decide+kernel,by decide+kernel⟩
theorem DL {a:bR} (T:Txt K mg a):aS P w K mg base bp 1 a.mE a.n_ ["_law_base","_law_machine","_law_numbers"] (Li K):=by
 refine T.E8.ok d9 (fun vs H Q E h=>?_) (fun cdv A outer s H vs Q E hr h=>?_)
 ·obtain⟨b,ma,na,nm,bs,mv,ns,rfl,_⟩:=h
  rfl
 ·obtain⟨b,ma,na,nm,bs,mv,ns,rfl,hb2,hb4,hma,og,h0,Ws,ln,hns,k⟩:=h
  refine⟨_,(ai (ay (i:=3) d9.nd rfl (Or.inl rfl) aj)
  (ai (ay (i:=4) d9.nd rfl (Or.inl rfl) (bF (zY K) (by rfl) T.CP yY (ae (pv 2) ah)))
  (ai (jG PassesOwn.never (bh vH (aU (nK K) (by rfl) T.Ax wq (ae (pv 4) ah)) aj (bB _))
   (ai (ay (i:=5) d9.nd rfl (Or.inl rfl) aj)
   (ai (cx PassesOwn.never rfl (du (pv 4)) (aF (i:=6) d9.nd rfl (Or.inl rfl))
    (aq (ay (i:=5) d9.nd rfl (Or.inl rfl) (aG dY (aG ft (pv 5) (pv 0)) (aG fg (pv 6) (pv 0))))))
   (ai (ay (i:=3) d9.nd rfl (Or.inl rfl) (aH (aC K) (aH (aC K) (aH (aC K) (pv 1) aj (fun _ _=>rfl)) (pv 3) (fun _ _=>rfl)) (pv 5) (fun _ _=>rfl)))
   (aq (fO (i:=4) (aI.mk' (esc:=ag gV) (N:=["_law_base","_law_machine","_law_numbers","_law_room","_law_left","_law_letter","_law_number"]) (own:=["_law_number"]) (aM:=["_law_base"]) (bH:=[0]) rfl rfl (by decide+kernel)) rfl (du (pv 4)) (fun _ _ _ _=>(aF (i:=0) (show List.Nodup (["_law_number","_law_base"]:List Str) by decide+kernel) rfl (Or.inl rfl))) (fun _ _ _ _=>bM) (fun _ _ _ _=>(aG il (pv 0) (pv 1))) d9.nd rfl rfl))))))
  (aq (aQ (aH (aC K) (aH (aC K) (pv 1) aj (fun _ _=>rfl)) (pv 3) (fun _ _=>rfl))))))),?_⟩
  obtain⟨ya,va,ps,e1,e2,e3,tp⟩:=hma
  have big:(10000:Nat)≤sizeLine:=by decide
  have Y':∀i,0<b ^ i:=fun i=>Nat.pow_pos (by omega)
  dsimp only[nB,rB,tC,aL]
  refine⟨_,rfl,na,_,rfl,.inl (.of Ws),fun Z hZ=>?_⟩
  dsimp only[aL]
  refine rX (fun m σ H'=>∃(i:Nat) (Z:Addr) (v5 v6:Option V),m=ib b ns-i∧i≤ib b ns∧σ=[some (.int (b:Nat)),some (.ref ma),some (.ref na),some (.int (run mv 0 ((List.range i).map (f' b ns)):Nat)),some (.ref Z),v5,v6]∧Same H H'∧H' Z=some (.lst ((aK (ns.map (· / b ^ i))).map V.int)))
   ⟨_,0,Z,none,none,rfl,Nat.zero_le _,rfl,Same.new hZ,?st⟩ ?_ ?_
  case st=>
   rw[af]
   have:ns.map (· / b ^ 0)=ns:=by
    rw[show(fun x:Nat=>x / b ^ 0)=id from funext fun x=>by rw[Nat.pow_zero,Nat.div_one];rfl,List.map_id]
   rw[this]
  ·rintro m σ H1 ⟨i,Z,v5,v6,rfl,hi,rfl,s1,z1⟩
   have hgo:∀f∈(List.range i).map (f' b ns),f<b ^ ns.length:=fun f hf=>by
    obtain⟨p,_,rfl⟩:=List.mem_map.mp hf
    exact qM (by omega) ns p
   have hg:=og.run h0 (w:=(List.range i).map (f' b ns)) hgo
   refine⟨_,rfl,Z,_,rfl,.of z1,_,_,rfl,rfl,_,rfl,?_⟩
   refine cj (fun z=>?_) (fun z=>?_)
   ·obtain⟨x,hx,x0⟩:=zI (of_decide_eq_true z)
    obtain⟨n,hn,rfl⟩:=List.mem_map.mp hx
    have Wu:i<ib b ns:=Nat.lt_of_lt_of_le ((qL hb2 i n).mpr x0) (xF hn)
    refine⟨_,rfl,Z,rfl,⟨_,.of z1⟩,ig (xs:=(aK (ns.map (· / b ^ i))).map V.int) (fun j σ H'=>∃v6:Option V,σ=[some (.int (b:Nat)),some (.ref ma),some (.ref na),some (.int (run mv 0 ((List.range i).map (f' b ns)):Nat)),some (.ref Z),some (.int (lst b 0 ((ns.take j).map fun n=>n / b ^ i % b):Nat)),v6]∧H'=H1)
     ⟨v6,rfl,rfl⟩ (fun j σ H' _ ⟨_,_,e⟩=>by rw[e];exact .of z1) ?_ ?_⟩
    ·rintro j x σ H2 hx ⟨v6,rfl,rfl⟩
     obtain⟨q,rfl,eq⟩:=rZ hx
     rw[List.getElem?_map] at eq
     obtain⟨n',en',rfl⟩:=Option.map_eq_some_iff.mp eq
     refine⟨_,rfl,_,rfl,_,_,rfl,rfl,.inr (by constructor<;>omega),_,rfl,_,rfl,_,_,rfl,rfl,cpos (by omega),_,_,rfl,rfl,some (.int ((n' / b ^ i:Nat):Int)),?_,rfl⟩
     rw[take_snoc en',List.map_append,List.map_cons,List.map_nil,lst_snoc]
     have ee:((lst b 0 ((ns.take j).map fun n=>n / b ^ i % b):Nat):Int)*(b:Int)+((n' / b ^ i:Nat):Int) % (b:Int)=((lst b 0 ((ns.take j).map fun n=>n / b ^ i % b)*b+n' / b ^ i % b:Nat):Int):=by
      rw[Int.natCast_add,Int.natCast_mul,Int.natCast_emod]
     rw[←ee]
     rfl
    rintro σ H2 ⟨v6,rfl,rfl⟩
    rw[List.length_map,g0,List.length_map,List.take_length]
    have el:lst b 0 (ns.map fun n=>n / b ^ i % b)=f' b ns i:=rfl
    rw[el]
    obtain⟨r1,r2,r3⟩:=og.row (tp.keep s1.kt) hg
    have hl:f' b ns i<b ^ ns.length:=qM (by omega) ns i
    refine⟨_,rfl,ma,_,_,_,rfl,rfl,.of (s1 _ _ e1),ax (j:=2) rfl,_,rfl,va,_,_,_,rfl,rfl,.of (s1 _ _ e3),ax (by rw[List.getElem?_map,r1];rfl),_,rfl,_,_,_,_,rfl,rfl,.of r2,ax (qJ (by rw[r3];exact hl)),?_⟩
    have eg:(mv.getD (run mv 0 ((List.range i).map (f' b ns))) []).getD (f' b ns i) 0=run mv 0 ((List.range (i+1)).map (f' b ns)):=by
     rw[List.range_succ,List.map_append,List.map_cons,List.map_nil,Fx]
    rw[eg]
    dsimp only[aL]
    refine⟨_,rfl,Z,rfl,⟨_,.of z1⟩,fun C hC=>?_⟩
    refine gX (xs:=(aK (ns.map (· / b ^ i))).map V.int) (fun j σ H'=>∃v:Option V,σ=[v,some (.int (b:Nat))]∧Same H2 H'∧H' C=some (.lst ((aK ((ns.take j).map (· / b ^ (i+1)))).map V.int)))
     ⟨none,?sg,Same.new hC,af⟩ (fun j σ H' _ ⟨_,_,s',_⟩=>.of (s' _ _ z1)) ?_ ?_
    case sg=>rfl
    ·rintro j x σ H3 hx ⟨v,rfl,s2,c2⟩
     obtain⟨q,rfl,eq⟩:=rZ hx
     rw[List.getElem?_map] at eq
     obtain⟨n',en',rfl⟩:=Option.map_eq_some_iff.mp eq
     have hj:j<ns.length:=(List.getElem?_eq_some_iff.mp en').1
     refine⟨_,rfl,_,rfl,_,_,rfl,rfl,⟨by omega,CW (by omega)⟩,_,c2,?_,_,rfl,s2.kbn hC KB.write,?_⟩
     ·rw[List.length_map,g0,List.length_map,List.length_take];omega
     ·rw[af,take_snoc en',List.map_append,List.map_cons,List.map_nil,oa,List.map_append]
      have ee:((n' / b ^ i:Nat):Int) / (b:Int)=((n' / b ^ (i+1):Nat):Int):=by
       rw[←Int.natCast_ediv,Nat.div_div_eq_div_mul,Nat.pow_succ]
      show some (HO.lst (_++[V.int (((n' / b ^ i:Nat):Int) / (b:Int))]))=_
      rw[ee]
      rfl
    rintro σ H3 ⟨v,rfl,s2,c2⟩
    rw[List.length_map,g0,List.length_map,List.take_length] at c2
    exact⟨_,by omega,i+1,C,_,_,rfl,Wu,rfl,s1.trans s2,c2⟩
   ·have hz:=yp (fun y=>z (decide_eq_true y))
    have ei:i=ib b ns:=Nat.le_antisymm hi (DC hb2 fun n hn=>hz _ (List.mem_map.mpr ⟨n,hn,rfl⟩))
    subst ei
    refine⟨_,rfl,ma,_,_,_,rfl,rfl,.of (s1 _ _ e1),ax (j:=1) rfl,_,rfl,ya,_,_,.bl (vK b bs mv ns),rfl,rfl,.of (s1 _ _ e2),ax ?_,k H1 s1⟩
    rw[List.getElem?_map,item_at false hg]
    rfl
  ·rintro σ H Q Q' hQ ⟨v1,e1,a1,x1,e4,h6,i1,i2,e7,e8,b,e9,q⟩
   exact⟨v1,e1,a1,x1,e4,h6,i1,i2,e7,e8,b,e9,hQ _ _ q⟩
theorem uG {α:Type} (f:α→Dt) (h:∀x,(f x).dep=0):∀l:List α,Dt.deps (l.map f)=0
 | []=>by simp[Dt.deps]
 | x::l=>by rw[List.map_cons,Dt.deps,uG f h l,h x];rfl
theorem DM (ss:List Str):(Dt.tup (ss.map Dt.str)).dep≤40:=by
 have h1:=uG Dt.str (fun _=>by simp[Dt.dep]) ss
 simp only[Dt.dep,h1]
 omega
def Fy:Sp:=fun vs H Q _=>∃(b:Nat) (ma nm n2:Addr) (ks:List Str) (bs:List Bool) (mv:List (List Nat)),vs=[.int b,.ref ma,.ref nm]∧2≤b∧b≤4∧jV H ma n2 bs mv∧H n2=some (.tup (ks.map V.str))∧H nm=some (.tup (ks.map V.str))∧ks.length≤4∧Moves bs.length (b ^ ks.length) mv∧bs.length≤5000∧(∀r,r<bs.length→bs.getD (stp mv r 0) false=bs.getD r false)∧∀H',Same H H'→Q (.bl true) H'
theorem fh:aN ["_law_base","_law_machine","_law_names_here","_law_letters","_law_name","_law_yes","_law_moves"] ["_law_base","_law_machine","_law_names_here"] (ag eP):=⟨rfl,rfl,rfl,by decide+kernel,rfl,by decide+kernel,by decide+kernel⟩
set_option maxHeartbeats 16000000 in
theorem yI {a:bR} (T:Txt K mg a):aS P w K mg base bp 1 a.jw a.kD ["_law_base","_law_machine","_law_names_here"] Fy:=by
 refine T.Aw.ok fh (fun vs H Q E h=>?_) (fun cdv A outer s H vs Q E hr h=>?_)
 ·obtain⟨b,ma,nm,n2,ks,bs,mv,rfl,_⟩:=h
  rfl
 ·obtain⟨b,ma,nm,n2,ks,bs,mv,rfl,hb2,hb4,⟨ya,va,ps,e1,e2,e3,tp⟩,GR,en,lk,og,lb,sw,k⟩:=h
  refine⟨_,(ai (dB (PW.pt (g6 (iT (eB (aU (iY K) (by rfl) T.fH eU (ae (pv 1) (ae (kP (v:=.ty "tuple") rfl T.d6 de rfl) ah))) (fun _=>rfl))) (g6 (bh jt (aU (bW K) (by rfl) T.fj dF (ae (pv 1) ah)) aj (bB _)) (iS (bh (BN K hr.units) (aH (aC K) (pv 1) aj (fun _ _=>rfl)) (pv 2) (bB _))))))
   (aq (aQ j3))
   b_)
  (ai (dB (PW.pt (g6 (iT (eB (aU (iY K) (by rfl) T.fH eU (ae (aH (aC K) (pv 1) aj (fun _ _=>rfl)) (ae (kP (v:=.ty "tuple") rfl T.d6 de rfl) ah))) (fun _=>rfl))) (g6 (iT (eB (aU (iY K) (by rfl) T.fH eU (ae (aH (aC K) (pv 1) aj (fun _ _=>rfl)) (ae (kP (v:=.ty "tuple") rfl T.d6 de rfl) ah))) (fun _=>rfl))) (iS (bh jt (aU (bW K) (by rfl) T.fj dF (ae (aH (aC K) (pv 1) aj (fun _ _=>rfl)) ah)) (aU (bW K) (by rfl) T.fj dF (ae (aH (aC K) (pv 1) aj (fun _ _=>rfl)) ah)) (bB _))))))
   (aq (aQ j3))
   b_)
  (ai (ay (i:=3) fh.nd rfl (Or.inl rfl) aj)
  (ai (cx PassesOwn.never rfl (eS (pv 2)) (aF (i:=4) fh.nd rfl (Or.inl rfl))
   (aq (ay (i:=3) fh.nd rfl (Or.inl rfl) (aG ft (pv 3) (pv 0)))))
  (ai (cx PassesOwn.never rfl (HR rfl T.Ay (ae (aH (aC K) (pv 1) aj (fun _ _=>rfl)) (ae (aH (aC K) (pv 1) aj (fun _ _=>rfl)) ah))) (p8 rfl (cK (aF (i:=5) fh.nd rfl (Or.inl rfl)) (cK (aF (i:=6) fh.nd rfl (Or.inl rfl)) jz)))
   (ai (dB (PW.pt (g6 (iT (eB (aU (iY K) (by rfl) T.fH eU (ae (pv 5) (ae (kP (v:=.ty "bool") rfl T.CQ yZ rfl) ah))) (fun _=>rfl))) (g6 (iT (eB (aU (iY K) (by rfl) T.fH eU (ae (pv 6) (ae (kP (v:=.ty "tuple") rfl T.d6 de rfl) ah))) (fun _=>rfl))) (iS (bh jt (aU (bW K) (by rfl) T.fj dF (ae (pv 6) ah)) (pv 3) (bB _))))))
    (aq (aQ j3))
    b_)
   (aq (dB (PW.pt (g6 (iT (eB (aU (BP K rfl) (by rfl) T.NC Jn (ae (cz (aI.mk' (esc:=ag eP) (N:=["_law_base","_law_machine","_law_names_here","_law_letters","_law_name","_law_yes","_law_moves"]) (own:=["_law_room"]) (aM:=["_law_machine"]) (bH:=[1]) rfl rfl (by decide+kernel)) rfl (eS (pv 6)) (fun _ _ _ _=>(aF (i:=0) (show List.Nodup (["_law_room","_law_machine"]:List Str) by decide+kernel) rfl (Or.inl rfl))) (fun _ _ _ _=>bM) (fun _ _ _ _=>(Eg FV zQ aj (pv 0) (aU (bW K) (by rfl) T.fj dF (ae (aH (aC K) (pv 1) aj (fun _ _=>rfl)) ah))))) ah)) (fun _=>rfl))) (iS (bh jt (aH (aC K) (aH (aC K) (pv 1) aj (fun _ _=>rfl)) (aH (aC K) (pv 6) aj (fun _ _=>rfl)) (fun _ _=>rfl)) (pv 5) (bB _)))))
    (aq (aQ j3))
    b_))))
  (aq (aQ j3))))))),?_⟩
  have big:(10000:Nat)≤sizeLine:=by decide
  have DN:0<b ^ ks.length:=Nat.pow_pos (by omega)
  have Za:b ^ ks.length≤256:=i7 hb4 lk
  have lps:ps.length=bs.length:=by rw[Paired.length tp,List.length_map,og.len]
  have D1:ak K H (.ref n2) (.tup (ks.map Dt.str)):=iw (.of GR) (nO _)
  have D2:ak K H (.ref nm) (.tup (ks.map Dt.str)):=iw (.of en) (nO _)
  refine bu fun Y hY=>?_
  refine⟨_,rfl,.ref ma,_,"tuple",true,rfl,.tup e1,qm,true,rfl,gb ?_⟩
  refine⟨_,rfl,.ref ma,3,rfl,.inr ⟨_,.of e1,rfl⟩,rfl,_,rfl,?_⟩
  refine cj (fun z=>absurd z (by decide)) (fun _=>?_)
  refine⟨_,rfl,ma,_,_,.ref n2,rfl,rfl,.of e1,ax (j:=0) rfl,_,rfl,⟨⟨_,_,D1,D2,rfl,rfl,DM _,_,rfl,?_⟩,_,_,D1,D2,.inl ⟨_,_,rfl,rfl⟩⟩⟩
  rw[if_pos rfl,Dt.beq_refl]
  refine gb ?_
  dsimp only[ow]
  subst hY
  refine bu fun Y hY=>?_
  refine⟨_,rfl,ma,_,_,.ref ya,rfl,rfl,.of e1,ax (j:=1) rfl,.ref ya,_,"tuple",true,rfl,.tup e2,qm,true,rfl,gb ?_⟩
  refine⟨_,rfl,ma,_,_,.ref va,rfl,rfl,.of e1,ax (j:=2) rfl,.ref va,_,"tuple",true,rfl,.tup e3,qm,true,rfl,gb ?_⟩
  refine⟨_,rfl,ma,_,_,.ref ya,rfl,rfl,.of e1,ax (j:=1) rfl,.ref ya,bs.length,rfl,.inr ⟨_,.of e2,by rw[List.length_map]⟩,_,rfl,ma,_,_,.ref va,rfl,rfl,.of e1,ax (j:=2) rfl,.ref va,bs.length,rfl,.inr ⟨_,.of e3,by rw[List.length_map,lps]⟩,rfl,_,rfl,?_⟩
  refine cj (fun z=>absurd z (by simp)) (fun _=>?_)
  dsimp only[ow]
  subst hY
  refine bu fun Y hY=>?_
  dsimp only[rB,tC,aL]
  subst hY
  refine bu fun Y hY=>?_
  refine⟨_,rfl,nm,rfl,⟨_,.of en⟩,ER (xs:=ks.map V.str) (fun i σ H'=>∃v4:Option V,σ=[some (.int (b:Nat)),some (.ref ma),some (.ref nm),some (.int (b ^ i:Nat)),v4,none,none]∧H'=H)
   ⟨none,rfl,rfl⟩ (fun i σ H' _ ⟨_,_,e⟩=>by rw[e];exact .of en) ?_ ?_⟩
  ·rintro i x σ H2 N hN hx ⟨v4,rfl,rfl⟩
   refine⟨_,rfl,_,rfl,_,_,rfl,rfl,.inr (by constructor<;>omega),hN _ _ ⟨some x,?_,rfl⟩⟩
   have e2:((b ^ i:Nat):Int)*(b:Int)=((b ^ (i+1):Nat):Int):=by rw[Nat.pow_succ,Int.natCast_mul]
   rw[←e2]
   rfl
  rintro σ H2 ⟨v4,rfl,rfl⟩
  rw[List.length_map]
  subst hY
  dsimp only
  refine bu fun Y hY=>?_
  refine⟨_,rfl,ma,_,_,.ref ya,rfl,rfl,.of e1,ax (j:=1) rfl,_,rfl,ma,_,_,.ref va,rfl,rfl,.of e1,ax (j:=2) rfl,ya,va,rfl,⟨_,.of e2⟩,⟨_,.of e3⟩,?_⟩
  refine EO (xs:=bs.map V.bl) (ys:=ps.map V.ref) (fun i σ H'=>∃v5 v6:Option V,σ=[some (.int (b:Nat)),some (.ref ma),some (.ref nm),some (.int (b ^ ks.length:Nat)),v4,v5,v6]∧Same H2 H') (by rw[List.length_map,List.length_map,lps])
   ⟨none,none,rfl,.refl _⟩ (fun i σ H' _ ⟨_,_,_,s'⟩=>⟨.of (s' _ _ e2),.of (s' _ _ e3)⟩) ?_ ?_
  ·rintro i x y pr σ H3 hx hy ⟨v5,v6,rfl,s3⟩ hpr
   obtain⟨c,rfl,ec⟩:=Fg hx
   obtain⟨p,rfl,ep⟩:=oG hy
   have hi:i<bs.length:=(List.getElem?_eq_some_iff.mp ec).1
   obtain⟨r1,r2,r3⟩:=og.row tp hi
   have Wv:p=ps.getD i 0:=by rw[ep] at r1;exact Option.some.inj r1
   subst Wv
   have sp:=Same.new (o:=.tup [V.bl c,V.ref (ps.getD i 0)]) hpr
   have s4:=s3.trans sp
   have zJ:=s4 _ _ r2
   have Lj:=s4 _ _ e1
   have Lk:=s4 _ _ e2
   refine⟨pr,_,rfl,.of af,rfl,_,_,rfl,_,_,rfl,rfl,?_⟩
   dsimp only[aL]
   generalize upd H3 pr (.tup [V.bl c,V.ref (ps.getD i 0)])=H4 at s4 zJ Lj Lk ⊢
   refine bu fun Y2 DJ=>?_
   refine⟨_,rfl,V.bl c,_,"bool",true,rfl,gM.bl _,JF,true,rfl,gb ?_⟩
   refine⟨_,rfl,.ref (ps.getD i 0),_,"tuple",true,rfl,.tup zJ,qm,true,rfl,gb ?_⟩
   refine⟨_,rfl,.ref (ps.getD i 0),b ^ ks.length,rfl,.inr ⟨_,.of zJ,by rw[List.length_map,g0,r3]⟩,_,rfl,rfl,_,rfl,?_⟩
   refine cj (fun z=>absurd z (by simp)) (fun _=>?_)
   dsimp only[ow]
   subst DJ
   refine⟨_,rfl,ps.getD i 0,rfl,⟨_,.of zJ⟩,fun C hC=>?_⟩
   refine dM (xs:=(aK (mv.getD i [])).map V.int) (fun j σ H'=>∃v0:Option V,σ=[v0,some (.ref ma)]∧Same H4 H'∧H' C=some (.lst ((List.replicate j true).map V.bl)))
    ⟨none,?sg,Same.new hC,af⟩ (fun j σ H' _ ⟨_,_,s',_⟩=>.of (s' _ _ zJ)) ?_ ?_
   case sg=>rfl
   ·rintro j z σ H5 hz ⟨v0,rfl,s5,c5⟩
    obtain⟨d,rfl,ed⟩:=rZ hz
    have hj:=(List.getElem?_eq_some_iff.mp ed).1
    have hd:=(og.lead _ (List.mem_of_getElem? (item_at [] (show i<mv.length by rw[og.len];exact hi)))).2 d (List.mem_of_getElem? ed)
    refine⟨_,rfl,_,_,rfl,rfl,_,rfl,?_⟩
    refine cj (fun _=>?_) (fun z=>absurd (decide_eq_true (show(0:Int)≤(d:Int) by omega)) z)
    refine⟨_,rfl,ma,_,_,.ref ya,rfl,rfl,.of (s5 _ _ Lj),ax (j:=1) rfl,.ref ya,bs.length,rfl,.inr ⟨_,.of (s5 _ _ Lk),by rw[List.length_map]⟩,_,_,rfl,rfl,_,c5,?_,_,rfl,s5.kbn hC KB.write,?_⟩
    ·rw[List.length_map,List.length_replicate];omega
    ·rw[af,List.replicate_succ',List.map_append]
     dsimp only
     rw[show decide ((d:Int)<((bs.length:Nat):Int))=true from decide_eq_true (by omega)]
     rfl
   rintro σ H5 ⟨v0,rfl,s5,c5⟩
   refine⟨C,_,rfl,.of c5,?_⟩
   rw[show((List.replicate ((aK (mv.getD i [])).map V.int).length true).all id)=true from List.all_eq_true.mpr fun z hz=>by rw[List.eq_of_mem_replicate hz];rfl]
   refine⟨true,rfl,gb ?_⟩
   have hst:=og.stp hi DN
   obtain⟨y0,Pw⟩:∃y,bs[stp mv i 0]? =some y:=⟨_,List.getElem?_eq_getElem hst⟩
   refine⟨_,rfl,ma,_,_,.ref ya,rfl,rfl,.of (s5 _ _ Lj),ax (j:=1) rfl,_,rfl,ps.getD i 0,_,_,.int (stp mv i 0:Nat),rfl,rfl,.of (s5 _ _ zJ),ax (j:=0) (qJ (by rw[r3];exact DN)),ya,_,_,.bl y0,rfl,rfl,.of (s5 _ _ Lk),ax (by rw[List.getElem?_map,Pw];rfl),_,rfl,rfl,_,rfl,?_⟩
   have ey:y0=c:=by
    have:=sw i hi
    rw[List.getD_eq_getElem?_getD,Pw,List.getD_eq_getElem?_getD,ec] at this
    exact this
   refine cj (fun z=>absurd z (by rw[ey];simp)) (fun _=>?_)
   exact⟨_,_,rfl,s4.trans s5⟩
  ·rintro σ H3 ⟨v5,v6,rfl,s3⟩
   subst hY
   exact k H3 s3
end
end My
namespace My
open PySem L2
theorem uH {α:Type} {x0:α} {on:α→Nat→α} {B:Nat} {xs:List α} {mv:List (List Nat)} (g:cI x0 on B xs mv):0<xs.length:=(List.getElem?_eq_some_iff.mp g.first).1
theorem ri {α:Type} {x0:α} {on:α→Nat→α} {B:Nat} {xs:List α} {mv:List (List Nat)} {yes:α→Bool} (g:cI x0 on B xs mv) (h:mv.length=xs.length) {w:List Nat} (hw:dj B w):lang (xs.map yes) mv 0 w=yes (dq on x0 w):=by
 have:=g.run h w 0 x0 g.first hw
 unfold lang
 rw[List.getD_eq_getElem?_getD,List.getElem?_map,this]
 rfl
def vL (K:PySem.W.Frag) (ts:List Addr):Sp:=fun vs H Q _=>∃(a:Addr) (ns:List Int),vs=[.ref a]∧a_ K H a (ns.map V.int)∧ns.length≤63∧oE ts H∧∀H',Q (.bl true) H'
theorem bD.tb {a:bR} {H H':Hp} {F L:Addr} (t:TB a H) (f:bD H F L) (k:cW F L H H'):TB a H':=by
 obtain⟨ms,n,sd,e1,e2,_⟩:=f.ex
 have one:∀{T:Addr} {M:List (Pos×Str)},Tab H T M→Tab H' T M:=fun {T M} x=>by
  obtain⟨ps,h1,h2,h3⟩:=x
  refine⟨ps,k _ _ h1 (fun z=>by rw[z,e1] at h1;cases h1) (fun z=>by rw[z,e2] at h1;cases h1),h2,fun p hp=>?_⟩
  rcases h3 p hp with z | ⟨c,z1,z2⟩
  ·exact .inl z
  ·exact .inr ⟨c,z1,k _ _ z2 (fun z=>by rw[z,e1] at z2;cases z2) fun z=>by rw[z,e2] at z2;cases z2⟩
 exact⟨one t.sm,one t.le⟩
theorem bD.kx {a:bR} {H H':Hp} {F L:Addr} (f:bD H F L) (k:KX a H H'):bD H' F L:=by
 obtain⟨ms,n,sd,e1,e2,h⟩:=f.ex
 exact⟨ms,n,sd,k _ _ e1 (fun _ z=>nomatch z),k _ _ e2 (fun _ z=>nomatch z),h⟩
section
variable {X:Cx}
def NH (K:PySem.W.Frag):R2:=fun x y H Q=>∃(a b:Addr) (xs ys:List V),x=.ref a∧y=.ref b∧H a=some (.tup xs)∧H b=some (.tup ys)∧xs.length+ys.length≤sizeLine∧∀u H',Same H H'→H' u=some (.tup (xs++ys))→Q (.ref u) H'
theorem Iw (K:PySem.W.Frag) (hK:X.K=K:=by rfl):cC X (binaryOp .Add) (NH K):=by
 subst hK
 intro pins s σ H x y v u Q I rx ry h
 obtain⟨a,b,xs,ys,rfl,rfl,ha,hb,hz,q⟩:=h
 by_cases hx:xs=[]
 ·subst hx
  exact yX pins s σ H _ _ v u Q I rx ry ⟨a,b,ys,rfl,rfl,.of ha,.of hb,q b H (.refl _) hb⟩
 ·exact yR pins s σ H _ _ v u Q I rx ry ⟨a,b,xs,ys,rfl,rfl,.of ha,.of hb,hx,hz,fun z=>q a H (.refl _) (by rw[z,List.append_nil];exact ha),fun _ p hp=>q p _ (Same.new hp) af⟩
end
open PySem.Spec PyProof.Rows in
theorem uI:∀{l:List Str},PyProof.Rows.sortedS l=true→l.Pairwise (fun a b=>ltCps b.cps.toList a.cps.toList=false)
 | [],_=>.nil
 | x::l,h=>.cons (fun y hy=>by
   have:=j7 l x h y hy
   rw[PyProof.Rows.ltCps_eq]
   simpa using List.not_lt.mpr this) (uI (ku h))
theorem AY {l m:List Str} (h:l.Sublist m) (s:PyProof.Rows.sortedS m=true):PyProof.Rows.sortedS l=true:=PyProof.Rows.sortedS_of_pairwise _ ((uI s).sublist h)
theorem rj (n:Str):∀(ps:List (Str×Int)) (kvs:List (Key×V)),(aR (br kvs (ps.map dk)) (Sum.inr n)).isSome=((aR kvs (Sum.inr n)).isSome||decide (n∈ps.map (·.1)))
 | [],kvs=>by simp[br]
 | p::ps,kvs=>by
  show(aR (br (putK kvs (Sum.inr p.1) (.int p.2)) (ps.map dk)) (Sum.inr n)).isSome=_
  rw[rj n ps,lT]
  by_cases e:n=p.1
  ·subst e;simp
  ·rw[if_neg (fun z=>e (Sum.inr.inj z)),List.map_cons]
   have m:n∈p.1::ps.map (·.1)↔n∈ps.map (·.1):=⟨fun h=>(List.mem_cons.mp h).resolve_left e,List.mem_cons_of_mem _⟩
   rw[decide_eq_decide.mpr m]
theorem rl {H:Hp}:∀{ps:List Addr} {qs:List (Str×Int)},iO H ps qs→Paired (fun(p:Addr) (q:Key×V)=>H p=some (.tup [kV q.1,q.2])) ps (qs.map dk)
 | _,_,.nil=>.nil
 | _,_,.cons h t=>.cons h (rl t)
def fM (t u:Term) (pool:List Str):List Str:=pool.filter fun n=>decide (n∈(t.parts++u.parts).map (·.1))
theorem DP {t u:Term} {pool:List Str} (ls:Bool) (so:PyProof.Rows.sortedS pool=true) (nd:pool.Nodup) (ot:dW pool t) (ou:dW pool u):cS (fM t u pool) (mM ls t u):=by
 refine⟨AY List.filter_sublist so,List.Pairwise.sublist List.filter_sublist nd,fun y=>?_⟩
 have e:(mM ls t u).Free y↔y∈jr t∨y∈jr u:=by cases ls<;>exact Iff.rfl
 rw[e]
 unfold fM jr
 rw[List.mem_filter,decide_eq_true_iff,List.map_append,List.mem_append]
 constructor
 ·exact fun h=>h.2
 ·refine fun h=>⟨?_,h⟩
  rcases h with z | z
  ·obtain⟨q,hq,rfl⟩:=List.mem_map.mp z;exact ot.2 q hq
  ·obtain⟨q,hq,rfl⟩:=List.mem_map.mp z;exact ou.2 q hq
theorem DQ {t u:Term} {pool:List Str} {i:Nat} {n:Str} (h:pool[i]? =some n):fM t u (pool.take (i+1))=fM t u (pool.take i)++(if decide (n∈(t.parts++u.parts).map (·.1))=true then [n] else []):=by
 unfold fM
 rw[take_snoc h,List.filter_append,List.filter_cons,List.filter_nil]
theorem yq {α:Type} {x0:α} {on:α→Nat→α} {B:Nat} {xs:List α} {mv:List (List Nat)} {yes:α→Bool} (g:cI x0 on B xs mv) (hl:mv.length=xs.length) (hB:0<B) (h:∀x,yes (on x 0)=yes x):∀r,r<(xs.map yes).length→(xs.map yes).getD (stp mv r 0) false=(xs.map yes).getD r false:=fun r hr=>by
 rw[List.length_map] at hr
 have hm:r<mv.length:=by omega
 obtain⟨ll,x,hx,hrow⟩:=g.row r _ (item_at [] hm)
 have h0:=hrow 0 _ (item_at 0 (show 0<(mv.getD r []).length by omega))
 have e1:(xs.map yes).getD (stp mv r 0) false=yes (on x 0):=by
  rw[List.getD_eq_getElem?_getD,List.getElem?_map,show xs[stp mv r 0]? =some (on x 0) from h0];rfl
 have e2:(xs.map yes).getD r false=yes x:=by rw[List.getD_eq_getElem?_getD,List.getElem?_map,hx];rfl
 rw[e1,e2,h]
theorem om (n:Str) {B:Int}:∀(ps:List (Str×Int)) (d:Int),(∀q∈ps,0≤q.2∧q.2≤B)→0≤d→d≤B→0≤aZ n ps d∧aZ n ps d≤B
 | [],d,_,h1,h2=>⟨h1,h2⟩
 | p::ps,d,h,h1,h2=>by
  have hp:=h p List.mem_cons_self
  refine om n ps _ (fun q hq=>h q (List.mem_cons_of_mem _ hq)) ?_ ?_<;>split<;>omega
theorem oq:∀{qs:List (Str×Int)} {ks:List Str},qs.map (·.1)=ks→ks.Nodup→qs.map dk=cU (fun n=>aZ n qs 0) ks
 | [],_,e,_=>by subst e;rfl
 | q::qs,_,e,nd=>by
  subst e
  rw[List.map_cons] at nd
  obtain⟨n1,n2⟩:=List.nodup_cons.mp nd
  rw[List.map_cons,List.map_cons,oq rfl n2]
  unfold cU
  rw[List.map_cons]
  have h1:aZ q.1 (q::qs) 0=q.2:=by
   show aZ q.1 qs (if q.1=q.1 then q.2 else 0)=q.2
   rw[if_pos rfl];exact jy n1
  show dk q::_=(Sum.inr q.1,V.int (aZ q.1 (q::qs) 0))::_
  rw[h1]
  congr 1
  refine List.map_congr_left fun n hn=>?_
  have ne:n≠q.1:=fun z=>n1 (z▸hn)
  show((Sum.inr n:Key),V.int (aZ n qs 0))=(Sum.inr n,V.int (aZ n qs (if n=q.1 then q.2 else 0)))
  rw[if_neg ne]
def Bd (v:Str→Int):Prop:=∀n,0≤v n∧v n≤128 ^ 3*10 ^ 60
section
variable {P:Program} {w:World} {K:PySem.W.Frag} {mg:Str→Option Value} {base:Heap}
theorem cV:aN ["_law_script","_law_feed_here","_law_pool","_law_base","_law_one","_law_other","_law_names_here","_law_world","_law_same","_law_less","_law_asked","_law_turn","_law_values","_law_numbers","_law_apart"] ["_law_script"] (ag fR):=⟨rfl,rfl,rfl,by decide+kernel,rfl,by decide+kernel,by decide+kernel⟩
set_option maxHeartbeats 32000000 in
theorem Ll {a:bR} {pb:kG} {pc:mL} (T:Txt K mg a) (hB:fQ mg base) (U:iR K w.params mg pb) (Yt:jx K w.params mg pc):aS P w K mg base bp 6 a.Au a.Cw ["_law_script"] (vL K [a.bN,a.bO,a.eZ,a.d5]):=by
 have Fz:=CS (P:=P) (w:=w) (base:=base) T
 have bE:=i4 (P:=P) (w:=w) (base:=base) T
 have DS:=AJ (P:=P) (w:=w) (base:=base) T
 have DT:=AA (P:=P) (w:=w) (base:=base) T
 have yr:=DG (P:=P) (w:=w) (base:=base) T
 have rm:=yI (P:=P) (w:=w) (base:=base) T
 have FA:=DI (P:=P) (w:=w) (base:=base) T
 have jb:=ra (P:=P) (w:=w) (base:=base) T
 have yt:=DL (P:=P) (w:=w) (base:=base) T
 have uJ:aS P w K mg base bp 5 a.i_ a.hV ["world","saying","most"] (yb a):=AV T hB U Yt
 have Lm:∀t:Tok,Vals [V.int 2000] [Value.int 2000 t]:=fun t=>.cons ⟨t,rfl⟩ .nil
 obtain⟨Zb,rn⟩:=T.Cz
 refine T.Nz.ok cV (fun vs H Q E h=>?_) (fun cdv A outer s H vs Q E hr h=>?_)
 ·obtain⟨sa,ns,rfl,_⟩:=h
  rfl
 ·obtain⟨sa,ns,rfl,hS,hns,hO,q⟩:=h
  have DU:aO 1 _:=hr.mono (by decide)
  have bj:aO 1 _:=hr.mono (by decide)
  have o9:aO 1 _:=hr.mono (by decide)
  have h_:aO 1 _:=hr.mono (by decide)
  have uK:aO 1 _:=hr.mono (by decide)
  have AZ:aO 2 _:=hr.mono (by decide)
  have A_:aO 2 _:=hr.mono (by decide)
  have DV:aO 2 _:=hr.mono (by decide)
  have uL:aO 2 _:=hr.mono (by decide)
  have ro:aO 5 _:=hr
  refine⟨_,(ai (ay (i:=1) cV.nd rfl (Or.inr rfl) (az Fz DU rfl T.E3 T.E4 T.E5 .nil aJ (ae (pv 0) ah)))
  (ai (ay (i:=2) cV.nd rfl (Or.inl rfl) (az DS AZ rfl T.CH T.CI T.CJ .nil aJ (ae (pv 1) (ae (az bE bj rfl T.bT T.bU T.bV .nil aJ (ae (pv 1) (ae aj ah))) ah))))
  (ai (ay (i:=3) cV.nd rfl (Or.inl rfl) (aG dY aj (az bE bj rfl T.bT T.bU T.bV .nil aJ (ae (pv 1) (ae aj ah)))))
  (ai (ay (i:=4) cV.nd rfl (Or.inr rfl) (az yr uL rfl T.xt T.xu T.xv .nil aJ (ae (pv 1) (ae (pv 2) ah))))
  (ai (ay (i:=5) cV.nd rfl (Or.inr rfl) (az yr uL rfl T.xt T.xu T.xv .nil aJ (ae (pv 1) (ae (pv 2) ah))))
  (ai (ay (i:=6) cV.nd rfl (Or.inl rfl) (bF (dN K) (by rfl) T.d6 de (ae (cz (aI.mk' (esc:=ag fR) (N:=["_law_script","_law_feed_here","_law_pool","_law_base","_law_one","_law_other","_law_names_here","_law_world","_law_same","_law_less","_law_asked","_law_turn","_law_values","_law_numbers","_law_apart"]) (own:=["_law_name"]) (aM:=["_law_one","_law_other"]) (bH:=[4,5]) rfl rfl (by decide+kernel)) rfl (eS (pv 2)) (fun _ _ _ _=>(aF (i:=0) (show List.Nodup (["_law_name","_law_one","_law_other"]:List Str) by decide+kernel) rfl (Or.inl rfl))) (fun _ _ _ _=>(lZ (Bg (Jc (bP hr) (pv 0) (bF (ju hr.hd) (by rfl) T.jU ip (ae (aG (Iw K) (aH (aC K) (pv 1) aj (fun _ _=>rfl)) (aH (aC K) (pv 2) aj (fun _ _=>rfl))) ah))) (by with_unfolding_all rfl)))) (fun _ _ _ _=>(pv 0))) ah)))
  (ai (ay (i:=7) cV.nd rfl (Or.inl rfl) (bL (ae (pv 3) (ae Em ah))))
  (ai (ay (i:=8) cV.nd rfl (Or.inl rfl) (az uJ ro rfl T.um T.uo rn (Lm _) aJ (ae (pv 7) (ae (bL (ae bo (ae (pv 4) (ae (pv 5) ah)))) ah))))
  (ai (ay (i:=9) cV.nd rfl (Or.inl rfl) (az uJ ro rfl T.um T.uo rn (Lm _) aJ (ae (pv 7) (ae (bL (ae bo (ae (pv 4) (ae (pv 5) ah)))) ah))))
  (ai (dB (PW.pt (g6 (iT (eB (az rm o9 rfl T.qG T.qH T.qI .nil aJ (ae (pv 3) (ae (pv 8) (ae (pv 6) ah)))) (fun _=>rfl))) (iS (iT (eB (az rm o9 rfl T.qG T.qH T.qI .nil aJ (ae (pv 3) (ae (pv 9) (ae (pv 6) ah)))) (fun _=>rfl))))))
   (aq (aQ j3))
   b_)
  (ai (ay (i:=10) cV.nd rfl (Or.inl rfl) (dc (ae (bF (qr hr.hd) (by rfl) T.jU ip (ae (cz (aI.mk' (esc:=ag fR) (N:=["_law_script","_law_feed_here","_law_pool","_law_base","_law_one","_law_other","_law_names_here","_law_world","_law_same","_law_less","_law_asked","_law_turn","_law_values","_law_numbers","_law_apart"]) (own:=["_law_name"]) (aM:=[]) (bH:=[]) rfl rfl (by decide+kernel)) rfl (eS (pv 6)) (fun _ _ _ _=>(aF (i:=0) (show List.Nodup (["_law_name"]:List Str) by decide+kernel) rfl (Or.inl rfl))) (fun _ _ _ _=>bM) (fun _ _ _ _=>(bL (ae (pv 0) (ae aj ah))))) ah)) ah)))
  (ai (cx PassesOwn.never rfl (dD rfl T.fV (ae aj ah)) (aF (i:=11) cV.nd rfl (Or.inl rfl))
   (ai (ay (i:=12) cV.nd rfl (Or.inr rfl) (bF (qr hr.hd) (by rfl) T.jU ip (ae (cz (aI.mk' (esc:=ag fR) (N:=["_law_script","_law_feed_here","_law_pool","_law_base","_law_one","_law_other","_law_names_here","_law_world","_law_same","_law_less","_law_asked","_law_turn","_law_values","_law_numbers","_law_apart"]) (own:=["_law_name"]) (aM:=["_law_feed_here"]) (bH:=[1]) rfl rfl (by decide+kernel)) rfl (eS (pv 6)) (fun _ _ _ _=>(aF (i:=0) (show List.Nodup (["_law_name","_law_feed_here"]:List Str) by decide+kernel) rfl (Or.inl rfl))) (fun _ _ _ _=>bM) (fun _ _ _ _=>(bL (ae (pv 0) (ae (az DT A_ rfl T.CL T.CM T.CN .nil aJ (ae (pv 1) ah)) ah))))) ah)))
   (aq (fb (gx PySem.F.plainAttrs_list PySem.F.slot_list_extend PySem.F.type_list_extend nI (pv 10) (ae (dc (ae (pv 12) (ae (az FA DV rfl T.Fb T.Fc T.Fd .nil aJ (ae (pv 1) (ae (pv 4) (ae (pv 5) (ae (pv 12) ah))))) ah))) ah))))))
  (ai (cx PassesOwn.never rfl (du (pv 10)) (aF (i:=12) cV.nd rfl (Or.inr rfl))
   (ai (fO (i:=13) (aI.mk' (esc:=ag fR) (N:=["_law_script","_law_feed_here","_law_pool","_law_base","_law_one","_law_other","_law_names_here","_law_world","_law_same","_law_less","_law_asked","_law_turn","_law_values","_law_numbers","_law_apart"]) (own:=["_law_name"]) (aM:=["_law_values"]) (bH:=[12]) rfl rfl (by decide+kernel)) rfl (eS (pv 6)) (fun _ _ _ _=>(aF (i:=0) (show List.Nodup (["_law_name","_law_values"]:List Str) by decide+kernel) rfl (Or.inl rfl))) (fun _ _ _ _=>bM) (fun _ _ _ _=>(cH (bP hr) (pv 1) (pv 0) (fun _ _=>rfl))) cV.nd rfl rfl)
   (ai (ay (i:=14) cV.nd rfl (Or.inl rfl) (aG fq (az jb h_ rfl T.kg T.kh T.ki .nil aJ (ae (pv 4) (ae (pv 12) ah))) (az jb h_ rfl T.kg T.kh T.ki .nil aJ (ae (pv 5) (ae (pv 12) ah)))))
   (aq (dB (PW.pt (g6 (bh jt (az yt uK rfl T.xx T.xy T.xA .nil aJ (ae (pv 3) (ae (pv 8) (ae (pv 13) ah)))) (ox lR (pv 14) aj (bB _)) (bB _)) (iS (bh jt (az yt uK rfl T.xx T.xy T.xA .nil aJ (ae (pv 3) (ae (pv 9) (ae (pv 13) ah)))) (ox zQ (pv 14) aj (bB _)) (bB _)))))
    (aq (aQ j3))
    b_)))))
  (aq (aQ j3))))))))))))))),?_⟩
  have big:(10000:Nat)≤sizeLine:=by decide
  have DH:(2 ^ 10:Nat)<2 ^ 1000:=Nat.pow_lt_pow_right (by decide) (by decide)
  have small:∀x:Nat,x≤1000→x<2 ^ 1000:=fun x hx=>Nat.lt_trans (show x<2 ^ 10 by omega) DH
  have Px:TB a H:=⟨hO.tab (by simp),hO.tab (by simp)⟩
  refine bu fun R hR=>?_
  refine⟨_,rfl,sa,ns,rfl,hS,hns,fun F L H1 hF hL s1 f1=>?_⟩
  have o6:=Px.same s1
  dsimp only[aL]
  subst hR
  refine bu fun R hR=>?_
  refine⟨_,rfl,_,rfl,F,L,4,rfl,f1,by decide,small _ (by decide),fun r H2 r1 k2 f2=>⟨F,L,r,rfl,f2,by omega,fun pl pool H3 hpl k3 f3 qQ Yy Ww Dd=>?_⟩⟩
  have o7:=bD.tb (bD.tb o6 f1 k2) f2 k3
  have nd:=Ww.once
  have Py:pool.length≤3:=by omega
  dsimp only[aL]
  subst hR
  refine bu fun R hR=>?_
  refine⟨_,rfl,F,L,3,rfl,f3,by decide,small _ (by decide),fun r' H4 r1' k4 f4=>⟨_,_,rfl,rfl,?_⟩⟩
  have Pz:=bD.tb o7 f3 k4
  have xV:=f3.ktu k4 _ _ qQ
  have eb:(2:Int)+(r':Int)=((2+r':Nat):Int):=by omega
  dsimp only[aL]
  subst hR
  refine bu fun R hR=>?_
  rw[eb]
  generalize hbb:2+r'=b
  have hb2:2≤b:=by omega
  have hb4:b≤4:=by omega
  refine⟨_,rfl,_,rfl,F,L,pl,pool,rfl,f4,xV,Py,fun ta t H5 k5 f5 et ot smt Wx=>?_⟩
  have zD:=bD.tb Pz f4 k5
  have xW:=f4.ktu k5 _ _ xV
  dsimp only[aL]
  subst hR
  refine bu fun R hR=>?_
  refine⟨_,rfl,_,rfl,F,L,pl,pool,rfl,f5,xW,Py,fun tb' u H6 k6 f6 eu ou GS Wy=>?_⟩
  have PB:=bD.tb zD f5 k6
  have pU:=f5.ktu k6 _ _ xW
  have Ln:=et.keep (f5.ktu k6)
  have Wz:(t.parts.map (·.1)).Nodup:=List.Pairwise.sublist Wx nd
  have WA:(u.parts.map (·.1)).Nodup:=List.Pairwise.sublist Wy nd
  clear Px o6 o7 Pz zD f1 f2 f3 f4 f5 k2 k3 k4 k5 k6 qQ xV xW et s1 hF hL hpl
  dsimp only[aL]
  subst hR
  refine bu fun R hR=>?_
  refine⟨_,rfl,pl,rfl,⟨_,.of pU⟩,fun C hC=>?_⟩
  refine dM (xs:=pool.map V.str) (fun i σ H'=>∃v:Option V,σ=[v,some (.ref ta),some (.ref tb')]∧Same H6 H'∧H' C=some (.lst ((fM t u (pool.take i)).map V.str)))
   ⟨none,?sg,Same.new hC,af⟩ (fun i σ H' _ ⟨_,_,s',_⟩=>.of (s' _ _ pU)) ?_ ?_
  case sg=>rfl
  ·rintro i x σ H7 hx ⟨v,rfl,s7,c7⟩
   obtain⟨n,rfl,en'⟩:=ix hx
   have hi:=(List.getElem?_eq_some_iff.mp en').1
   obtain⟨b1,ps1,a1,a2,a3⟩:=Ln.keep s7.kt
   obtain⟨b2,ps2,g1,g2,g3⟩:=eu.keep s7.kt
   have Zc:ps1.length≤3:=by rw[Paired.length a3];exact ot.1
   have Zd:ps2.length≤3:=by rw[Paired.length g3];exact ou.1
   refine⟨_,rfl,_,rfl,ta,_,_,.ref b1,rfl,rfl,.of a1,ax (j:=1) rfl,_,rfl,tb',_,_,.ref b2,rfl,rfl,.of g1,ax (j:=1) rfl,b1,b2,_,_,rfl,rfl,a2,g2,by rw[List.length_map,List.length_map];omega,fun c H8 s8 e8=>?_⟩
   rw[←List.map_append] at e8
   refine⟨c,ps1++ps2,_,rfl,e8,rl (bJ (iO.keep a3 s8.kt) (iO.keep g3 s8.kt)),by rw[List.length_map,List.length_append,←Paired.length a3,←Paired.length g3];omega,fun D hD=>?_⟩
   have sD:=Same.new (o:=.dK (br [] ((t.parts++u.parts).map dk))) hD
   refine⟨D,_,rfl,.inl ⟨_,Sum.inr n,.inl af,rfl,rfl⟩,_,rfl,?_⟩
   rw[rj n (t.parts++u.parts) []]
   have s9:=(s7.trans s8).trans sD
   have c9:=(s8.trans sD) _ _ c7
   have DW:=DQ (t:=t) (u:=u) en'
   have ll:(fM t u (pool.take i)).length≤i:=by
    have:=List.length_filter_le (fun n=>decide (n∈(t.parts++u.parts).map (·.1))) (pool.take i)
    rw[List.length_take] at this
    unfold fM;omega
   show if(decide (n∈(t.parts++u.parts).map (·.1)))=true then _ else _
   by_cases hm:decide (n∈(t.parts++u.parts).map (·.1))=true
   ·rw[if_pos hm] at DW ⊢
    refine⟨_,rfl,_,c9,by rw[List.length_map];omega,_,rfl,s9.kbn hC KB.write,?_⟩
    rw[af,DW,List.map_append];rfl
   ·rw[if_neg hm] at DW ⊢
    rw[List.append_nil] at DW
    exact⟨_,rfl,s9,by rw[DW];exact c9⟩
  rintro σ H7 ⟨v,rfl,s7,c7⟩
  rw[List.length_map,List.take_length] at c7
  refine⟨C,_,rfl,.inl ⟨.of c7,fun nm hnm=>?_⟩⟩
  have sN:=Same.new (o:=.tup ((fM t u pool).map V.str)) hnm
  have oZ:(upd H7 nm (.tup ((fM t u pool).map V.str))) nm=some (.tup ((fM t u pool).map V.str)):=af
  have sA:=s7.trans sN
  have Lo:=PB.same sA
  have Lp:=Ln.keep sA.kt
  have Lq:=eu.keep sA.kt
  have fA:=f6.same sA
  generalize upd H7 nm (.tup ((fM t u pool).map V.str))=H8 at sA Lo Lp Lq oZ fA ⊢
  have rq:∀ls,cS (fM t u pool) (mM ls t u):=fun ls=>DP ls Dd nd ot ou
  have Lr:∀ls,(mM ls t u).Over pool:=fun ls=>by cases ls<;>exact⟨ot,ou⟩
  have zK:(fM t u pool).length≤3:=by
   have:=(rq false).len (Lr false)
   omega
  have zL:=(rq false).once
  have tk:∀q∈t.parts,q.1∈fM t u pool:=fun q hq=>((rq false).mem q.1).mpr (.inl (List.mem_map.mpr ⟨q,hq,rfl⟩))
  have uk:∀q∈u.parts,q.1∈fM t u pool:=fun q hq=>((rq false).mem q.1).mpr (.inr (List.mem_map.mpr ⟨q,hq,rfl⟩))
  generalize fM t u pool=ks at oZ rq zK zL tk uk
  have DN:0<b ^ ks.length:=Nat.pow_pos (by omega)
  clear Ln eu sA s7 c7 sN hnm hC PB f6 pU
  dsimp only[aL]
  subst hR
  refine bu fun R hR=>?_
  refine⟨_,rfl,fun d hd=>⟨by show 2≤sizeLine;decide,fun wo PD=>?_⟩⟩
  have sW:=(Same.new (o:=.dK []) hd).trans (Same.new (o:=.tup [.int (b:Nat),.ref d]) PD)
  have GU:(upd (upd H8 d (.dK [])) wo (.tup [.int (b:Nat),.ref d])) wo=some (.tup [.int (b:Nat),.ref d]):=af
  have Ls:=Lo.same sW
  have DX:=Lp.keep sW.kt
  have DY:=Lq.keep sW.kt
  have Lu:=sW _ _ oZ
  have f9:=fA.same sW
  generalize upd (upd H8 d (.dK [])) wo (.tup [.int (b:Nat),.ref d])=H9 at GU Ls DX DY Lu f9 ⊢
  dsimp only[aL]
  subst hR
  refine bu fun R hR=>?_
  refine⟨_,rfl,_,rfl,_,rfl,by show 3≤sizeLine;decide,fun sy PF=>?_⟩
  have sS:=Same.new (o:=.tup [.str "same",.ref ta,.ref tb']) PF
  refine⟨false,b,2000,wo,sy,ta,tb',_,t,u,pool,rfl,hb2,hb4,sS _ _ GU,⟨af,DX.keep sS.kt,DY.keep sS.kt⟩,Lr false,by omega,by decide,Ls.same sS,fun ks' xs BJ k10 FC fr Q3 rc lt10=>?_,fun ks' sm n1 xs mv BJ k10 FC fr Lv PH hl1 YB DZ=>?_⟩
  ·cases fr.uniq (rq false)
   have:=yj hb2 hb4 smt GS zK Q3 rc
   omega
  cases fr.uniq (rq false)
  have FD:=(KX.same (a:=a) sS).trans k10
  dsimp only[aL]
  subst hR
  refine bu fun R hR=>?_
  refine⟨_,rfl,_,rfl,_,rfl,by show 3≤sizeLine;decide,fun WB Lw=>?_⟩
  have GV:=Same.new (o:=.tup [.str "less",.ref ta,.ref tb']) Lw
  have A0:=FD.trans (KX.same (a:=a) GV)
  refine⟨true,b,2000,wo,WB,ta,tb',_,t,u,pool,rfl,hb2,hb4,A0.kt _ _ GU,⟨af,DX.keep A0.kt,DY.keep A0.kt⟩,Lr true,by omega,by decide,FC.same GV,fun ks' ys Jk k11 Lx Ly Q4 rc YC=>?_,fun ks' le n2 ys mw Jk k11 Lx Ly A1 GR hl2 YD D_=>?_⟩
  ·cases Ly.uniq (rq true)
   have:=yj hb2 hb4 smt GS zK Q4 rc
   omega
  cases Ly.uniq (rq true)
  have kS:KX a BJ Jk:=(KX.same (a:=a) GV).trans k11
  have kA:=FD.trans kS
  have vM:=Lv.keep kS.kt
  have Lz:=kS.kt _ _ PH
  have LA:=DX.keep kA.kt
  have LB:=DY.keep kA.kt
  have A2:=kA.kt _ _ Lu
  have f11:=f9.kx kA
  have LC:Moves (xs.map (dr false)).length (b ^ ks.length) mv:=by rw[List.length_map];exact DZ.og hl1
  have mv2:Moves (ys.map (dr true)).length (b ^ ks.length) mw:=by rw[List.length_map];exact D_.og hl2
  have x0:0<(xs.map (dr false)).length:=by rw[List.length_map];exact uH DZ
  have y0:0<(ys.map (dr true)).length:=by rw[List.length_map];exact uH D_
  have PJ:=yq (yes:=dr false) DZ hl1 DN fun x=>q_ (ls:=false) hb2 _ x
  have PK:=yq (yes:=dr true) D_ hl2 DN fun x=>q_ (ls:=true) hb2 _ x
  have PL:∀w,dj (b ^ ks.length) w→lang (xs.map (dr false)) mv 0 w=dr false (dq (zE false b t u ks) (some (cb false t u)) w):=fun w hw=>ri DZ hl1 hw
  have PN:∀w,dj (b ^ ks.length) w→lang (ys.map (dr true)) mw 0 w=dr true (dq (zE true b t u ks) (some (cb true t u)) w):=fun w hw=>ri D_ hl2 hw
  have lx:(xs.map (dr false)).length≤5000:=by rw[List.length_map];omega
  have ly:(ys.map (dr true)).length≤5000:=by rw[List.length_map];omega
  generalize xs.map (dr false)=GW at vM LC x0 PJ PL lx
  generalize ys.map (dr true)=GX at A1 mv2 y0 PK PN ly
  clear Lv PH DZ D_ kS k10 k11 FD A0 sS GV DX DY Lu f9 Ls FC Lx PF Lw GU Lp Lq oZ fA Lo sW hd PD
  dsimp only[aL]
  subst hR
  refine bu fun R hR=>?_
  refine⟨_,rfl,_,rfl,_,rfl,b,sm,nm,n1,ks,GW,mv,rfl,hb2,hb4,vM,Lz,A2,by omega,LC,lx,PJ,fun Ze s12=>⟨true,rfl,gb ?_⟩⟩
  refine⟨_,rfl,_,rfl,_,rfl,b,le,nm,n2,ks,GX,mw,rfl,hb2,hb4,A1.keep s12.kt,s12 _ _ GR,s12 _ _ A2,by omega,mv2,ly,PK,fun GY PQ=>⟨true,rfl,gb ?_⟩⟩
  have mP:=s12.trans PQ
  have m1:=vM.keep mP.kt
  have m2:=A1.keep mP.kt
  have et:=LA.keep mP.kt
  have eu:=LB.keep mP.kt
  have en:=mP _ _ A2
  have fd:=f11.same mP
  clear vM A1 LA LB A2 f11 Lz GR s12 PQ mP kA
  dsimp only[ow]
  subst hR
  refine bu fun R hR=>?_
  obtain⟨Wm,fn,Wn,Pp,Le,_⟩:=fd.ex
  refine⟨_,rfl,nm,rfl,⟨_,.of en⟩,fun C hC=>?_⟩
  refine dM (xs:=ks.map V.str) (fun i σ H'=>∃(ps:List Addr) (v:Option V),σ=[v]∧Same GY H'∧H' C=some (.lst (ps.map V.ref))∧iO H' ps ((ks.take i).map fun n=>(n,(0:Int))))
   ⟨[],none,?sg2,Same.new hC,af,.nil⟩ (fun i σ H' _ ⟨_,_,_,s',_⟩=>.of (s' _ _ en)) ?_ ?_
  case sg2=>rfl
  ·rintro i x σ J hx ⟨ps,v,rfl,sJ,cJ,tp⟩
   obtain⟨n,rfl,en'⟩:=ix hx
   have hi:=(List.getElem?_eq_some_iff.mp en').1
   have lps:ps.length≤3:=by rw[Paired.length tp,List.length_map,List.length_take];omega
   refine⟨_,rfl,by show 2≤sizeLine;decide,fun p hp=>?_⟩
   have sp:=Same.new (o:=.tup [.str n,.int 0]) hp
   have cp:=sp _ _ cJ
   have kC:bt (upd J p (.tup [.str n,.int 0])) (upd (upd J p (.tup [.str n,.int 0])) C (.lst (ps.map V.ref++[.ref p]))):=bt.lst cp
   refine⟨_,cp,by rw[List.length_map];omega,ps++[p],_,rfl,(sJ.trans sp).kbn hC KB.write,by rw[af,List.map_append];rfl,?_⟩
   rw[take_snoc en',List.map_append]
   exact bJ ((iO.keep tp sp.kt).keep kC) (.cons (kC _ _ af) .nil)
  rintro σ J ⟨ps,v,rfl,sJ,cJ,tp⟩
  rw[List.length_map,List.take_length] at tp
  have lps:ps.length≤3:=by rw[Paired.length tp,List.length_map];omega
  refine⟨C,ps,_,rfl,cJ,rl tp,by rw[List.length_map,←Paired.length tp];omega,fun D hD=>?_⟩
  rw[oq (qs:=ks.map fun n=>(n,(0:Int))) (ks:=ks) (by rw[List.map_map];exact List.map_id _) zL,uF zL]
  have bd0:Bd fun n=>aZ n (ks.map fun n=>(n,(0:Int))) 0:=fun n=>by
   have:=om n (B:=0) (ks.map fun n=>(n,(0:Int))) 0 (fun q hq=>by obtain⟨m,_,rfl⟩:=List.mem_map.mp hq;exact⟨Int.le_refl _,Int.le_refl _⟩) (Int.le_refl _) (Int.le_refl _)
   exact⟨this.1,Int.le_trans this.2 (by decide)⟩
  generalize (fun n=>aZ n (ks.map fun n=>(n,(0:Int))) 0)=v0 at bd0 ⊢
  have sD:=Same.new (o:=.dK (cU v0 ks)) hD
  have nD:=(fd.same sJ).lI hD
  refine⟨by show 1≤sizeLine;decide,fun as has=>?_⟩
  have LF:=Same.new (o:=.lst [.ref D]) has
  have WC:D≠as:=av (show(upd J D (.dK (cU v0 ks))) D=some _ from af) has
  have LG:GY as=none:=sJ.free (sD.free has)
  have D4:=fd.lI LG
  have hW:=(sJ.trans sD).trans LF
  have PR:(upd (upd J D (.dK (cU v0 ks))) as (.lst [.ref D])) D=some (.dK (cU v0 ks)):=LF _ _ af
  have PU:(upd (upd J D (.dK (cU v0 ks))) as (.lst [.ref D])) as=some (.lst ([D].map V.ref)):=af
  generalize upd (upd J D (.dK (cU v0 ks))) as (.lst [.ref D])=J0 at hW PR PU ⊢
  clear LF sD sJ cJ tp hC has hD
  dsimp only[aL]
  subst hR
  refine bu fun R hR=>?_
  refine⟨_,rfl,by decide,by decide,qx (n:=4) (fun i σ H'=>∃(Ds:List Addr) (x11 x12:Option V),σ=[some (.ref sa),some (.ref F),some (.ref pl),some (.int (b:Nat)),some (.ref ta),some (.ref tb'),some (.ref nm),some (.ref wo),some (.ref sm),some (.ref le),some (.ref as),x11,x12,none,none]∧cW F L GY H'∧bD H' F L∧H' as=some (.lst (Ds.map V.ref))∧Ds.length≤1+2*i∧∀D∈Ds,D≠F∧D≠L∧D≠as∧∃v,Rd H' D (.dK (cU v ks))∧Bd v)
   ⟨[D],none,none,rfl,hW.kb2,fd.same hW,PU,Nat.le_refl _,fun D' hD'=>by rw[List.mem_singleton.mp hD'];exact⟨nD.1,nD.2,WC,v0,.inl PR,bd0⟩⟩ ?_ ?_⟩
  ·rintro i σ J N hN hi ⟨Ds,x11,x12,rfl,kJ,fJ,GZ,WD,LH⟩
   dsimp only[aL]
   refine bu fun R2 D5=>?_
   have D6:=fd.ktu kJ _ _ en
   refine⟨_,rfl,nm,rfl,⟨_,.of D6⟩,fun C hC=>?_⟩
   have nC:=fJ.lI hC
   refine dM (xs:=ks.map V.str) (fun j σ H'=>∃(ps:List Addr) (qs:List (Str×Int)) (v:Option V),σ=[v,some (.ref F)]∧cW F L J H'∧bD H' F L∧H' C=some (.lst (ps.map V.ref))∧iO H' ps qs∧qs.map (·.1)=ks.take j∧∀q∈qs,0≤q.2∧q.2≤10 ^ 60)
    ⟨[],[],none,?WE,(Same.new hC).kb2,fJ.same (Same.new hC),af,.nil,rfl,fun q hq=>(by cases hq)⟩ (fun j σ H' _ ⟨_,_,_,_,k',_⟩=>.of (fJ.ktu k' _ _ D6)) ?_ ?_
   case WE=>rfl
   ·rintro j x σ J1 hx ⟨ps,qs,v,rfl,k1,f1,c1,tp,eq,hq⟩
    obtain⟨n,rfl,en'⟩:=ix hx
    have hj:=(List.getElem?_eq_some_iff.mp en').1
    have lps:ps.length≤3:=by
     have:=congrArg List.length eq
     rw[List.length_map,List.length_take] at this
     rw[Paired.length tp];omega
    refine⟨_,rfl,_,rfl,F,L,rfl,f1,fun r J2 r1 k2 f2=>⟨by show 2≤sizeLine;decide,fun p hp=>?_⟩⟩
    have sp:=Same.new (o:=.tup [.str n,.int (r:Nat)]) hp
    have k12:=k2.trans sp.kb2
    have cp:=k12 _ _ c1 nC.1 nC.2
    have WG:iO (upd J2 p (.tup [.str n,.int (r:Nat)])) ps qs:=iO.keep tp (f1.ktu k12)
    have kC:bt (upd J2 p (.tup [.str n,.int (r:Nat)])) (upd (upd J2 p (.tup [.str n,.int (r:Nat)])) C (.lst (ps.map V.ref++[.ref p]))):=bt.lst cp
    refine⟨_,cp,by rw[List.length_map];omega,ps++[p],qs++[(n,(r:Int))],_,rfl,cW.AI (k1.trans k12) hC,(f2.same sp).upd nC,by rw[af,List.map_append];rfl,bJ (WG.keep kC) (.cons (kC _ _ af) .nil),by rw[List.map_append,eq,take_snoc en'];rfl,fun q hq'=>?_⟩
    rcases List.mem_append.mp hq' with z | z
    ·exact hq q z
    ·rw[List.mem_singleton.mp z]
     exact⟨by show(0:Int)≤r;omega,by show(r:Int)≤10 ^ 60;omega⟩
   rintro σ J1 ⟨ps,qs,v,rfl,k1,f1,c1,tp,eq,hq⟩
   rw[List.length_map,List.take_length] at eq
   have lps:ps.length≤3:=by
    have:=congrArg List.length eq
    rw[List.length_map] at this
    rw[Paired.length tp];omega
   refine⟨C,ps,_,rfl,c1,rl tp,by rw[List.length_map,←Paired.length tp];omega,fun D1 hD1=>?_⟩
   rw[oq eq zL,uF zL]
   have hv1:∀n,0≤aZ n qs 0∧aZ n qs 0≤10 ^ 60:=fun n=>om n qs 0 hq (Int.le_refl _) (by decide)
   generalize PV:(fun n=>aZ n qs 0)=v1
   have hv1':∀n,0≤v1 n∧v1 n≤10 ^ 60:=fun n=>by rw[←PV];exact hv1 n
   have rf:=Same.new (o:=.dK (cU v1 ks)) hD1
   have C5:=f1.lI hD1
   have LI:=k1 _ _ GZ D4.1 D4.2
   have FE:as≠D1:=av LI hD1
   have k13:=(kJ.trans k1).trans rf.kb2
   have A3:=rf _ _ LI
   have oY:(upd J1 D1 (.dK (cU v1 ks))) D1=some (.dK (cU v1 ks)):=af
   have f2:=f1.same rf
   have old:∀{b:Addr} {o:HO},J b=some o→b≠F→b≠L→(upd J1 D1 (.dK (cU v1 ks))) b=some o∧b≠D1:=fun {b o} e n1 n2=>⟨rf _ _ (k1 _ _ e n1 n2),av (k1 _ _ e n1 n2) hD1⟩
   have WH:∀{b:Addr} {o:HO},GY b=some o→b≠F→b≠L→b≠D1:=fun {b o} e n1 n2=>(old (kJ _ _ e n1 n2) n1 n2).2
   generalize upd J1 D1 (.dK (cU v1 ks))=J2 at k13 A3 oY f2 old ⊢
   clear rf c1 tp eq hq k1 hC f1 hv1 PV
   have LJ:=fd.ktu k13
   dsimp only[aL]
   subst D5
   refine⟨_,rfl,.inl ⟨rfl,_,.of A3⟩,_,rfl,_,rfl,_,rfl,_,rfl,_,rfl,F,L,ta,tb',D1,t,u,ks,v1,rfl,f2,et.keep LJ,eu.keep LJ,smt,GS,ot.1,ou.1,tk,uk,oY,C5.1,zK,hv1',fun o Dn v' J3 kp f3 zB rb Q5 hv'=>⟨by show 2≤sizeLine;decide,fun Z hZ=>?_⟩⟩
   have sZ:=Same.new (o:=.lst [.ref D1,.ref Dn]) hZ
   have Q6:=kp _ _ A3 D4.1 D4.2 FE
   have LK:Dn≠as:=fun z=>by rw[z,A3] at rb;cases rb
   have PX:=f2.lI rb
   refine⟨as,Z,_,_,rfl,rfl,sZ _ _ Q6,af,by rw[List.length_map];show Ds.length+2≤_;omega,hN _ _ ⟨Ds++[D1,Dn],_,_,rfl,fun b o e n1 n2=>?_,(f3.same sZ).upd D4,by rw[af,List.map_append];rfl,by rw[List.length_append];show Ds.length+2≤_;omega,fun D' hD'=>?_⟩⟩
   ·rw[au (av e LG)]
    exact sZ _ _ (kp _ _ (k13 _ _ e n1 n2) n1 n2 (WH e n1 n2))
   ·rcases List.mem_append.mp hD' with z | z
    ·obtain⟨n1,n2,n3,v2,rd,bd⟩:=LH D' z
     refine⟨n1,n2,n3,v2,?_,bd⟩
     rcases rd with e | ⟨ob,e⟩
     ·obtain⟨e2,n4⟩:=old e n1 n2
      exact .inl (by rw[au n3];exact sZ _ _ (kp _ _ e2 n1 n2 n4))
     ·obtain⟨e2,n4⟩:=old e n1 n2
      exact .inr ⟨ob,by rw[au n3];exact sZ _ _ (kp _ _ e2 n1 n2 n4)⟩
    ·rcases List.mem_cons.mp z with z | z
     ·subst z
      exact⟨C5.1,C5.2,FE.symm,v1,.inr ⟨o,by rw[au FE.symm];exact sZ _ _ zB⟩,fun n=>⟨(hv1' n).1,Int.le_trans (hv1' n).2 (by decide)⟩⟩
     ·rw[List.mem_singleton.mp z]
      exact⟨PX.1,PX.2,LK,v',.inl (by rw[au LK];exact sZ _ _ Q5),hv'⟩
  ·rintro σ J ⟨Ds,x11,x12,rfl,kJ,fJ,GZ,WD,LH⟩
   subst hR
   dsimp only
   refine bu fun R hR=>?_
   have D7:=fd.ktu kJ
   have D6:=D7 _ _ en
   have WI:=et.keep D7
   have WJ:=eu.keep D7
   have WK:=m1.keep D7
   have WL:=m2.keep D7
   refine⟨_,rfl,as,rfl,⟨_,.of GZ⟩,Ck (xs:=Ds.map V.ref) (fun i σ H'=>∃x12 LL LN:Option V,σ=[some (.ref sa),some (.ref F),some (.ref pl),some (.int (b:Nat)),some (.ref ta),some (.ref tb'),some (.ref nm),some (.ref wo),some (.ref sm),some (.ref le),some (.ref as),x11,x12,LL,LN]∧Same J H')
    ⟨x12,none,none,rfl,.refl _⟩ (fun i σ H' _ ⟨_,_,_,_,s'⟩=>.of (s' _ _ GZ)) ?_ ?_⟩
   ·rintro i x σ J1 N hN hx ⟨x12,LL,LN,rfl,s1⟩
    obtain⟨D',rfl,WM⟩:=oG hx
    obtain⟨_,_,_,v,WN,bd⟩:=LH D' (List.mem_of_getElem? WM)
    have LO:∀{H':Hp},Same J H'→Rd H' D' (.dK (cU v ks)):=fun {H'} s=>by
     rcases WN with z | ⟨o,z⟩
     ·exact .inl (s _ _ z)
     ·exact .inr ⟨o,s _ _ z⟩
    dsimp only[aL]
    refine bu fun R2 D5=>?_
    refine⟨_,rfl,nm,rfl,⟨_,.of (s1 _ _ D6)⟩,fun C hC=>?_⟩
    refine dM (xs:=ks.map V.str) (fun j σ H'=>∃v0:Option V,σ=[v0,some (.ref D')]∧Same J1 H'∧H' C=some (.lst ((aK ((ks.take j).map fun n=>(v n).toNat)).map V.int)))
     ⟨none,?WO,Same.new hC,af⟩ (fun j σ H' _ ⟨_,_,s',_⟩=>.of (s' _ _ (s1 _ _ D6))) ?_ ?_
    case WO=>rfl
    ·rintro j y σ J2 hy ⟨v0,rfl,s2,c2⟩
     obtain⟨n,rfl,en'⟩:=ix hy
     have hj:=(List.getElem?_eq_some_iff.mp en').1
     refine⟨_,rfl,_,rfl,D',.int (v n),rfl,.inl ⟨_,Sum.inr n,LO (s1.trans s2),rfl,(j0 (List.mem_of_getElem? en')).symm⟩,_,c2,by rw[List.length_map,g0,List.length_map,List.length_take];omega,_,rfl,s2.kbn hC KB.write,?_⟩
     rw[af,take_snoc en',List.map_append,oa,List.map_append]
     show some (HO.lst (_++[V.int (v n)]))=some (HO.lst (_++[V.int (((v n).toNat:Nat):Int)]))
     rw[Int.toNat_of_nonneg (bd n).1]
    rintro σ J2 ⟨v0,rfl,s2,c2⟩
    rw[List.length_map,List.take_length] at c2
    have s12:=s1.trans s2
    dsimp only[aL]
    subst D5
    refine bu fun R2 D5=>?_
    refine⟨_,rfl,_,rfl,ta,D',t,ks,v,rfl,WI.keep s12.kt,smt,by have:=ot.1;omega,⟨_,LO s12,fun m hm=>j0 hm⟩,tk,fun J3 s3=>⟨_,rfl,_,rfl,tb',D',u,ks,v,rfl,WJ.keep (s12.trans s3).kt,GS,by have:=ou.1;omega,⟨_,LO (s12.trans s3),fun m hm=>j0 hm⟩,uk,fun J4 s4=>⟨_,_,rfl,rfl,?_⟩⟩⟩
    have rg:=(s12.trans s3).trans s4
    have c4:=s4 _ _ (s3 _ _ c2)
    have hap:=DK (t:=t) (u:=u) zL Wz WA tk uk (v:=v) fun n=>(bd n).1
    generalize hxx:fK t v-fK u v=ap at hap
    have D8:(ks.map fun n=>(v n).toNat).length=ks.length:=List.length_map _
    have PY:(ks.map fun n=>(v n).toNat).length=(fk t u ks).length:=by unfold fk;rw[List.length_map,List.length_map]
    have PZ:∀n∈ks.map fun n=>(v n).toNat,n<2 ^ 600:=fun n hn=>by
     obtain⟨m,_,rfl⟩:=List.mem_map.mp hn
     have h1:=(bd m).2
     have h2:(v m).toNat≤128 ^ 3*10 ^ 60:=by omega
     exact Nat.lt_of_le_of_lt h2 (Nat.lt_of_lt_of_le (show 128 ^ 3*10 ^ 60<2 ^ 256 by decide) (Nat.pow_le_pow_right (by decide) (by decide)))
    have P_:dj (b ^ ks.length) (AB b (ks.map fun n=>(v n).toNat)):=fun c hc=>by
     obtain⟨k,_,rfl⟩:=List.mem_map.mp hc
     rw[←D8]
     exact qM (by omega) _ _
    have Q7:vK b GW mv (ks.map fun n=>(v n).toNat)=decide (ap=0):=by
     show lang GW mv 0 _=_
     rw[PL _ P_,mean hb2 PY]
     exact rh false hap
    have Q8:vK b GX mw (ks.map fun n=>(v n).toNat)=decide (ap<0):=by
     show lang GX mw 0 _=_
     rw[PN _ P_,mean hb2 PY]
     exact rh true hap
    dsimp only[aL]
    subst D5
    refine⟨_,rfl,_,rfl,_,rfl,b,sm,C,n1,GW,mv,_,rfl,hb2,hb4,WK.keep rg.kt,by rw[D8];exact LC,x0,c4,by rw[D8];exact zK,PZ,fun J5 s5=>⟨_,rfl,rfl,rfl,_,rfl,?_⟩⟩
    rw[Q7]
    refine cj (fun z=>?_) (fun _=>?_)
    ·exfalso
     rw[hxx,show decide (V.int ap=V.int 0)=decide (ap=0) from decide_eq_decide.mpr ⟨fun e=>V.int.inj e,fun e=>by rw[e]⟩] at z
     simp at z
    refine⟨_,rfl,_,rfl,_,rfl,b,le,C,n2,GX,mw,_,rfl,hb2,hb4,WL.keep (rg.trans s5).kt,by rw[D8];exact mv2,y0,s5 _ _ c4,by rw[D8];exact zK,PZ,fun J6 s6=>⟨_,rfl,_,_,rfl,rfl,rfl,_,rfl,?_⟩⟩
    rw[Q8]
    refine cj (fun z=>?_) (fun _=>hN _ _ ⟨_,_,_,rfl,(rg.trans s5).trans s6⟩)
    exfalso
    dsimp only at z
    rw[hxx] at z
    simp at z
   ·rintro σ J1 ⟨x12,LL,LN,rfl,s1⟩
    subst hR
    exact q J1
end
end My
namespace My
open PySem L2
@[elab_as_elim] theorem mU {P:List Value→Prop} (us:List Value) (e:us.length=1) (h:∀a,P [a]):P us:=by
 cases us with
 | nil=>cases e
 | cons a us=>cases us with
  | nil=>exact h a
  | cons _ _=>cases e
@[elab_as_elim] theorem ln2 {P:List Value→Prop} (us:List Value) (e:us.length=2) (h:∀a0 a1,P [a0,a1]):P us:=by
 cases us with
 | nil=>cases e
 | cons a us=>exact mU (P:=fun z=>P (a::z)) us (Nat.succ.inj e) (h a)
@[elab_as_elim] theorem lO {P:List Value→Prop} (us:List Value) (e:us.length=3) (h:∀a0 a1 a2,P [a0,a1,a2]):P us:=by
 cases us with
 | nil=>cases e
 | cons a us=>exact ln2 (P:=fun z=>P (a::z)) us (Nat.succ.inj e) (h a)
@[elab_as_elim] theorem D9 {P:List Value→Prop} (us:List Value) (e:us.length=4) (h:∀a0 a1 a2 a3,P [a0,a1,a2,a3]):P us:=by
 cases us with
 | nil=>cases e
 | cons a us=>exact lO (P:=fun z=>P (a::z)) us (Nat.succ.inj e) (h a)
@[elab_as_elim] theorem P0 {P:List Value→Prop} (us:List Value) (e:us.length=5) (h:∀a0 a1 a2 a3 a4,P [a0,a1,a2,a3,a4]):P us:=by
 cases us with
 | nil=>cases e
 | cons a us=>exact D9 (P:=fun z=>P (a::z)) us (Nat.succ.inj e) (h a)
@[elab_as_elim] theorem Zf {P:List Value→Prop} (us:List Value) (e:us.length=6) (h:∀a0 a1 a2 a3 a4 a5,P [a0,a1,a2,a3,a4,a5]):P us:=by
 cases us with
 | nil=>cases e
 | cons a us=>exact P0 (P:=fun z=>P (a::z)) us (Nat.succ.inj e) (h a)
theorem all_mk {l:PySem.W.OpenLaw} {w:World} {K:PySem.W.Frag} {h:Heap} {mg:Str→Option Value} {fa:Addr} (X:K.In h) (G:h.Ns mainGlobals mg) (hfa:mg "law"=some (.ref fa))
  {f0:Addr} {WQ WR:Option Addr} {Oy:Array (Option Value)} {WS WT WU WV WW:Value} {P1:Value}
  {f1:Addr} {WX WY:Option Addr} {WZ:Array (Option Value)} {W_ W0 W2 W3 W4:Value} {P2:Value}
  {f2:Addr} {W5 W6:Option Addr} {sl2:Array (Option Value)} {W7 W8 W9 W' Xa:Value} {P4:Value}
  {f3:Addr} {Xb LP:Option Addr} {Xc:Array (Option Value)} {Xd LQ LS LU LV:Value} {Ea:Addr}
  {zM Xe:Nat} {Q9:Value} {Ra:Option Addr} {LW:Tok} {Rb:Array (Option Value)}
  {f4:Addr} {Xf Xg:Option Addr} {Xh:Array (Option Value)} {Xi Xj Xk Xl Xm:Value} {P5:Value}
  {f5:Addr} {Xn Xo:Option Addr} {Xp:Array (Option Value)} {Xq Xr Xs Xt Xu:Value} {P6:Value}
  {f6:Addr} {Xv Xw:Option Addr} {Xx:Array (Option Value)} {Xy Xz XA XB XC:Value} {P7:Value}
  {f7:Addr} {XD XE:Option Addr} {XF:Array (Option Value)} {XG XH XI XJ XM:Value} {P8:Value}
  {f8:Addr} {XN XO:Option Addr} {XQ:Array (Option Value)} {XR XS XT XU XW:Value} {P9:Value}
  {f9:Addr} {XX XY:Option Addr} {XZ:Array (Option Value)} {X_ X0 X1 X2 X3:Value} {Qa:Value}
  {G_:Addr} {Rc Rf:Option Addr} {Rg:Array (Option Value)} {Rh Ri Rj Rk Rm:Value} {LX:Value}
  {f11:Addr} {Rn Ro:Option Addr} {Rp:Array (Option Value)} {Rq Rt Ru Rv Rw:Value} {LY:Value}
  {G0:Addr} {Rx Ry:Option Addr} {Rz:Array (Option Value)} {RA RB RC RD RE:Value} {LZ:Value}
  {G3:Addr} {RF RG:Option Addr} {RH:Array (Option Value)} {RI RJ RK RL RM:Value} {L_:Value}
  {G4:Addr} {RN RO:Option Addr} {RP:Array (Option Value)} {RQ RS RT RU RV:Value} {L0:Value}
  {G5:Addr} {RW RX:Option Addr} {RY:Array (Option Value)} {RZ R_ R0 R1 R3:Value} {L3:Value}
  {G6:Addr} {R4 R5:Option Addr} {R6:Array (Option Value)} {R7 R8 R9 R' Sb:Value} {L4:Value}
  {G7:Addr} {Sd L5:Option Addr} {Se:Array (Option Value)} {Sf L6 L7 L8 L9:Value} {tj:Addr}
  {kH:Addr} {NI:Option Addr} {mQ:Array Value} {NJ:Array (Option Value)}
  {G8:Addr} {Sg Ma:Option Addr} {Sh:Array (Option Value)} {Si Mb Mc Md Me:Value} {tm:Addr}
  {kI:Addr} {NK:Option Addr} {mR:Array Value} {NL:Array (Option Value)}
  {G9:Addr} {Sj Sk:Option Addr} {Sl:Array (Option Value)} {Sm Sn So Sq Sr:Value} {Mf:Value}
  {G':Addr} {Ss Sv:Option Addr} {Sw:Array (Option Value)} {Sx Sy Sz SA SD:Value} {Mg:Value}
  {Ha:Addr} {SE Mh:Option Addr} {SF:Array (Option Value)} {SG Mi Mj Mk Ml:Value} {tu:Addr}
  {kK:Addr} {NM:Option Addr} {mS:Array Value} {NN:Array (Option Value)}
  {Hb:Addr} {SH Mm:Option Addr} {SJ:Array (Option Value)} {SK Mn Mp Mq Mr:Value} {tD:Addr}
  {kN:Addr} {NP:Option Addr} {mT:Array Value} {NQ:Array (Option Value)}
  {Hc:Addr} {SM SN:Option Addr} {SO:Array (Option Value)} {SQ SR SU SV SW:Value} {Ms:Value}
  {Hd:Addr} {SX FF:Option Addr} {SY:Array (Option Value)} {S_ FG FH FI FJ:Value} {yu:Addr}
  {tE S0:Nat} {NR:Value} {NS:Option Addr} {He:Tok} {NT:Array (Option Value)}
  {Hf:Addr} {S3 S4:Option Addr} {S5:Array (Option Value)} {S6 S7 S8 S9 S':Value} {Mt:Value}
  {Hg:Addr} {Ta Tb:Option Addr} {Td:Array (Option Value)} {Te Tg Ti Tj Tn:Value} {Mu:Value}
  {Hh:Addr} {To Tp:Option Addr} {Tq:Array (Option Value)} {Tr Ts Tt Tv Tw:Value} {Mv:Value}
  {Hi:Addr} {Tx Tz:Option Addr} {TC:Array (Option Value)} {TF TH TJ TK TL:Value} {Mw:Value}
  {Hj:Addr} {TN TQ:Option Addr} {TR:Array (Option Value)} {TU TV TX TY T_:Value} {Mx:Value}
  {Hk:Addr} {T2 T3:Option Addr} {T4:Array (Option Value)} {T5 T6 T7 T9 Ua:Value} {Mz:Value}
  {Hl:Addr} {Ub Uc:Option Addr} {Ud:Array (Option Value)} {Ue Ug Uh Ui Uj:Value} {MA:Value}
  {f32:Addr} {Uk Ul:Option Addr} {Um:Array (Option Value)} {Uo Up Uq Ur Us:Value} {MB:Value}
  {Hm:Addr} {Ut Uu:Option Addr} {Uv:Array (Option Value)} {Uw Ux Uy Uz UA:Value} {MC:Value}
  {Hn:Addr} {UB UC:Option Addr} {UD:Array (Option Value)} {UE UG UH UI UJ:Value} {ME:Value}
  {MF:Addr} {UK MG:Option Addr} {UL:Array (Option Value)} {UM MH MI MJ MK:Value} {FK:Value}
  (a0:PySem.W.nsIn K mainGlobals "figures_of"=some (some (.ref f0))) (l0:K.lookup f0=some ⟨WS,WQ,.func (PySem.W.fnOf "figures_of" "figures_of" (aD fz) (aB fz) (ag fz) .none WT WU WV WR P1 WW),Oy⟩) (c0:PySem.W.codeIn K P1 "figures_of"=true) (k0:PySem.W.keepIn K (.ref f0)=true)
  (a1:PySem.W.nsIn K mainGlobals "all_letters"=some (some (.ref f1))) (l1:K.lookup f1=some ⟨W_,WX,.func (PySem.W.fnOf "all_letters" "all_letters" (aD cL) (aB cL) (ag cL) .none W0 W2 W3 WY P2 W4),WZ⟩) (c1:PySem.W.codeIn K P2 "all_letters"=true) (k1:PySem.W.keepIn K (.ref f1)=true)
  (a2:PySem.W.nsIn K mainGlobals "room_after"=some (some (.ref f2))) (l2:K.lookup f2=some ⟨W7,W5,.func (PySem.W.fnOf "room_after" "room_after" (aD fB) (aB fB) (ag fB) .none W8 W9 W' W6 P4 Xa),sl2⟩) (c2:PySem.W.codeIn K P4 "room_after"=true) (k2:PySem.W.keepIn K (.ref f2)=true)
  (a3:PySem.W.nsIn K mainGlobals "grown_from"=some (some (.ref f3))) (l3:K.lookup f3=some ⟨Xd,Xb,.func (PySem.W.fnOf "grown_from" "grown_from" (aD bC) (aB bC) (ag bC) (.ref zM) LQ LS LU LP (.ref Ea) LV),Xc⟩) (c3:PySem.W.codeIn K (.ref Ea) "grown_from"=true) (k3:PySem.W.keepIn K (.ref f3)=true)
  (ld3:K.lookup zM=some ⟨Q9,Ra,.seq #[(.int 2000 LW)] Xe,Rb⟩)
  (a4:PySem.W.nsIn K mainGlobals "machine_of"=some (some (.ref f4))) (l4:K.lookup f4=some ⟨Xi,Xf,.func (PySem.W.fnOf "machine_of" "machine_of" (aD dZ) (aB dZ) (ag dZ) .none Xj Xk Xl Xg P5 Xm),Xh⟩) (c4:PySem.W.codeIn K P5 "machine_of"=true) (k4:PySem.W.keepIn K (.ref f4)=true)
  (a5:PySem.W.nsIn K mainGlobals "inner_parts"=some (some (.ref f5))) (l5:K.lookup f5=some ⟨Xq,Xn,.func (PySem.W.fnOf "inner_parts" "inner_parts" (aD cM) (aB cM) (ag cM) .none Xr Xs Xt Xo P6 Xu),Xp⟩) (c5:PySem.W.codeIn K P6 "inner_parts"=true) (k5:PySem.W.keepIn K (.ref f5)=true)
  (a6:PySem.W.nsIn K mainGlobals "term_names"=some (some (.ref f6))) (l6:K.lookup f6=some ⟨Xy,Xv,.func (PySem.W.fnOf "term_names" "term_names" (aD df) (aB df) (ag df) .none Xz XA XB Xw P7 XC),Xx⟩) (c6:PySem.W.codeIn K P7 "term_names"=true) (k6:PySem.W.keepIn K (.ref f6)=true)
  (a7:PySem.W.nsIn K mainGlobals "parts_in_order"=some (some (.ref f7))) (l7:K.lookup f7=some ⟨XG,XD,.func (PySem.W.fnOf "parts_in_order" "parts_in_order" (aD cA) (aB cA) (ag cA) .none XH XI XJ XE P8 XM),XF⟩) (c7:PySem.W.codeIn K P8 "parts_in_order"=true) (k7:PySem.W.keepIn K (.ref f7)=true)
  (a8:PySem.W.nsIn K mainGlobals "told_of_parts"=some (some (.ref f8))) (l8:K.lookup f8=some ⟨XR,XN,.func (PySem.W.fnOf "told_of_parts" "told_of_parts" (aD cm) (aB cm) (ag cm) .none XS XT XU XO P9 XW),XQ⟩) (c8:PySem.W.codeIn K P9 "told_of_parts"=true) (k8:PySem.W.keepIn K (.ref f8)=true)
  (a9:PySem.W.nsIn K mainGlobals "names_over"=some (some (.ref f9))) (l9:K.lookup f9=some ⟨X_,XX,.func (PySem.W.fnOf "names_over" "names_over" (aD dg) (aB dg) (ag dg) .none X0 X1 X2 XY Qa X3),XZ⟩) (c9:PySem.W.codeIn K Qa "names_over"=true) (k9:PySem.W.keepIn K (.ref f9)=true)
  (a10:PySem.W.nsIn K mainGlobals "names_by_place"=some (some (.ref G_))) (l10:K.lookup G_=some ⟨Rh,Rc,.func (PySem.W.fnOf "names_by_place" "names_by_place" (aD cB) (aB cB) (ag cB) .none Ri Rj Rk Rf LX Rm),Rg⟩) (c10:PySem.W.codeIn K LX "names_by_place"=true) (k10:PySem.W.keepIn K (.ref G_)=true)
  (a11:PySem.W.nsIn K mainGlobals "free_names"=some (some (.ref f11))) (l11:K.lookup f11=some ⟨Rq,Rn,.func (PySem.W.fnOf "free_names" "free_names" (aD d_) (aB d_) (ag d_) .none Rt Ru Rv Ro LY Rw),Rp⟩) (c11:PySem.W.codeIn K LY "free_names"=true) (k11:PySem.W.keepIn K (.ref f11)=true)
  (a12:PySem.W.nsIn K mainGlobals "times_of"=some (some (.ref G0))) (l12:K.lookup G0=some ⟨RA,Rx,.func (PySem.W.fnOf "times_of" "times_of" (aD eO) (aB eO) (ag eO) .none RB RC RD Ry LZ RE),Rz⟩) (c12:PySem.W.codeIn K LZ "times_of"=true) (k12:PySem.W.keepIn K (.ref G0)=true)
  (a13:PySem.W.nsIn K mainGlobals "sum_of"=some (some (.ref G3))) (l13:K.lookup G3=some ⟨RI,RF,.func (PySem.W.fnOf "sum_of" "sum_of" (aD gR) (aB gR) (ag gR) .none RJ RK RL RG L_ RM),RH⟩) (c13:PySem.W.codeIn K L_ "sum_of"=true) (k13:PySem.W.keepIn K (.ref G3)=true)
  (a14:PySem.W.nsIn K mainGlobals "letter_sums"=some (some (.ref G4))) (l14:K.lookup G4=some ⟨RQ,RN,.func (PySem.W.fnOf "letter_sums" "letter_sums" (aD cN) (aB cN) (ag cN) .none RS RT RU RO L0 RV),RP⟩) (c14:PySem.W.codeIn K L0 "letter_sums"=true) (k14:PySem.W.keepIn K (.ref G4)=true)
  (a15:PySem.W.nsIn K mainGlobals "differences"=some (some (.ref G5))) (l15:K.lookup G5=some ⟨RZ,RW,.func (PySem.W.fnOf "differences" "differences" (aD cO) (aB cO) (ag cO) .none R_ R0 R1 RX L3 R3),RY⟩) (c15:PySem.W.codeIn K L3 "differences"=true) (k15:PySem.W.keepIn K (.ref G5)=true)
  (a16:PySem.W.nsIn K mainGlobals "same_onward"=some (some (.ref G6))) (l16:K.lookup G6=some ⟨R7,R4,.func (PySem.W.fnOf "same_onward" "same_onward" (aD dv) (aB dv) (ag dv) .none R8 R9 R' R5 L4 Sb),R6⟩) (c16:PySem.W.codeIn K L4 "same_onward"=true) (k16:PySem.W.keepIn K (.ref G6)=true)
  (a17:PySem.W.nsIn K mainGlobals "same_growth"=some (some (.ref G7))) (l17:K.lookup G7=some ⟨Sf,Sd,.func (PySem.W.fnOf "same_growth" "same_growth" (aD bz) (aB bz) (ag bz) .none L6 L7 L8 L5 (.ref tj) L9),Se⟩) (c17:PySem.W.codeIn K (.ref tj) "same_growth"=true) (k17:PySem.W.keepIn K (.ref G7)=true)
  (lc17:K.lookup tj=some ⟨.type "code",NI,.fields mQ,NJ⟩) (lv17:mQ[11]? =some (.ref kH))
  (le17:((match (mQ[11]? :Option Value) with | some (.ref P')=>P' == kH | _=>false)&&(match mQ.getD 18 .none with | .str _ _=>true | _=>false)&&(match mQ.getD 7 .none with | .int _ _=>true | _=>false)&&(match mQ.getD 9 .none with | .bool _=>true | _=>false)&&(match mQ.getD 10 .none with | .int _ _=>true | _=>false)&&tj != kH)=true)
  (ln17:K.lookup kH=none) (lt17:h.get? kH=some (PySem.W.tabObj #[]))
  (a18:PySem.W.nsIn K mainGlobals "less_growth"=some (some (.ref G8))) (l18:K.lookup G8=some ⟨Si,Sg,.func (PySem.W.fnOf "less_growth" "less_growth" (aD bA) (aB bA) (ag bA) .none Mb Mc Md Ma (.ref tm) Me),Sh⟩) (c18:PySem.W.codeIn K (.ref tm) "less_growth"=true) (k18:PySem.W.keepIn K (.ref G8)=true)
  (lc18:K.lookup tm=some ⟨.type "code",NK,.fields mR,NL⟩) (lv18:mR[11]? =some (.ref kI))
  (le18:((match (mR[11]? :Option Value) with | some (.ref P')=>P' == kI | _=>false)&&(match mR.getD 18 .none with | .str _ _=>true | _=>false)&&(match mR.getD 7 .none with | .int _ _=>true | _=>false)&&(match mR.getD 9 .none with | .bool _=>true | _=>false)&&(match mR.getD 10 .none with | .int _ _=>true | _=>false)&&tm != kI)=true)
  (ln18:K.lookup kI=none) (lt18:h.get? kI=some (PySem.W.tabObj #[]))
  (a19:PySem.W.nsIn K mainGlobals "row_onward"=some (some (.ref G9))) (l19:K.lookup G9=some ⟨Sm,Sj,.func (PySem.W.fnOf "row_onward" "row_onward" (aD fC) (aB fC) (ag fC) .none Sn So Sq Sk Mf Sr),Sl⟩) (c19:PySem.W.codeIn K Mf "row_onward"=true) (k19:PySem.W.keepIn K (.ref G9)=true)
  (a20:PySem.W.nsIn K mainGlobals "sign_from"=some (some (.ref G'))) (l20:K.lookup G'=some ⟨Sx,Ss,.func (PySem.W.fnOf "sign_from" "sign_from" (aD gn) (aB gn) (ag gn) .none Sy Sz SA Sv Mg SD),Sw⟩) (c20:PySem.W.codeIn K Mg "sign_from"=true) (k20:PySem.W.keepIn K (.ref G')=true)
  (a21:PySem.W.nsIn K mainGlobals "sign_growth"=some (some (.ref Ha))) (l21:K.lookup Ha=some ⟨SG,SE,.func (PySem.W.fnOf "sign_growth" "sign_growth" (aD bY) (aB bY) (ag bY) .none Mi Mj Mk Mh (.ref tu) Ml),SF⟩) (c21:PySem.W.codeIn K (.ref tu) "sign_growth"=true) (k21:PySem.W.keepIn K (.ref Ha)=true)
  (lc21:K.lookup tu=some ⟨.type "code",NM,.fields mS,NN⟩) (lv21:mS[11]? =some (.ref kK))
  (le21:((match (mS[11]? :Option Value) with | some (.ref P')=>P' == kK | _=>false)&&(match mS.getD 18 .none with | .str _ _=>true | _=>false)&&(match mS.getD 7 .none with | .int _ _=>true | _=>false)&&(match mS.getD 9 .none with | .bool _=>true | _=>false)&&(match mS.getD 10 .none with | .int _ _=>true | _=>false)&&tu != kK)=true)
  (ln21:K.lookup kK=none) (lt21:h.get? kK=some (PySem.W.tabObj #[]))
  (a22:PySem.W.nsIn K mainGlobals "alike_growth"=some (some (.ref Hb))) (l22:K.lookup Hb=some ⟨SK,SH,.func (PySem.W.fnOf "alike_growth" "alike_growth" (aD bQ) (aB bQ) (ag bQ) .none Mn Mp Mq Mm (.ref tD) Mr),SJ⟩) (c22:PySem.W.codeIn K (.ref tD) "alike_growth"=true) (k22:PySem.W.keepIn K (.ref Hb)=true)
  (lc22:K.lookup tD=some ⟨.type "code",NP,.fields mT,NQ⟩) (lv22:mT[11]? =some (.ref kN))
  (le22:((match (mT[11]? :Option Value) with | some (.ref P')=>P' == kN | _=>false)&&(match mT.getD 18 .none with | .str _ _=>true | _=>false)&&(match mT.getD 7 .none with | .int _ _=>true | _=>false)&&(match mT.getD 9 .none with | .bool _=>true | _=>false)&&(match mT.getD 10 .none with | .int _ _=>true | _=>false)&&tD != kN)=true)
  (ln22:K.lookup kN=none) (lt22:h.get? kN=some (PySem.W.tabObj #[]))
  (a23:PySem.W.nsIn K mainGlobals "atom_growth"=some (some (.ref Hc))) (l23:K.lookup Hc=some ⟨SQ,SM,.func (PySem.W.fnOf "atom_growth" "atom_growth" (aD dw) (aB dw) (ag dw) .none SR SU SV SN Ms SW),SO⟩) (c23:PySem.W.codeIn K Ms "atom_growth"=true) (k23:PySem.W.keepIn K (.ref Hc)=true)
  (a24:PySem.W.nsIn K mainGlobals "atom_of"=some (some (.ref Hd))) (l24:K.lookup Hd=some ⟨S_,SX,.func (PySem.W.fnOf "atom_of" "atom_of" (aD cq) (aB cq) (ag cq) (.ref tE) FG FH FI FF (.ref yu) FJ),SY⟩) (c24:PySem.W.codeIn K (.ref yu) "atom_of"=true) (k24:PySem.W.keepIn K (.ref Hd)=true)
  (ld24:K.lookup tE=some ⟨NR,NS,.seq #[(.int 2000 He)] S0,NT⟩)
  (a25:PySem.W.nsIn K mainGlobals "_law_feed"=some (some (.ref Hf))) (l25:K.lookup Hf=some ⟨S6,S3,.func (PySem.W.fnOf "_law_feed" "_law_feed" (aD gT) (aB gT) (ag gT) .none S7 S8 S9 S4 Mt S'),S5⟩) (c25:PySem.W.codeIn K Mt "_law_feed"=true) (k25:PySem.W.keepIn K (.ref Hf)=true)
  (a26:PySem.W.nsIn K mainGlobals "_law_draw"=some (some (.ref Hg))) (l26:K.lookup Hg=some ⟨Te,Ta,.func (PySem.W.fnOf "_law_draw" "_law_draw" (aD iy) (aB iy) (ag iy) .none Tg Ti Tj Tb Mu Tn),Td⟩) (c26:PySem.W.codeIn K Mu "_law_draw"=true) (k26:PySem.W.keepIn K (.ref Hg)=true)
  (a27:PySem.W.nsIn K mainGlobals "_law_after"=some (some (.ref Hh))) (l27:K.lookup Hh=some ⟨Tr,To,.func (PySem.W.fnOf "_law_after" "_law_after" (aD gZ) (aB gZ) (ag gZ) .none Ts Tt Tv Tp Mv Tw),Tq⟩) (c27:PySem.W.codeIn K Mv "_law_after"=true) (k27:PySem.W.keepIn K (.ref Hh)=true)
  (a28:PySem.W.nsIn K mainGlobals "_law_names"=some (some (.ref Hi))) (l28:K.lookup Hi=some ⟨TF,Tx,.func (PySem.W.fnOf "_law_names" "_law_names" (aD d7) (aB d7) (ag d7) .none TH TJ TK Tz Mw TL),TC⟩) (c28:PySem.W.codeIn K Mw "_law_names"=true) (k28:PySem.W.keepIn K (.ref Hi)=true)
  (a29:PySem.W.nsIn K mainGlobals "_law_great"=some (some (.ref Hj))) (l29:K.lookup Hj=some ⟨TU,TN,.func (PySem.W.fnOf "_law_great" "_law_great" (aD g_) (aB g_) (ag g_) .none TV TX TY TQ Mx T_),TR⟩) (c29:PySem.W.codeIn K Mx "_law_great"=true) (k29:PySem.W.keepIn K (.ref Hj)=true)
  (a30:PySem.W.nsIn K mainGlobals "_law_term"=some (some (.ref Hk))) (l30:K.lookup Hk=some ⟨T5,T2,.func (PySem.W.fnOf "_law_term" "_law_term" (aD gU) (aB gU) (ag gU) .none T6 T7 T9 T3 Mz Ua),T4⟩) (c30:PySem.W.codeIn K Mz "_law_term"=true) (k30:PySem.W.keepIn K (.ref Hk)=true)
  (a31:PySem.W.nsIn K mainGlobals "_law_worth"=some (some (.ref Hl))) (l31:K.lookup Hl=some ⟨Ue,Ub,.func (PySem.W.fnOf "_law_worth" "_law_worth" (aD fD) (aB fD) (ag fD) .none Ug Uh Ui Uc MA Uj),Ud⟩) (c31:PySem.W.codeIn K MA "_law_worth"=true) (k31:PySem.W.keepIn K (.ref Hl)=true)
  (a32:PySem.W.nsIn K mainGlobals "_law_says"=some (some (.ref f32))) (l32:K.lookup f32=some ⟨Uo,Uk,.func (PySem.W.fnOf "_law_says" "_law_says" (aD gV) (aB gV) (ag gV) .none Up Uq Ur Ul MB Us),Um⟩) (c32:PySem.W.codeIn K MB "_law_says"=true) (k32:PySem.W.keepIn K (.ref f32)=true)
  (a33:PySem.W.nsIn K mainGlobals "_law_formed"=some (some (.ref Hm))) (l33:K.lookup Hm=some ⟨Uw,Ut,.func (PySem.W.fnOf "_law_formed" "_law_formed" (aD eP) (aB eP) (ag eP) .none Ux Uy Uz Uu MC UA),Uv⟩) (c33:PySem.W.codeIn K MC "_law_formed"=true) (k33:PySem.W.keepIn K (.ref Hm)=true)
  (a34:PySem.W.nsIn K mainGlobals "_law_near"=some (some (.ref Hn))) (l34:K.lookup Hn=some ⟨UE,UB,.func (PySem.W.fnOf "_law_near" "_law_near" (aD iz) (aB iz) (ag iz) .none UG UH UI UC ME UJ),UD⟩) (c34:PySem.W.codeIn K ME "_law_near"=true) (k34:PySem.W.keepIn K (.ref Hn)=true)
  (a35:PySem.W.nsIn K mainGlobals "law"=some (some (.ref MF))) (l35:K.lookup MF=some ⟨UM,UK,.func (PySem.W.fnOf "law" "law" (aD fR) (aB fR) (ag fR) .none MH MI MJ MG FK MK),UL⟩) (c35:PySem.W.codeIn K FK "law"=true) (k35:PySem.W.keepIn K (.ref MF)=true)
  (z0:PySem.W.nsIn K mainGlobals "range"=some none)
  (z1:PySem.W.nsIn K mainGlobals "tuple"=some none)
  (z2:PySem.W.nsIn K mainGlobals "len"=some none)
  (z3:PySem.W.nsIn K mainGlobals "list"=some none)
  (z4:PySem.W.nsIn K mainGlobals "dict"=some none)
  (z5:PySem.W.nsIn K mainGlobals "sum"=some none)
  (z6:PySem.W.nsIn K mainGlobals "zip"=some none)
  (z7:PySem.W.nsIn K mainGlobals "enumerate"=some none)
  (z8:PySem.W.nsIn K mainGlobals "reversed"=some none)
  (z9:PySem.W.nsIn K mainGlobals "sorted"=some none)
  (z10:PySem.W.nsIn K mainGlobals "abs"=some none)
  (z11:PySem.W.nsIn K mainGlobals "bool"=some none)
  (z12:PySem.W.nsIn K mainGlobals "set"=some none)
  (z13:PySem.W.nsIn K mainGlobals "isinstance"=some none)
  (z14:PySem.W.nsIn K mainGlobals "max"=some none)
  (z15:PySem.W.nsIn K mainGlobals "all"=some none)
  (tne01:kH≠kI)
  (tne02:kH≠kK)
  (tne03:kH≠kN)
  (tne12:kI≠kK)
  (tne13:kI≠kN)
  (tne23:kK≠kN)
  {pd:Addr} {ML:Array DictEntry} {pn:Nat}
  {A4:Addr} {NU:Nat} {MM:_}
  {A5:Addr} {NV:Nat} {MN:_} {MO:_}
  {A6:Addr} {NW:Nat} {MP:_} {MQ:_}
  {A7:Addr} {NX:Nat} {MS:_}
  {A8:Addr} {NY:Nat} {MT:_}
  (p_a:PySem.W.nsIn K mainGlobals "PART_SPOTS"=some (some (.ref pd))) (p_l:K.lookup pd=some ⟨.type "dict",none,.dict ML pn, #[]⟩) (p_k:PySem.W.KeysLit w.params ML.toList) (p_s:(pd == sysModules)=false)
  (pq_no:PySem.W.nsIn K pd "not"=some (some (.ref A4))) (pr_no:K.lookup A4=some ⟨.type "tuple",none,.seq #[.int 1 MM] NU, #[]⟩)
  (pq_an:PySem.W.nsIn K pd "and"=some (some (.ref A5))) (pr_an:K.lookup A5=some ⟨.type "tuple",none,.seq #[.int 1 MN,.int 2 MO] NV, #[]⟩)
  (pq_or:PySem.W.nsIn K pd "or"=some (some (.ref A6))) (pr_or:K.lookup A6=some ⟨.type "tuple",none,.seq #[.int 1 MP,.int 2 MQ] NW, #[]⟩)
  (pq_so:PySem.W.nsIn K pd "some"=some (some (.ref A7))) (pr_so:K.lookup A7=some ⟨.type "tuple",none,.seq #[.int 2 MS] NX, #[]⟩)
  (pq_ea:PySem.W.nsIn K pd "each"=some (some (.ref A8))) (pr_ea:K.lookup A8=some ⟨.type "tuple",none,.seq #[.int 2 MT] NY, #[]⟩)
  (pq_same:PySem.W.nsIn K pd "same"=some none)
  (pq_less:PySem.W.nsIn K pd "less"=some none)
  (pq_sign:PySem.W.nsIn K pd "sign"=some none)
  (pq_alike:PySem.W.nsIn K pd "alike"=some none)
  {sd:Addr} {MU:Array DictEntry} {sn:Nat}
  {A9:Addr} {NZ:Nat} {MV:_} {MW:_}
  {A':Addr} {N_:Nat} {MX:_} {MY:_}
  {Ba:Addr} {N0:Nat} {MZ:_}
  {Bb:Addr} {N1:Nat} {M_:_} {M0:_}
  (s_a:PySem.W.nsIn K mainGlobals "TERM_SPOTS"=some (some (.ref sd))) (s_l:K.lookup sd=some ⟨.type "dict",none,.dict MU sn, #[]⟩) (s_k:PySem.W.KeysLit w.params MU.toList) (s_s:(sd == sysModules)=false)
  (sq_sa:PySem.W.nsIn K sd "same"=some (some (.ref A9))) (sr_sa:K.lookup A9=some ⟨.type "tuple",none,.seq #[.int 1 MV,.int 2 MW] NZ, #[]⟩)
  (sq_le:PySem.W.nsIn K sd "less"=some (some (.ref A'))) (sr_le:K.lookup A'=some ⟨.type "tuple",none,.seq #[.int 1 MX,.int 2 MY] N_, #[]⟩)
  (sq_si:PySem.W.nsIn K sd "sign"=some (some (.ref Ba))) (sr_si:K.lookup Ba=some ⟨.type "tuple",none,.seq #[.int 2 MZ] N0, #[]⟩)
  (sq_al:PySem.W.nsIn K sd "alike"=some (some (.ref Bb))) (sr_al:K.lookup Bb=some ⟨.type "tuple",none,.seq #[.int 2 M_,.int 4 M0] N1, #[]⟩)
  (sq_not:PySem.W.nsIn K sd "not"=some none)
  (sq_and:PySem.W.nsIn K sd "and"=some none)
  (sq_or:PySem.W.nsIn K sd "or"=some none)
  (sq_some:PySem.W.nsIn K sd "some"=some none)
  (sq_each:PySem.W.nsIn K sd "each"=some none)
  :∃(fd:FuncData) (ts:List Addr),(∀T∈ts,(∃c,PySem.W.CodeHd h c T)∧h.get? T=some (PySem.W.tabObj #[])∧K.lookup T=none)∧(∀(s:Shared) (v:Value),BindsTo s fd ⟨[v],[]⟩ [("_law_script",v)])∧∀base:Heap,K.In base→base.Ns mainGlobals mg→fQ mg base→aS l.prog w K mg base bp 6 fa fd ["_law_script"] (vL K ts):=by
 have e:=hfa.symm.trans (PySem.W.mg_of X G a35)
 cases e
 have F0:=bq (st:=fz) l0 c0 k0
 have b0:=F0.binds (ps:=["base","number"]) fun _ _ _ _ _ _ us hl=>ln2 us hl fun _ _=>rfl
 have F1:=bq (st:=cL) l1 c1 k1
 have b1:=F1.binds (ps:=["base","many"]) fun _ _ _ _ _ _ us hl=>ln2 us hl fun _ _=>rfl
 have F2:=bq (st:=fB) l2 c2 k2
 have b2:=F2.binds (ps:=["moves","room","figures"]) fun _ _ _ _ _ _ us hl=>lO us hl fun _ _ _=>rfl
 have F3:=jA (st:=bC) l3 c3 k3
 have b3:Binds K (PySem.W.fnOf "grown_from" "grown_from" (aD bC) (aB bC) (ag bC) (.ref zM) LQ LS LU LP (.ref Ea) LV) ["first","many","onward","is_yes","most"] []:=fun s us hK hl=>P0 us (by rw[List.append_nil] at hl;exact hl) fun _ _ _ _ _=>BindsTo.of_defaults (T:=zM) rfl (hK _ _ ld3) rfl rfl rfl
 have d3:∃t,Binds K (PySem.W.fnOf "grown_from" "grown_from" (aD bC) (aB bC) (ag bC) (.ref zM) LQ LS LU LP (.ref Ea) LV) ["first","many","onward","is_yes","most"] [.int 2000 t]:=⟨LW,fun s us hK hl=>have h3:us.length=4:=(by simpa using hl);D9 us h3 fun _ _ _ _=>BindsTo.of_defaults (T:=zM) rfl (hK _ _ ld3) rfl rfl rfl⟩
 have F4:=bq (st:=dZ) l4 c4 k4
 have b4:=F4.binds (ps:=["base","names","growth","most"]) fun _ _ _ _ _ _ us hl=>D9 us hl fun _ _ _ _=>rfl
 have F5:=bq (st:=cM) l5 c5 k5
 have b5:=F5.binds (ps:=["saying"]) fun _ _ _ _ _ _ us hl=>mU us hl fun _=>rfl
 have F6:=bq (st:=df) l6 c6 k6
 have b6:=F6.binds (ps:=["saying"]) fun _ _ _ _ _ _ us hl=>mU us hl fun _=>rfl
 have F7:=bq (st:=cA) l7 c7 k7
 have b7:=F7.binds (ps:=["saying"]) fun _ _ _ _ _ _ us hl=>mU us hl fun _=>rfl
 have F8:=bq (st:=cm) l8 c8 k8
 have b8:=F8.binds (ps:=["told","place","saying"]) fun _ _ _ _ _ _ us hl=>lO us hl fun _ _ _=>rfl
 have F9:=bq (st:=dg) l9 c9 k9
 have b9:=F9.binds (ps:=["saying","inner"]) fun _ _ _ _ _ _ us hl=>ln2 us hl fun _ _=>rfl
 have F10:=bq (st:=cB) l10 c10 k10
 have b10:=F10.binds (ps:=["saying"]) fun _ _ _ _ _ _ us hl=>mU us hl fun _=>rfl
 have F11:=bq (st:=d_) l11 c11 k11
 have X4:=F11.binds (ps:=["saying"]) fun _ _ _ _ _ _ us hl=>mU us hl fun _=>rfl
 have F12:=bq (st:=eO) l12 c12 k12
 have X5:=F12.binds (ps:=["term","names"]) fun _ _ _ _ _ _ us hl=>ln2 us hl fun _ _=>rfl
 have F13:=bq (st:=gR) l13 c13 k13
 have X6:=F13.binds (ps:=["letter","times"]) fun _ _ _ _ _ _ us hl=>ln2 us hl fun _ _=>rfl
 have F14:=bq (st:=cN) l14 c14 k14
 have X7:=F14.binds (ps:=["base","times"]) fun _ _ _ _ _ _ us hl=>ln2 us hl fun _ _=>rfl
 have F15:=bq (st:=cO) l15 c15 k15
 have X8:=F15.binds (ps:=["saying","names"]) fun _ _ _ _ _ _ us hl=>ln2 us hl fun _ _=>rfl
 have F16:=bq (st:=dv) l16 c16 k16
 have X9:=F16.binds (ps:=["base","room","total"]) fun _ _ _ _ _ _ us hl=>lO us hl fun _ _ _=>rfl
 have F17:=jA (st:=bz) l17 c17 k17
 have Qb:=j8 lc17 le17
 have Yb:Binds K (PySem.W.fnOf "same_growth" "same_growth" (aD bz) (aB bz) (ag bz) .none L6 L7 L8 L5 (.ref tj) L9) ["base","names","saying"] []:=.all fun us hl=>lO us hl fun _ _ _=>rfl
 have F18:=jA (st:=bA) l18 c18 k18
 have Qd:=j8 lc18 le18
 have Yc:Binds K (PySem.W.fnOf "less_growth" "less_growth" (aD bA) (aB bA) (ag bA) .none Mb Mc Md Ma (.ref tm) Me) ["base","names","saying"] []:=.all fun us hl=>lO us hl fun _ _ _=>rfl
 have F19:=bq (st:=fC) l19 c19 k19
 have Yd:=F19.binds (ps:=["base","row","pair","total"]) fun _ _ _ _ _ _ us hl=>D9 us hl fun _ _ _ _=>rfl
 have F20:=bq (st:=gn) l20 c20 k20
 have Ye:=F20.binds (ps:=["base","row","pair"]) fun _ _ _ _ _ _ us hl=>lO us hl fun _ _ _=>rfl
 have F21:=jA (st:=bY) l21 c21 k21
 have Qe:=j8 lc21 le21
 have Yf:Binds K (PySem.W.fnOf "sign_growth" "sign_growth" (aD bY) (aB bY) (ag bY) .none Mi Mj Mk Mh (.ref tu) Ml) ["world","names","saying"] []:=.all fun us hl=>lO us hl fun _ _ _=>rfl
 have F22:=jA (st:=bQ) l22 c22 k22
 have Qg:=j8 lc22 le22
 have Yg:Binds K (PySem.W.fnOf "alike_growth" "alike_growth" (aD bQ) (aB bQ) (ag bQ) .none Mn Mp Mq Mm (.ref tD) Mr) ["world","names","saying"] []:=.all fun us hl=>lO us hl fun _ _ _=>rfl
 have F23:=bq (st:=dw) l23 c23 k23
 have Yh:=F23.binds (ps:=["world","names","saying"]) fun _ _ _ _ _ _ us hl=>lO us hl fun _ _ _=>rfl
 have F24:=jA (st:=cq) l24 c24 k24
 have Yi:Binds K (PySem.W.fnOf "atom_of" "atom_of" (aD cq) (aB cq) (ag cq) (.ref tE) FG FH FI FF (.ref yu) FJ) ["world","saying","most"] []:=fun s us hK hl=>lO us (by rw[List.append_nil] at hl;exact hl) fun _ _ _=>BindsTo.of_defaults (T:=tE) rfl (hK _ _ ld24) rfl rfl rfl
 have Yj:∃t,Binds K (PySem.W.fnOf "atom_of" "atom_of" (aD cq) (aB cq) (ag cq) (.ref tE) FG FH FI FF (.ref yu) FJ) ["world","saying","most"] [.int 2000 t]:=⟨He,fun s us hK hl=>have h3:us.length=2:=(by simpa using hl);ln2 us h3 fun _ _=>BindsTo.of_defaults (T:=tE) rfl (hK _ _ ld24) rfl rfl rfl⟩
 have F25:=bq (st:=gT) l25 c25 k25
 have Yk:=F25.binds (ps:=["_law_script"]) fun _ _ _ _ _ _ us hl=>mU us hl fun _=>rfl
 have F26:=bq (st:=iy) l26 c26 k26
 have Yl:=F26.binds (ps:=["_law_feed_here","_law_many"]) fun _ _ _ _ _ _ us hl=>ln2 us hl fun _ _=>rfl
 have F27:=bq (st:=gZ) l27 c27 k27
 have Ym:=F27.binds (ps:=["_law_word"]) fun _ _ _ _ _ _ us hl=>mU us hl fun _=>rfl
 have F28:=bq (st:=d7) l28 c28 k28
 have Yn:=F28.binds (ps:=["_law_feed_here","_law_many"]) fun _ _ _ _ _ _ us hl=>ln2 us hl fun _ _=>rfl
 have F29:=bq (st:=g_) l29 c29 k29
 have Yo:=F29.binds (ps:=["_law_feed_here"]) fun _ _ _ _ _ _ us hl=>mU us hl fun _=>rfl
 have F30:=bq (st:=gU) l30 c30 k30
 have Yp:=F30.binds (ps:=["_law_feed_here","_law_names_here"]) fun _ _ _ _ _ _ us hl=>ln2 us hl fun _ _=>rfl
 have F31:=bq (st:=fD) l31 c31 k31
 have Yq:=F31.binds (ps:=["_law_term_here","_law_values"]) fun _ _ _ _ _ _ us hl=>ln2 us hl fun _ _=>rfl
 have F32:=bq (st:=gV) l32 c32 k32
 have Yr:=F32.binds (ps:=["_law_base","_law_machine","_law_numbers"]) fun _ _ _ _ _ _ us hl=>lO us hl fun _ _ _=>rfl
 have F33:=bq (st:=eP) l33 c33 k33
 have Ys:=F33.binds (ps:=["_law_base","_law_machine","_law_names_here"]) fun _ _ _ _ _ _ us hl=>lO us hl fun _ _ _=>rfl
 have F34:=bq (st:=iz) l34 c34 k34
 have Yu:=F34.binds (ps:=["_law_feed_here","_law_one","_law_other","_law_values"]) fun _ _ _ _ _ _ us hl=>D9 us hl fun _ _ _ _=>rfl
 have F35:=bq (st:=fR) l35 c35 k35
 have T:Txt K mg ⟨f0,_,f1,_,f2,_,f3,_,Ea,f4,_,f5,_,f6,_,f7,_,f8,_,f9,_,G_,_,f11,_,G0,_,G3,_,G4,_,G5,_,G6,_,G7,_,tj,kH,G8,_,tm,kI,G9,_,G',_,Ha,_,tu,kK,Hb,_,tD,kN,Hc,_,Hd,_,yu,Hf,_,Hg,_,Hh,_,Hi,_,Hj,_,Hk,_,Hl,_,f32,_,Hm,_,Hn,_,fa,_⟩:=⟨F0,PySem.W.mg_of X G a0,k0,b0,F1,PySem.W.mg_of X G a1,k1,b1,F2,PySem.W.mg_of X G a2,k2,b2,F3,PySem.W.mg_of X G a3,k3,b3,d3,F4,PySem.W.mg_of X G a4,k4,b4,F5,PySem.W.mg_of X G a5,k5,b5,F6,PySem.W.mg_of X G a6,k6,b6,F7,PySem.W.mg_of X G a7,k7,b7,F8,PySem.W.mg_of X G a8,k8,b8,F9,PySem.W.mg_of X G a9,k9,b9,F10,PySem.W.mg_of X G a10,k10,b10,F11,PySem.W.mg_of X G a11,k11,X4,F12,PySem.W.mg_of X G a12,k12,X5,F13,PySem.W.mg_of X G a13,k13,X6,F14,PySem.W.mg_of X G a14,k14,X7,F15,PySem.W.mg_of X G a15,k15,X8,F16,PySem.W.mg_of X G a16,k16,X9,F17,Qb,PySem.W.mg_of X G a17,k17,Yb,F18,Qd,PySem.W.mg_of X G a18,k18,Yc,F19,PySem.W.mg_of X G a19,k19,Yd,F20,PySem.W.mg_of X G a20,k20,Ye,F21,Qe,PySem.W.mg_of X G a21,k21,Yf,F22,Qg,PySem.W.mg_of X G a22,k22,Yg,F23,PySem.W.mg_of X G a23,k23,Yh,F24,PySem.W.mg_of X G a24,k24,Yi,Yj,F25,PySem.W.mg_of X G a25,k25,Yk,F26,PySem.W.mg_of X G a26,k26,Yl,F27,PySem.W.mg_of X G a27,k27,Ym,F28,PySem.W.mg_of X G a28,k28,Yn,F29,PySem.W.mg_of X G a29,k29,Yo,F30,PySem.W.mg_of X G a30,k30,Yp,F31,PySem.W.mg_of X G a31,k31,Yq,F32,PySem.W.mg_of X G a32,k32,Yr,F33,PySem.W.mg_of X G a33,k33,Ys,F34,PySem.W.mg_of X G a34,k34,Yu,F35,PySem.W.mg_of X G a35,PySem.W.mg_none_of X G z0,PySem.W.mg_none_of X G z1,PySem.W.mg_none_of X G z2,PySem.W.mg_none_of X G z3,PySem.W.mg_none_of X G z4,PySem.W.mg_none_of X G z5,PySem.W.mg_none_of X G z6,PySem.W.mg_none_of X G z7,PySem.W.mg_none_of X G z8,PySem.W.mg_none_of X G z9,PySem.W.mg_none_of X G z10,PySem.W.mg_none_of X G z11,PySem.W.mg_none_of X G z12,PySem.W.mg_none_of X G z13,PySem.W.mg_none_of X G z14,PySem.W.mg_none_of X G z15,tne01,tne02,tne03,tne12,tne13,tne23⟩
 have Dp:lj K w.params pd (cY ⟨pd,A4,A5,A6,A7,A8⟩):=⟨⟨ML,pn,p_l,p_k,by
  intro x r hm
  simp only[cY,List.mem_cons,List.mem_nil_iff,or_false,Prod.mk.injEq] at hm
  rcases hm with⟨rfl,rfl⟩ | ⟨rfl,rfl⟩ | ⟨rfl,rfl⟩ | ⟨rfl,rfl⟩ | ⟨rfl,rfl⟩ | ⟨rfl,rfl⟩ | ⟨rfl,rfl⟩ | ⟨rfl,rfl⟩ | ⟨rfl,rfl⟩
  ·rw[PySem.W.find_K p_l pq_no];exact rfl
  ·rw[PySem.W.find_K p_l pq_an];exact rfl
  ·rw[PySem.W.find_K p_l pq_or];exact rfl
  ·rw[PySem.W.find_K p_l pq_so];exact rfl
  ·rw[PySem.W.find_K p_l pq_ea];exact rfl
  ·rw[PySem.W.find_K p_l pq_same];exact True.intro
  ·rw[PySem.W.find_K p_l pq_less];exact True.intro
  ·rw[PySem.W.find_K p_l pq_sign];exact True.intro
  ·rw[PySem.W.find_K p_l pq_alike];exact True.intro⟩,p_s⟩
 have U:iR K w.params mg ⟨pd,A4,A5,A6,A7,A8⟩:=⟨PySem.W.mg_of X G p_a,Dp,fun H=>fP (us:=[.int 1 _]) pr_no (.cons ⟨_,rfl⟩ (.nil)) (by decide),fun H=>fP (us:=[.int 1 _,.int 2 _]) pr_an (.cons ⟨_,rfl⟩ (.cons ⟨_,rfl⟩ (.nil))) (by decide),fun H=>fP (us:=[.int 1 _,.int 2 _]) pr_or (.cons ⟨_,rfl⟩ (.cons ⟨_,rfl⟩ (.nil))) (by decide),fun H=>fP (us:=[.int 2 _]) pr_so (.cons ⟨_,rfl⟩ (.nil)) (by decide),fun H=>fP (us:=[.int 2 _]) pr_ea (.cons ⟨_,rfl⟩ (.nil)) (by decide)⟩
 have Ds:lj K w.params sd (cZ ⟨sd,A9,A',Ba,Bb⟩):=⟨⟨MU,sn,s_l,s_k,by
  intro x r hm
  simp only[cZ,List.mem_cons,List.mem_nil_iff,or_false,Prod.mk.injEq] at hm
  rcases hm with⟨rfl,rfl⟩ | ⟨rfl,rfl⟩ | ⟨rfl,rfl⟩ | ⟨rfl,rfl⟩ | ⟨rfl,rfl⟩ | ⟨rfl,rfl⟩ | ⟨rfl,rfl⟩ | ⟨rfl,rfl⟩ | ⟨rfl,rfl⟩
  ·rw[PySem.W.find_K s_l sq_sa];exact rfl
  ·rw[PySem.W.find_K s_l sq_le];exact rfl
  ·rw[PySem.W.find_K s_l sq_si];exact rfl
  ·rw[PySem.W.find_K s_l sq_al];exact rfl
  ·rw[PySem.W.find_K s_l sq_not];exact True.intro
  ·rw[PySem.W.find_K s_l sq_and];exact True.intro
  ·rw[PySem.W.find_K s_l sq_or];exact True.intro
  ·rw[PySem.W.find_K s_l sq_some];exact True.intro
  ·rw[PySem.W.find_K s_l sq_each];exact True.intro⟩,s_s⟩
 have Y:jx K w.params mg ⟨sd,A9,A',Ba,Bb⟩:=⟨PySem.W.mg_of X G s_a,Ds,fun H=>fP (us:=[.int 1 _,.int 2 _]) sr_sa (.cons ⟨_,rfl⟩ (.cons ⟨_,rfl⟩ (.nil))) (by decide),fun H=>fP (us:=[.int 1 _,.int 2 _]) sr_le (.cons ⟨_,rfl⟩ (.cons ⟨_,rfl⟩ (.nil))) (by decide),fun H=>fP (us:=[.int 2 _]) sr_si (.cons ⟨_,rfl⟩ (.nil)) (by decide),fun H=>fP (us:=[.int 2 _,.int 4 _]) sr_al (.cons ⟨_,rfl⟩ (.cons ⟨_,rfl⟩ (.nil))) (by decide)⟩
 exact⟨PySem.W.fnOf "law" "law" (aD fR) (aB fR) (ag fR) .none MH MI MJ MG FK MK,[kH,kI,kK,kN],(List.forall_mem_cons.mpr ⟨⟨⟨_,PySem.W.codeHd_of_K X Qb⟩,lt17,ln17⟩,(List.forall_mem_cons.mpr ⟨⟨⟨_,PySem.W.codeHd_of_K X Qd⟩,lt18,ln18⟩,(List.forall_mem_cons.mpr ⟨⟨⟨_,PySem.W.codeHd_of_K X Qe⟩,lt21,ln21⟩,(List.forall_mem_cons.mpr ⟨⟨⟨_,PySem.W.codeHd_of_K X Qg⟩,lt22,ln22⟩,(fun _ h=>nomatch h)⟩)⟩)⟩)⟩),fun s v=>.of_eq rfl,fun base _ _ hB=>Ll T hB U Y⟩
theorem walk {l:PySem.W.OpenLaw} {q:Program} {loose:List Str} {XP:(Str→Option Value)→Heap→Prop} {YP:World→Heap→Prop} {d:DefRec} {K:Params→PySem.W.Frag} (hn:l.most=some 63) (hdf:d.params.defaults=[])
  (hY:∀(w:World) (h:Heap),YP w h→(K w.params).In h)
  (F:∀(w:World) (mg:Str→Option Value) (fa:Addr) (h:Heap),(K w.params).In h→h.Ns mainGlobals mg→mg d.name=some (.ref fa)→YP w h→
   ∃(fd:FuncData) (ts:List Addr),(∀T∈ts,(∃c,PySem.W.CodeHd h c T)∧h.get? T=some (PySem.W.tabObj #[])∧(K w.params).lookup T=none)∧(∀(s:Shared) (u:Value),BindsTo s fd ⟨[u],[]⟩ [("_law_script",u)])∧
    ∀base:Heap,(K w.params).In base→base.Ns mainGlobals mg→fQ mg base→aS l.prog w (K w.params) mg base bp 6 fa fd ["_law_script"] (vL (K w.params) ts)):
  PySem.W.WalkO q loose XP YP l.row.toRowW d [] (fun f vs=>PySem.call f vs):=
 L2.EM (n:=63) (k:=6) (x:="_law_script") (sp:=fun w ts=>vL (K w.params) ts) hn (by decide) hdf ⟨rfl,by decide,by decide,rfl⟩ hY F (fun _ _ a ns _ hl hO hS=>⟨a,ns,rfl,hS,hl,hO,fun _=>rfl⟩)
end My
namespace PySem.W.Fast
theorem tw2167497694743841128 : True := trivial
theorem tw16072528195972299423 : True := trivial
theorem tw9261931159684702409 : True := trivial
theorem tw2112705116503836294 : True := trivial
theorem tw14464854958852591991 : True := trivial
theorem tw4090607440734397209 : True := trivial
theorem tw7178395751818374973 : True := trivial
theorem tw14318901169846576518 : True := trivial
theorem tw5301429690532578054 : True := trivial
theorem tw10294963237892225717 : True := trivial
theorem tw10942772153758769605 : True := trivial
theorem tw4287812989764492285 : True := trivial
theorem tw15833270833812160000 : True := trivial
theorem tw10049867460312000273 : True := trivial
theorem tw16841667756587993110 : True := trivial
theorem tw14272392592997213648 : True := trivial
theorem tw2404400675823417547 : True := trivial
theorem tw15984133016289794080 : True := trivial
theorem tw4633579178458225896 : True := trivial
theorem tw7856010244959275565 : True := trivial
theorem tw4290661855924457490 : True := trivial
theorem tw5925197181645231178 : True := trivial
theorem tw3266409770064966055 : True := trivial
theorem tw8404389137433537761 : True := trivial
theorem tw2791843829078384271 : True := trivial
theorem tw5810975712749990066 : True := trivial
theorem tw6032914072771944084 : True := trivial
theorem tw14868840991452305797 : True := trivial
theorem tw5003329973026595020 : True := trivial
theorem tw9644298280028506686 : True := trivial
theorem tw950814602362045763 : True := trivial
theorem tw16581924809032117962 : True := trivial
theorem tw13561137275613195080 : True := trivial
theorem tw10660589857596378461 : True := trivial
theorem tw7091508067609063057 : True := trivial
theorem tw16893995389618965245 : True := trivial
theorem tw14298176457440888909 : True := trivial
theorem tw7043938570083549161 : True := trivial
theorem tw6976780278130972376 : True := trivial
theorem tw8922123035205870872 : True := trivial
theorem tw3127153764813765204 : True := trivial
theorem tw12577668308615510066 : True := trivial
theorem tw1617165216204958021 : True := trivial
theorem tw5353215057900684969 : True := trivial
theorem tw5901158570862782416 : True := trivial
theorem tw3289177168396478123 : True := trivial
theorem tw3006472458851389945 : True := trivial
theorem tw4076935350359152743 : True := trivial
theorem tw15552497153028815587 : True := trivial
theorem tw13418190067606828361 : True := trivial
theorem tw10592059975852688247 : True := trivial
theorem tw3536728393692672142 : True := trivial
theorem tw1016343415323685002 : True := trivial
theorem tw17133336259880312537 : True := trivial
theorem tw4081957529214911655 : True := trivial
theorem tw5296981696444012849 : True := trivial
theorem tw6845999790998043545 : True := trivial
theorem tw969003858369698846 : True := trivial
theorem tw4984451090877127552 : True := trivial
theorem tw329960696171134674 : True := trivial
theorem tw17985150197835427082 : True := trivial
theorem tw1265321560164737560 : True := trivial
theorem tw1472744844438944882 : True := trivial
theorem tw17727810702245417425 : True := trivial
theorem tw5985289013971499927 : True := trivial
theorem tw10364807179358071217 : True := trivial
theorem tw150572644387534212 : True := trivial
theorem tw10811526860344579923 : True := trivial
theorem tw2180314930339945779 : True := trivial
theorem tw7368480810627425982 : True := trivial
theorem tw8465453379500138015 : True := trivial
theorem tw10875688091716451376 : True := trivial
theorem tw9805977099171101291 : True := trivial
theorem tw2033054699127804920 : True := trivial
theorem tw8052833846116825565 : True := trivial
theorem tw4963403035355465777 : True := trivial
theorem tw8193961757626731479 : True := trivial
theorem tw541220307236845801 : True := trivial
theorem tw9169204716771403358 : True := trivial
theorem tw9931188806138555470 : True := trivial
theorem tw6254004153504170863 : True := trivial
theorem tw4496033541703184609 : True := trivial
theorem tw10472149546694304300 : True := trivial
theorem tw9437719121001217095 : True := trivial
theorem tw15224710803160894365 : True := trivial
theorem tw9408698150699656538 : True := trivial
theorem tw3329141016407896273 : True := trivial
theorem tw4464960539347057986 : True := trivial
theorem tw13214235284171974332 : True := trivial
theorem tw6880599595774382286 : True := trivial
theorem tw15526594818901275498 : True := trivial
theorem tw554342515886878108 : True := trivial
theorem tw15376787889963717428 : True := trivial
theorem tw11400803660691561968 : True := trivial
theorem tw2154139013975658635 : True := trivial
theorem tw11060489971303769040 : True := trivial
theorem tw6525486287234903215 : True := trivial
theorem tw7725155916958315058 : True := trivial
theorem tw672315027253643683 : True := trivial
theorem tw495769969368860498 : True := trivial
theorem tw10296607973073757208 : True := trivial
theorem tw12100876819055274297 : True := trivial
theorem tw17545904883637157858 : True := trivial
theorem tw9311430748029351914 : True := trivial
theorem tw2123308027027020210 : True := trivial
theorem tw7366767949098061174 : True := trivial
theorem tw18351020869655657090 : True := trivial
theorem tw18179385756303667740 : True := trivial
theorem tw13246190084212361408 : True := trivial
theorem tw3384505935745397213 : True := trivial
theorem tw11977367028036429070 : True := trivial
theorem tw12500410271410731921 : True := trivial
theorem tw7325177508990801512 : True := trivial
theorem tw9599891966632733024 : True := trivial
theorem tw9064489740183617832 : True := trivial
theorem tw5264433262404817465 : True := trivial
theorem tw4011637866860274391 : True := trivial
end PySem.W.Fast
open PySem PySem.W PyProof.Rows
set_option maxRecDepth 100000 in
set_option maxHeartbeats 0 in
theorem PySem.Challenge.cw_figurejudge_k33_same_and_less_by_sums_holds : PySem.Challenge.rw_figurejudge_k33_same_and_less_by_sums.Holds := by
 w_on;o_law;k_head;(case hw=>w_witness2)
 k_fill
 refine My.walk (l:=PySem.Challenge.rw_figurejudge_k33_same_and_less_by_sums) rfl rfl (fun w h Y=>PySem.W.km_in_of Y) ?F
 case F=>
  intro w mg fa h KX G hmg Y
  refine' My.all_mk KX G hmg ?a0 ?l0 ?c0 ?k0 ?a1 ?l1 ?c1 ?k1 ?a2 ?l2 ?c2 ?k2 ?a3 ?l3 ?c3 ?k3 ?ld3 ?a4 ?l4 ?c4 ?k4 ?a5 ?l5 ?c5 ?k5 ?a6 ?l6 ?c6 ?k6 ?a7 ?l7 ?c7 ?k7 ?a8 ?l8 ?c8 ?k8 ?a9 ?l9 ?c9 ?k9 ?a10 ?l10 ?c10 ?k10 ?a11 ?l11 ?c11 ?k11 ?a12 ?l12 ?c12 ?k12 ?a13 ?l13 ?c13 ?k13 ?a14 ?l14 ?c14 ?k14 ?a15 ?l15 ?c15 ?k15 ?a16 ?l16 ?c16 ?k16 ?a17 ?l17 ?c17 ?k17 ?lc17 ?lv17 ?le17 ?ln17 ?lt17 ?a18 ?l18 ?c18 ?k18 ?lc18 ?lv18 ?le18 ?ln18 ?lt18 ?a19 ?l19 ?c19 ?k19 ?a20 ?l20 ?c20 ?k20 ?a21 ?l21 ?c21 ?k21 ?lc21 ?lv21 ?le21 ?ln21 ?lt21 ?a22 ?l22 ?c22 ?k22 ?lc22 ?lv22 ?le22 ?ln22 ?lt22 ?a23 ?l23 ?c23 ?k23 ?a24 ?l24 ?c24 ?k24 ?ld24 ?a25 ?l25 ?c25 ?k25 ?a26 ?l26 ?c26 ?k26 ?a27 ?l27 ?c27 ?k27 ?a28 ?l28 ?c28 ?k28 ?a29 ?l29 ?c29 ?k29 ?a30 ?l30 ?c30 ?k30 ?a31 ?l31 ?c31 ?k31 ?a32 ?l32 ?c32 ?k32 ?a33 ?l33 ?c33 ?k33 ?a34 ?l34 ?c34 ?k34 ?a35 ?l35 ?c35 ?k35 ?z0 ?z1 ?z2 ?z3 ?z4 ?z5 ?z6 ?z7 ?z8 ?z9 ?z10 ?z11 ?z12 ?z13 ?z14 ?z15 ?tne01 ?tne02 ?tne03 ?tne12 ?tne13 ?tne23 ?p_a ?p_l ?p_k ?p_s ?pq_no ?pr_no ?pq_an ?pr_an ?pq_or ?pr_or ?pq_so ?pr_so ?pq_ea ?pr_ea ?pq_same ?pq_less ?pq_sign ?pq_alike ?s_a ?s_l ?s_k ?s_s ?sq_sa ?sr_sa ?sq_le ?sr_le ?sq_si ?sr_si ?sq_al ?sr_al ?sq_not ?sq_and ?sq_or ?sq_some ?sq_each
  (case a0=>k_is)
  (case l0=>k_is)
  (case c0=>k_is)
  (case k0=>k_is)
  (case a1=>k_is)
  (case l1=>k_is)
  (case c1=>k_is)
  (case k1=>k_is)
  (case a2=>k_is)
  (case l2=>k_is)
  (case c2=>k_is)
  (case k2=>k_is)
  (case a3=>k_is)
  (case l3=>k_is)
  (case c3=>k_is)
  (case k3=>k_is)
  (case ld3=>k_is)
  (case a4=>k_is)
  (case l4=>k_is)
  (case c4=>k_is)
  (case k4=>k_is)
  (case a5=>k_is)
  (case l5=>k_is)
  (case c5=>k_is)
  (case k5=>k_is)
  (case a6=>k_is)
  (case l6=>k_is)
  (case c6=>k_is)
  (case k6=>k_is)
  (case a7=>k_is)
  (case l7=>k_is)
  (case c7=>k_is)
  (case k7=>k_is)
  (case a8=>k_is)
  (case l8=>k_is)
  (case c8=>k_is)
  (case k8=>k_is)
  (case a9=>k_is)
  (case l9=>k_is)
  (case c9=>k_is)
  (case k9=>k_is)
  (case a10=>k_is)
  (case l10=>k_is)
  (case c10=>k_is)
  (case k10=>k_is)
  (case a11=>k_is)
  (case l11=>k_is)
  (case c11=>k_is)
  (case k11=>k_is)
  (case a12=>k_is)
  (case l12=>k_is)
  (case c12=>k_is)
  (case k12=>k_is)
  (case a13=>k_is)
  (case l13=>k_is)
  (case c13=>k_is)
  (case k13=>k_is)
  (case a14=>k_is)
  (case l14=>k_is)
  (case c14=>k_is)
  (case k14=>k_is)
  (case a15=>k_is)
  (case l15=>k_is)
  (case c15=>k_is)
  (case k15=>k_is)
  (case a16=>k_is)
  (case l16=>k_is)
  (case c16=>k_is)
  (case k16=>k_is)
  (case a17=>k_is)
  (case l17=>k_is)
  (case c17=>k_is)
  (case k17=>k_is)
  (case lc17=>k_is)
  (case lv17=>rfl)
  (case le17=>rfl)
  (case ln17=>kernel_rfl)
  (case lt17=>exact PySem.W.km_tabs_of Y _ (by decide))
  (case a18=>k_is)
  (case l18=>k_is)
  (case c18=>k_is)
  (case k18=>k_is)
  (case lc18=>k_is)
  (case lv18=>rfl)
  (case le18=>rfl)
  (case ln18=>kernel_rfl)
  (case lt18=>exact PySem.W.km_tabs_of Y _ (by decide))
  (case a19=>k_is)
  (case l19=>k_is)
  (case c19=>k_is)
  (case k19=>k_is)
  (case a20=>k_is)
  (case l20=>k_is)
  (case c20=>k_is)
  (case k20=>k_is)
  (case a21=>k_is)
  (case l21=>k_is)
  (case c21=>k_is)
  (case k21=>k_is)
  (case lc21=>k_is)
  (case lv21=>rfl)
  (case le21=>rfl)
  (case ln21=>kernel_rfl)
  (case lt21=>exact PySem.W.km_tabs_of Y _ (by decide))
  (case a22=>k_is)
  (case l22=>k_is)
  (case c22=>k_is)
  (case k22=>k_is)
  (case lc22=>k_is)
  (case lv22=>rfl)
  (case le22=>rfl)
  (case ln22=>kernel_rfl)
  (case lt22=>exact PySem.W.km_tabs_of Y _ (by decide))
  (case a23=>k_is)
  (case l23=>k_is)
  (case c23=>k_is)
  (case k23=>k_is)
  (case a24=>k_is)
  (case l24=>k_is)
  (case c24=>k_is)
  (case k24=>k_is)
  (case ld24=>k_is)
  (case a25=>k_is)
  (case l25=>k_is)
  (case c25=>k_is)
  (case k25=>k_is)
  (case a26=>k_is)
  (case l26=>k_is)
  (case c26=>k_is)
  (case k26=>k_is)
  (case a27=>k_is)
  (case l27=>k_is)
  (case c27=>k_is)
  (case k27=>k_is)
  (case a28=>k_is)
  (case l28=>k_is)
  (case c28=>k_is)
  (case k28=>k_is)
  (case a29=>k_is)
  (case l29=>k_is)
  (case c29=>k_is)
  (case k29=>k_is)
  (case a30=>k_is)
  (case l30=>k_is)
  (case c30=>k_is)
  (case k30=>k_is)
  (case a31=>k_is)
  (case l31=>k_is)
  (case c31=>k_is)
  (case k31=>k_is)
  (case a32=>k_is)
  (case l32=>k_is)
  (case c32=>k_is)
  (case k32=>k_is)
  (case a33=>k_is)
  (case l33=>k_is)
  (case c33=>k_is)
  (case k33=>k_is)
  (case a34=>k_is)
  (case l34=>k_is)
  (case c34=>k_is)
  (case k34=>k_is)
  (case a35=>k_is)
  (case l35=>k_is)
  (case c35=>k_is)
  (case k35=>k_is)
  (case z0=>k_is)
  (case z1=>k_is)
  (case z2=>k_is)
  (case z3=>k_is)
  (case z4=>k_is)
  (case z5=>k_is)
  (case z6=>k_is)
  (case z7=>k_is)
  (case z8=>k_is)
  (case z9=>k_is)
  (case z10=>k_is)
  (case z11=>k_is)
  (case z12=>k_is)
  (case z13=>k_is)
  (case z14=>k_is)
  (case z15=>k_is)
  (case tne01=>decide)
  (case tne02=>decide)
  (case tne03=>decide)
  (case tne12=>decide)
  (case tne13=>decide)
  (case tne23=>decide)
  (case p_a=>k_is)
  (case p_l=>k_is)
  (case p_k=>repeat (first | exact⟨⟩ | refine⟨⟨_,_,rfl,rfl⟩,?_⟩))
  (case p_s=>rfl)
  (case pq_no=>k_is)
  (case pr_no=>k_is)
  (case pq_an=>k_is)
  (case pr_an=>k_is)
  (case pq_or=>k_is)
  (case pr_or=>k_is)
  (case pq_so=>k_is)
  (case pr_so=>k_is)
  (case pq_ea=>k_is)
  (case pr_ea=>k_is)
  (case pq_same=>k_is)
  (case pq_less=>k_is)
  (case pq_sign=>k_is)
  (case pq_alike=>k_is)
  (case s_a=>k_is)
  (case s_l=>k_is)
  (case s_k=>repeat (first | exact⟨⟩ | refine⟨⟨_,_,rfl,rfl⟩,?_⟩))
  (case s_s=>rfl)
  (case sq_sa=>k_is)
  (case sr_sa=>k_is)
  (case sq_le=>k_is)
  (case sr_le=>k_is)
  (case sq_si=>k_is)
  (case sr_si=>k_is)
  (case sq_al=>k_is)
  (case sr_al=>k_is)
  (case sq_not=>k_is)
  (case sq_and=>k_is)
  (case sq_or=>k_is)
  (case sq_some=>k_is)
  (case sq_each=>k_is)
#print axioms PySem.Challenge.cw_figurejudge_k33_same_and_less_by_sums_holds
